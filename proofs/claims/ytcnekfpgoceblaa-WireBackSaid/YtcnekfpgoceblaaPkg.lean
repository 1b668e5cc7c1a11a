/-
  Several texts in one: Bn, Bit, Bt, Mk8, Bytes, From.
-/
import Derived.Test.YtcnekfpgoceblaaPka
import Derived.Lib.ItoaNum
import Derived.Laws.BitsLemmas
import Derived.Laws.Bits64b
import Derived.Test.YtcnekfpgoceblaaPkf
import Derived.Laws.BytesArg
import Derived.RegionTactic
import Derived.BigRegion
/-
  What nat.Bits answers.
-/
namespace Go.Proofs.Ytcnekfpgoceblaa
open Go.RowKit
set_option linter.unusedVariables false
/-- How many bits a number has. -/
def nb (N : Int) : Nat := (dg 2 N).length
theorem dg_len_eq {b N : Int} {k : Nat} (hb : 2 ≤ b) (h0 : b ^ (k - 1) ≤ N) (h1 : N < b ^ k) (hk : 0 < k) : (dg b N).length = k := by
  have hp := pow_pos' hb (k - 1)
  have a := dg_len_le hb (by omega) h1
  rcases Nat.lt_or_ge (dg b N).length k with g | g
  · have := dg_lt_pow hb (show 0 ≤ N by omega) (show (dg b N).length ≤ k - 1 by omega)
    omega
  · omega
theorem W_pow (n : Nat) : W ^ n = 2 ^ (64 * n) := by
  have : W = 2 ^ 64 := by decide
  rw [this, ← Int.pow_mul]
theorem nb_top {N : Int} {m : Nat} (hN : 0 < N) (hm : dl N = m + 1) : nb N = 64 * m + Lib.bitLen (dig (dg W N) m).toNat := by
  have ht := dg_top W_two hN
  have hl : (dg W N).length - 1 = m := by have : (dg W N).length = m + 1 := hm; omega
  rw [hl] at ht
  have hd := dig_W (dig_dg W_two (show 0 ≤ N by omega)) m
  have hv := val_dl (show 0 ≤ N by omega) (Nat.le_of_eq hm)
  have hlow := vf_bd (b := W) (by decide) (fun j => dig_bd (b := W) (by decide) (dig_dg W_two (show 0 ≤ N by omega)) j) m
  have hv' : vf W (dig (dg W N)) m + dig (dg W N) m * W ^ m = N := hv
  obtain ⟨t, et⟩ := Int.eq_ofNat_of_zero_le hd.1
  rw [et] at ht hd hv' ⊢
  obtain ⟨b1, b2, b3⟩ := Lib.bitLenAux_bounds 64 t (by omega) (by omega)
  have e : Lib.bitLen t = Lib.bitLenAux 64 t := rfl
  rw [Int.toNat_natCast]
  rw [← e] at b1 b2 b3
  generalize Lib.bitLen t = L at *
  have c2 : (2 : Int) ^ (L - 1) ≤ (t : Int) := by
    have : ((2 ^ (L - 1) : Nat) : Int) ≤ (t : Int) := by omega
    simpa using this
  have c3 : (t : Int) + 1 ≤ 2 ^ L := by
    have : ((t + 1 : Nat) : Int) ≤ ((2 ^ L : Nat) : Int) := by omega
    simpa using this
  have hp := pow_pos' W_two m
  refine dg_len_eq (by decide) ?_ ?_ (by omega)
  · have e1 : 64 * m + L - 1 = (L - 1) + 64 * m := by omega
    rw [e1, Int.pow_add, ← W_pow]
    have := Int.mul_le_mul_of_nonneg_right c2 (show 0 ≤ W ^ m by omega)
    omega
  · have e1 : 64 * m + L = L + 64 * m := by omega
    rw [e1, Int.pow_add, ← W_pow]
    have := Int.mul_le_mul_of_nonneg_right c3 (show 0 ≤ W ^ m by omega)
    rw [Int.add_mul] at this
    omega
theorem nb_le {N : Int} (hN : 0 ≤ N) : nb N ≤ 64 * dl N := by
  refine dg_len_le (by decide) hN ?_
  rw [← W_pow]
  exact lt_dl hN (Nat.le_refl _)
end Go.Proofs.Ytcnekfpgoceblaa
/-
  What nat.Bit answers.
-/
namespace Go.Proofs.Ytcnekfpgoceblaa
open Go.RowKit
set_option linter.unusedVariables false
/-! ### One bit -/
/-- Whether bit i of a number is 1. -/
def bt (N i : Int) : Bool := decide (0 ≤ i ∧ N / 2 ^ i.toNat % 2 = 1)
theorem bit_and {v : Int} (h0 : 0 ≤ v) (h1 : v < 18446744073709551616) : bits .and .u64 v 1 = v % 2 := by
  obtain ⟨a, rfl⟩ := Int.eq_ofNat_of_zero_le h0
  have h := bits_and_u64_nat a 1 (by omega) (by omega)
  rw [Nat.and_one_is_mod] at h
  exact h
theorem bit_split {xs : List Int} {m r : Nat} (hd : Dig W xs) (hr : r < 64) : val W xs / 2 ^ (64 * m + r) % 2 = dig xs m / 2 ^ r % 2 := by
  have h := val_vf W xs (m := m + 1 + xs.length) (by omega)
  rw [vf_split W (dig xs) (m + 1) xs.length] at h
  have hlow := vf_bd (b := W) (by decide) (fun j => dig_bd (b := W) (by decide) hd j) m
  generalize vf W (fun j => dig xs (m + 1 + j)) xs.length = hi at h
  simp only [vf] at h
  rw [h]
  have e1 : (2 : Int) ^ (64 * m + r) = W ^ m * 2 ^ r := by rw [Int.pow_add, W_pow]
  have e2 : W ^ (m + 1) = W ^ m * W := Int.pow_succ _ _
  have e3 : W = 2 ^ r * 2 ^ (63 - r) * 2 := by
    rw [← Int.pow_add, show r + (63 - r) = 63 by omega]; decide
  have hp := pow_pos' W_two m
  have hp2 : (0 : Int) < 2 ^ r := Int.pow_pos (by decide)
  have e4 : vf W (dig xs) m + dig xs m * W ^ m + W ^ (m + 1) * hi = vf W (dig xs) m + W ^ m * (dig xs m + W * hi) := by rw [e2]; grind
  rw [e4, e1, ← Int.ediv_ediv_of_nonneg (Int.le_of_lt hp), Int.add_mul_ediv_left _ _ (Int.ne_of_gt hp), Int.ediv_eq_zero_of_lt hlow.1 hlow.2, Int.zero_add]
  have e5 : dig xs m + W * hi = dig xs m + 2 ^ r * (2 * (2 ^ (63 - r) * hi)) := by
    have : W * hi = 2 ^ r * (2 * (2 ^ (63 - r) * hi)) := by
      conv => lhs; rw [e3]
      generalize (2 : Int) ^ r = p
      generalize (2 : Int) ^ (63 - r) = q
      grind
    rw [this]
  rw [e5, Int.add_mul_ediv_left _ _ (Int.ne_of_gt hp2), Int.add_mul_emod_self_left]
end Go.Proofs.Ytcnekfpgoceblaa
/-
  How many bits a number has, and which: what they say of its size. No call is spoken of here.
-/
namespace Go.Proofs.Ytcnekfpgoceblaa
open Go.RowKit
set_option linter.unusedVariables false
theorem nb_lt {N : Int} (h : 0 ≤ N) : N < 2 ^ nb N := dg_lt_pow (by decide) h (Nat.le_refl _)
theorem nb_ge {N : Int} (h : 0 < N) : 0 < nb N ∧ 2 ^ (nb N - 1) ≤ N := by
  have h0 : nb N ≠ 0 := fun e => by have := (dg_nil_iff (b := 2) (by decide) (show 0 ≤ N by omega)).1 e; omega
  refine ⟨by omega, ?_⟩
  rcases Int.lt_or_le N (2 ^ (nb N - 1)) with g | g
  · have := dg_len_le (b := 2) (by decide) (show 0 ≤ N by omega) g
    have e : (dg 2 N).length = nb N := rfl
    omega
  · exact g
theorem bt_top {N : Int} (h : 0 < N) : bt N ((nb N : Int) - 1) = true := by
  obtain ⟨h0, h1⟩ := nb_ge h
  have h2 := nb_lt (show 0 ≤ N by omega)
  unfold bt
  have e : ((nb N : Int) - 1).toNat = nb N - 1 := by omega
  rw [e]
  have e2 : (2 : Int) ^ nb N = 2 ^ (nb N - 1) * 2 := by
    have : nb N = (nb N - 1) + 1 := by omega
    conv => lhs; rw [this, Int.pow_add]
    rfl
  have hp : (0 : Int) < 2 ^ (nb N - 1) := Int.pow_pos (by decide)
  have q : N / 2 ^ (nb N - 1) = 1 := by
    have a1 : N / 2 ^ (nb N - 1) < 2 := Int.ediv_lt_of_lt_mul hp (by omega)
    have a2 : 1 ≤ N / 2 ^ (nb N - 1) := Int.le_ediv_of_mul_le hp (by omega)
    omega
  rw [q]; simp; omega
theorem bt_past {N : Int} (h : 0 ≤ N) {i : Int} (hi : (nb N : Int) ≤ i) : bt N i = false := by
  unfold bt
  have h2 := nb_lt h
  have q : N / 2 ^ i.toNat = 0 := Int.ediv_eq_zero_of_lt h (Int.lt_of_lt_of_le h2 (pow_mono (by decide) (by omega)))
  rw [q]; simp
theorem half_step {N : Int} {j : Nat} : N / 2 ^ j = 2 * (N / 2 ^ (j + 1)) + N / 2 ^ j % 2 := by
  have e : (2 : Int) ^ (j + 1) = 2 ^ j * 2 := Int.pow_succ _ _
  rw [e, ← Int.ediv_ediv_of_nonneg (Int.le_of_lt (Int.pow_pos (by decide)))]
  omega
theorem bt_val {N : Int} {j : Nat} : N / 2 ^ j % 2 = if bt N j = true then 1 else 0 := by
  unfold bt
  rw [Int.toNat_natCast]
  by_cases h : N / 2 ^ j % 2 = 1
  · rw [if_pos (by simp; exact h)]; exact h
  · rw [if_neg (by simp; exact h)]; omega
def BitsR (N : Int) (w : World) (s i : Value) (wr : World) : Prop :=
  ∃ (k : Nat) (v : Int) (B : Option Addr) (m cap : Nat), i = .int .i64 v ∧ v = (k : Int) - 1 ∧ k ≤ nb N ∧ s = .slice B m cap ∧ Cn wr B m cap (N / 2 ^ k) ∧ Below w.heap.size w wr
end Go.Proofs.Ytcnekfpgoceblaa
/-
  A slice of bytes that is made: all noughts.
-/
namespace Go.Proofs.Ytcnekfpgoceblaa
open Go.RowKit
set_option linter.unusedVariables false
theorem info5 : (Try.prog.info? 5).map (fun i => (i.zero, i.size, i.bytes)) = some (some (.int .u8 0), 1, 1) := by kernel_rfl
theorem made8 (n : Nat) : madeCells (Value.cells (.int .u8 0)) (n * 1) = ((List.replicate n 0).map (Value.int .u8)).toArray := by
  apply Array.ext'
  rw [Nat.mul_one]
  show (madeCells #[Value.int .u8 0] n).toList = _
  rw [toList_madeCells_one]; simp
theorem run_make8 (n : Nat) {C : Int} (hC : C = n) (hn : n ≤ 35184372088832) (w : World) : (Instr.makeSlice 33 (.int .i64 C) (.int .i64 C)).run Try.prog w =
    .ok (.slice (some ⟨w.heap.size, 0, none⟩) n n) (w.alloc (.cells ((List.replicate n 0).map (Value.int .u8)).toArray 5)) := by
  subst hC
  obtain ⟨i0, hi, hz0, hz1, hz2⟩ := info_parts info5
  have hr := run_make (P := Try.prog) w 33 5 i0 (.int .u8 0) Try.underlying33 hi hz0 .i64 .i64 n n (by omega) (by omega) (by rw [hz2]; omega) (by omega)
  rw [hz1, made8] at hr
  simpa using hr
theorem run_make8c (n : Nat) {C : Int} (hC : C = n) (hn : n ≤ 35184372088832) (w : World) : (Instr.makeSlice 33 (.int .i64 0) (.int .i64 C)).run Try.prog w =
    .ok (.slice (some ⟨w.heap.size, 0, none⟩) 0 n) (w.alloc (.cells ((List.replicate n 0).map (Value.int .u8)).toArray 5)) := by
  subst hC
  obtain ⟨i0, hi, hz0, hz1, hz2⟩ := info_parts info5
  have hr := run_make (P := Try.prog) w 33 5 i0 (.int .u8 0) Try.underlying33 hi hz0 .i64 .i64 0 n (by omega) (by omega) (by rw [hz2]; omega) (by omega)
  rw [hz1, made8] at hr
  simpa using hr
end Go.Proofs.Ytcnekfpgoceblaa
/-
  What nat.Bytes answers: a number's bytes, the highest first, or that it can't be.
-/
namespace Go.Proofs.Ytcnekfpgoceblaa
open Go.RowKit
set_option linter.unusedVariables false
theorem gen_split {xs : List Int} {m r t : Nat} (hd : Dig W xs) (hr : r + t ≤ 64) : val W xs / 2 ^ (64 * m + r) % 2 ^ t = dig xs m / 2 ^ r % 2 ^ t := by
  have h := val_vf W xs (m := m + 1 + xs.length) (by omega)
  rw [vf_split W (dig xs) (m + 1) xs.length] at h
  have hlow := vf_bd (b := W) (by decide) (fun j => dig_bd (b := W) (by decide) hd j) m
  generalize vf W (fun j => dig xs (m + 1 + j)) xs.length = hi at h
  simp only [vf] at h
  rw [h]
  have e1 : (2 : Int) ^ (64 * m + r) = W ^ m * 2 ^ r := by rw [Int.pow_add, W_pow]
  have e2 : W ^ (m + 1) = W ^ m * W := Int.pow_succ _ _
  have e3 : W = 2 ^ r * 2 ^ (64 - t - r) * 2 ^ t := by
    rw [← Int.pow_add, ← Int.pow_add, show r + (64 - t - r) + t = 64 by omega]; decide
  have hp := pow_pos' W_two m
  have hp2 : (0 : Int) < 2 ^ r := Int.pow_pos (by decide)
  have e4 : vf W (dig xs) m + dig xs m * W ^ m + W ^ (m + 1) * hi = vf W (dig xs) m + W ^ m * (dig xs m + W * hi) := by rw [e2]; grind
  rw [e4, e1, ← Int.ediv_ediv_of_nonneg (Int.le_of_lt hp), Int.add_mul_ediv_left _ _ (Int.ne_of_gt hp), Int.ediv_eq_zero_of_lt hlow.1 hlow.2, Int.zero_add]
  have e5 : dig xs m + W * hi = dig xs m + 2 ^ r * (2 ^ t * (2 ^ (64 - t - r) * hi)) := by
    have : W * hi = 2 ^ r * (2 ^ t * (2 ^ (64 - t - r) * hi)) := by
      conv => lhs; rw [e3]
      generalize (2 : Int) ^ r = p
      generalize (2 : Int) ^ (64 - t - r) = q
      generalize (2 : Int) ^ t = s
      grind
    rw [this]
  rw [e5, Int.add_mul_ediv_left _ _ (Int.ne_of_gt hp2), Int.add_mul_emod_self_left]
theorem byte_split {xs : List Int} (hd : Dig W xs) (i : Nat) : dig xs (i / 8) / 2 ^ (8 * (i % 8)) % 256 = val W xs / 256 ^ i % 256 := by
  have h := gen_split (m := i / 8) (r := 8 * (i % 8)) (t := 8) hd (by omega)
  have e : (256 : Int) ^ i = 2 ^ (64 * (i / 8) + 8 * (i % 8)) := by
    have : (256 : Int) = 2 ^ 8 := by decide
    rw [this, ← Int.pow_mul]; congr 1; omega
  rw [e]
  exact h.symm
/-- A number's n bytes, the highest first. -/
def bytesL (N : Int) (n : Nat) : List Int := (List.range n).map fun j => N / 256 ^ (n - 1 - j) % 256
theorem bytesL_len (N : Int) (n : Nat) : (bytesL N n).length = n := by simp [bytesL]
theorem bytesL_dig {N : Int} {n j : Nat} (h : j < n) : dig (bytesL N n) j = N / 256 ^ (n - 1 - j) % 256 := by
  refine dig_lt ?_
  simp [bytesL, h]
def BytR (N : Int) (n : Nat) (w : World) (i : Value) (wr : World) : Prop :=
  ∃ (k : Nat) (zs : List Int), k ≤ n ∧ i = .int .i64 k ∧ Row wr w.heap.size 5 .u8 zs ∧ zs.length = n ∧ (∀ j, n - k ≤ j → j < n → dig zs j = N / 256 ^ (n - 1 - j) % 256) ∧ Below w.heap.size w wr
def BytP (N : Int) (n : Nat) (w : World) (e : Ending) (w' : World) : Prop :=
  e = .returned (.tuple #[.slice (some ⟨w.heap.size, 0, none⟩) n n, .nilIface]) ∧ Row w' w.heap.size 5 .u8 (bytesL N n) ∧ Below w.heap.size w w'
end Go.Proofs.Ytcnekfpgoceblaa
/-
  What nat.From answers: the number of bytes, the highest first, or ErrLong.
-/
namespace Go.Proofs.Ytcnekfpgoceblaa
open Go.RowKit
set_option linter.unusedVariables false
/-- The lowest k bytes of bytes, the highest first. -/
def low (bs : List Int) (n k : Nat) : Int := vf 256 (fun i => dig bs (n - 1 - i)) k
theorem low_succ (bs : List Int) (n k : Nat) : low bs n (k + 1) = low bs n k + dig bs (n - 1 - k) * 256 ^ k := rfl
theorem pow256 (k : Nat) : (256 : Int) ^ k = W ^ (k / 8) * pw (8 * (k % 8)) := by
  have h1 : (256 : Int) = 2 ^ 8 := by decide
  unfold pw
  rw [h1, ← Int.pow_mul, W_pow, ← Int.pow_add]
  congr 1; omega
theorem shl_byte {b : Int} {r : Nat} (h0 : 0 ≤ b) (h1 : b < 256) (hr : r < 8) : IntKind.u64.wrap (b * 2 ^ (8 * r)) = pw (8 * r) * b := by
  rw [wrap_shl b (by omega)]
  have h2 : 256 ≤ pw (64 - 8 * r) := by
    have := pow_mono (b := 2) (by decide) (show 8 ≤ 64 - 8 * r by omega)
    have e : (2 : Int) ^ 8 = 256 := by decide
    unfold pw; omega
  rw [Int.emod_eq_of_lt h0 (by omega)]
theorem or_byte {z b : Int} {r : Nat} (hr : r < 8) (z0 : 0 ≤ z) (z1 : z < pw (8 * r)) (h0 : 0 ≤ b) (h1 : b < 256) :
    bits .or .u64 z (IntKind.u64.wrap (b * 2 ^ (8 * r))) = z + pw (8 * r) * b ∧ z + pw (8 * r) * b < pw (8 * (r + 1)) ∧ 0 ≤ z + pw (8 * r) * b ∧ pw (8 * (r + 1)) ≤ W := by
  have hp := pw_pos (8 * r)
  have e1 : pw (8 * (r + 1)) = pw (8 * r) * 256 := by
    unfold pw
    rw [show 8 * (r + 1) = 8 * r + 8 by omega, Int.pow_add]; rfl
  have h2 : 256 ≤ pw (64 - 8 * r) := by
    have := pow_mono (b := 2) (by decide) (show 8 ≤ 64 - 8 * r by omega)
    have e : (2 : Int) ^ 8 = 256 := by decide
    unfold pw; omega
  rw [shl_byte h0 h1 hr, or_sum' (by omega) h0 (by omega) z0 z1, e1]
  have h3 := Int.mul_le_mul_of_nonneg_left (show b + 1 ≤ 256 by omega) (show 0 ≤ pw (8 * r) by omega)
  rw [Int.mul_add] at h3
  have h4 := Int.mul_nonneg (show 0 ≤ pw (8 * r) by omega) h0
  refine ⟨by omega, by omega, by omega, ?_⟩
  have h5 := pw_mul (s := 8 * (r + 1)) (by omega)
  have h6 := pw_pos (64 - 8 * (r + 1))
  have h7 := Int.mul_le_mul_of_nonneg_left (show (1 : Int) ≤ pw (64 - 8 * (r + 1)) by omega) (show 0 ≤ pw (8 * (r + 1)) from Int.le_of_lt (pw_pos _))
  rw [← e1]
  unfold W; omega
def FrR (bs : List Int) (n L : Nat) (w : World) (i : Value) (wr : World) : Prop :=
  ∃ (k : Nat) (zs : List Int), k ≤ n ∧ i = .int .i64 k ∧ Row wr w.heap.size 41 .u64 zs ∧ zs.length = L ∧ Dig W zs ∧ (∀ j, k / 8 < j → dig zs j = 0) ∧ dig zs (k / 8) < pw (8 * (k % 8)) ∧ vf W (dig zs) L = low bs n k ∧ Below w.heap.size w wr
theorem fr_sum {zs : List Int} {m L : Nat} {d : Int} (hl : zs.length = L) (hm : m < L) : vf W (dig (zs.set m (dig zs m + d))) L = vf W (dig zs) L + d * W ^ m := by
  have h := vf_window (rs := zs) (ys := zs.set m (dig zs m + d)) (j := m) (n := 1) (t := L) (fun i hi => dig_set_ne (by omega)) (by omega)
  have e1 : wv (zs.set m (dig zs m + d)) m 1 = dig zs m + d := by
    unfold wv; simp only [vf, Nat.add_zero]; rw [dig_set_same (by omega)]; simp
  have e2 : wv zs m 1 = dig zs m := by
    unfold wv; simp only [vf, Nat.add_zero]; simp
  rw [e1, e2, show dig zs m + d - dig zs m = d by omega, Int.mul_comm] at h
  omega
theorem fr_round {zs bs : List Int} {k n L : Nat} {z b v : Int} (hl : zs.length = L) (hm : k / 8 < L) (hz : dig zs (k / 8) = z) (hv : v = z + pw (8 * (k % 8)) * b) (h2 : z + pw (8 * (k % 8)) * b < pw (8 * (k % 8 + 1))) (h0 : ∀ j, k / 8 < j → dig zs j = 0)
    (hs : vf W (dig zs) L = low bs n k) (hb : dig bs (n - 1 - k) = b) : (∀ j, (k + 1) / 8 < j → dig (zs.set (k / 8) v) j = 0) ∧ dig (zs.set (k / 8) v) ((k + 1) / 8) < pw (8 * ((k + 1) % 8)) ∧ vf W (dig (zs.set (k / 8) v)) L = low bs n (k + 1) := by
  refine ⟨fun j hj => ?_, ?_, ?_⟩
  · rw [dig_set_ne (by omega)]; exact h0 j (by omega)
  · rcases Nat.lt_or_ge (k % 8) 7 with g | g
    · rw [show (k + 1) / 8 = k / 8 by omega, show (k + 1) % 8 = k % 8 + 1 by omega, dig_set_same (by omega), hv]; exact h2
    · rw [show (k + 1) / 8 = k / 8 + 1 by omega, dig_set_ne (by omega), h0 _ (by omega)]; exact pw_pos _
  · rw [hv, ← hz, fr_sum hl hm, hs, low_succ, hb, pow256]
    generalize W ^ (k / 8) = p
    generalize pw (8 * (k % 8)) = q
    grind
end Go.Proofs.Ytcnekfpgoceblaa
