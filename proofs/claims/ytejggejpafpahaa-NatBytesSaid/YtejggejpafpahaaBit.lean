/-
  What nat.Bits and nat.Bit answer.
-/
import Derived.Test.YtejggejpafpahaaNm
import Derived.Test.YtejggejpafpahaaMul
import Derived.Lib.ItoaNum
import Derived.Laws.BitsLemmas
import Derived.Laws.Bits64b
namespace Go.Proofs.Ytejggejpafpahaa
open Go.RowKit
set_option linter.unusedVariables false
/-- How many bits a number has. -/
def nb (N : Int) : Nat := (dg 2 N).length
theorem dg_len_eq {b N : Int} {k : Nat} (hb : 2 ≤ b) (h0 : b ^ (k - 1) ≤ N) (h1 : N < b ^ k) (hk : 0 < k) : (dg b N).length = k := by
  have hp := pow_pos' hb (k - 1)
  have a := dg_len_le hb (by omega) h1
  rcases Nat.lt_or_ge (dg b N).length k with g | g
  · have := dg_lt_pow hb (show 0 ≤ N by omega) (show (dg b N).length ≤ k - 1 by omega)
    omega
  · omega
theorem W_pow (n : Nat) : W ^ n = 2 ^ (64 * n) := by
  have : W = 2 ^ 64 := by decide
  rw [this, ← Int.pow_mul]
theorem nb_top {N : Int} {m : Nat} (hN : 0 < N) (hm : dl N = m + 1) : nb N = 64 * m + Lib.bitLen (dig (dg W N) m).toNat := by
  have ht := dg_top W_two hN
  have hl : (dg W N).length - 1 = m := by have : (dg W N).length = m + 1 := hm; omega
  rw [hl] at ht
  have hd := dig_W (dig_dg W_two (show 0 ≤ N by omega)) m
  have hv := val_dl (show 0 ≤ N by omega) (Nat.le_of_eq hm)
  have hlow := vf_bd (b := W) (by decide) (fun j => dig_bd (b := W) (by decide) (dig_dg W_two (show 0 ≤ N by omega)) j) m
  have hv' : vf W (dig (dg W N)) m + dig (dg W N) m * W ^ m = N := hv
  obtain ⟨t, et⟩ := Int.eq_ofNat_of_zero_le hd.1
  rw [et] at ht hd hv' ⊢
  obtain ⟨b1, b2, b3⟩ := Lib.bitLenAux_bounds 64 t (by omega) (by omega)
  have e : Lib.bitLen t = Lib.bitLenAux 64 t := rfl
  rw [Int.toNat_natCast]
  rw [← e] at b1 b2 b3
  generalize Lib.bitLen t = L at *
  have c2 : (2 : Int) ^ (L - 1) ≤ (t : Int) := by
    have : ((2 ^ (L - 1) : Nat) : Int) ≤ (t : Int) := by omega
    simpa using this
  have c3 : (t : Int) + 1 ≤ 2 ^ L := by
    have : ((t + 1 : Nat) : Int) ≤ ((2 ^ L : Nat) : Int) := by omega
    simpa using this
  have hp := pow_pos' W_two m
  refine dg_len_eq (by decide) ?_ ?_ (by omega)
  · have e1 : 64 * m + L - 1 = (L - 1) + 64 * m := by omega
    rw [e1, Int.pow_add, ← W_pow]
    have := Int.mul_le_mul_of_nonneg_right c2 (show 0 ≤ W ^ m by omega)
    omega
  · have e1 : 64 * m + L = L + 64 * m := by omega
    rw [e1, Int.pow_add, ← W_pow]
    have := Int.mul_le_mul_of_nonneg_right c3 (show 0 ≤ W ^ m by omega)
    rw [Int.add_mul] at this
    omega
theorem nb_le {N : Int} (hN : 0 ≤ N) : nb N ≤ 64 * dl N := by
  refine dg_len_le (by decide) hN ?_
  rw [← W_pow]
  exact lt_dl hN (Nat.le_refl _)
set_option maxHeartbeats 400000 in
theorem bits_any {A : Option Addr} {n c : Nat} {N : Int} {w : World} (h : Nm w A n c N) :
    Calls Try.prog 29 #[.slice A n c] w fun e w' => e = .returned (.int .i64 (nb N : Nat)) ∧ w = w' := by
  have hx := h.lim
  have hle : dl N ≤ 17592186044416 := by have := hx.nc; have := hx.c60; omega
  by_cases hz : N = 0
  · subst hz
    have h0 : dl 0 = 0 := (dl_zero (Int.le_refl 0)).2 rfl
    have hb : ((dl 0 : Int) == 0) = true := by simpa using h0
    have e0 : nb 0 = 0 := by unfold nb; rw [dg_zero]; rfl
    rw [e0]
    clear h0 e0
    go_enter Try.func29, Try.ntmps29
    go_wp2_with fail
    refine (limbs_nm h).mono ?_
    rintro e w1 ⟨rfl, rfl⟩
    go_wp2
    go_ret
    exact ⟨rfl, rfl⟩
  · have hN : 0 < N := by have := h.pos; omega
    obtain ⟨m, hm⟩ : ∃ m, dl N = m + 1 := ⟨dl N - 1, by have : dl N ≠ 0 := fun e => hz ((dl_zero h.pos).1 e); omega⟩
    have hnb := nb_top hN hm
    obtain ⟨b, off, x, rfl, hb, hxx, hcell⟩ := hx.rd.at_ (j := m) (by omega)
    have hxe := dig_lt hxx
    have hd := dig_W (dig_dg W_two h.pos) m
    rw [hxe] at hd hnb
    have hbl := Lib.bitLen_le x.toNat 64 (by omega) (by omega)
    have hq : ((dl N : Int) == 0) = false := by rw [hm]; simp; omega
    have e1 : (dl N : Int) - 1 = m := by omega
    have hmn : m < dl N := by omega
    have HNB := Lib.hid hnb
    clear hnb hxx hxe hm hz
    go_enter Try.func29, Try.ntmps29
    go_wp2_with fail
    refine (limbs_nm h).mono ?_
    rintro e w1 ⟨rfl, rfl⟩
    go_wp2_with fail
    refine (len64 x _ hd.1 hd.2).mono ?_
    rintro e w1 ⟨rfl, rfl⟩
    go_wp2
    go_ret
    exact ⟨by rw [HNB.out]; go_num, rfl⟩
/-! ### One bit -/
/-- Whether bit i of a number is 1. -/
def bt (N i : Int) : Bool := decide (0 ≤ i ∧ N / 2 ^ i.toNat % 2 = 1)
theorem bit_and {v : Int} (h0 : 0 ≤ v) (h1 : v < 18446744073709551616) : bits .and .u64 v 1 = v % 2 := by
  obtain ⟨a, rfl⟩ := Int.eq_ofNat_of_zero_le h0
  have h := bits_and_u64_nat a 1 (by omega) (by omega)
  rw [Nat.and_one_is_mod] at h
  exact h
theorem bit_split {xs : List Int} {m r : Nat} (hd : Dig W xs) (hr : r < 64) : val W xs / 2 ^ (64 * m + r) % 2 = dig xs m / 2 ^ r % 2 := by
  have h := val_vf W xs (m := m + 1 + xs.length) (by omega)
  rw [vf_split W (dig xs) (m + 1) xs.length] at h
  have hlow := vf_bd (b := W) (by decide) (fun j => dig_bd (b := W) (by decide) hd j) m
  generalize vf W (fun j => dig xs (m + 1 + j)) xs.length = hi at h
  simp only [vf] at h
  rw [h]
  have e1 : (2 : Int) ^ (64 * m + r) = W ^ m * 2 ^ r := by rw [Int.pow_add, W_pow]
  have e2 : W ^ (m + 1) = W ^ m * W := Int.pow_succ _ _
  have e3 : W = 2 ^ r * 2 ^ (63 - r) * 2 := by
    rw [← Int.pow_add, show r + (63 - r) = 63 by omega]; decide
  have hp := pow_pos' W_two m
  have hp2 : (0 : Int) < 2 ^ r := Int.pow_pos (by decide)
  have e4 : vf W (dig xs) m + dig xs m * W ^ m + W ^ (m + 1) * hi = vf W (dig xs) m + W ^ m * (dig xs m + W * hi) := by rw [e2]; grind
  rw [e4, e1, ← Int.ediv_ediv_of_nonneg (Int.le_of_lt hp), Int.add_mul_ediv_left _ _ (Int.ne_of_gt hp), Int.ediv_eq_zero_of_lt hlow.1 hlow.2, Int.zero_add]
  have e5 : dig xs m + W * hi = dig xs m + 2 ^ r * (2 * (2 ^ (63 - r) * hi)) := by
    have : W * hi = 2 ^ r * (2 * (2 ^ (63 - r) * hi)) := by
      conv => lhs; rw [e3]
      generalize (2 : Int) ^ r = p
      generalize (2 : Int) ^ (63 - r) = q
      grind
    rw [this]
  rw [e5, Int.add_mul_ediv_left _ _ (Int.ne_of_gt hp2), Int.add_mul_emod_self_left]
set_option maxHeartbeats 400000 in
theorem bit_any {A : Option Addr} {n c : Nat} {N : Int} {w : World} (h : Nm w A n c N) (i : Int) (i1 : i ≤ 9223372036854775807) :
    Calls Try.prog 31 #[.slice A n c, .int .i64 i] w fun e w' => e = .returned (.bool (bt N i)) ∧ w = w' := by
  have hc60 := h.c60
  have hnc := h.nc
  obtain ⟨⟨xs, h1, h2, h3⟩, h4, h5, h6⟩ := h
  by_cases hi : i < 0
  · have e : bt N i = false := by unfold bt; simp; omega
    rw [e]
    clear e
    go_enter Try.func31, Try.ntmps31
    go_wp2
    go_ret
    exact ⟨rfl, rfl⟩
  · obtain ⟨k, rfl⟩ := Int.eq_ofNat_of_zero_le (show 0 ≤ i by omega)
    have hsp := bit_split (xs := xs) (m := k / 64) (r := k % 64) h2 (by omega)
    rw [show 64 * (k / 64) + k % 64 = k by omega, h3] at hsp
    have e : bt N k = decide (dig xs (k / 64) / 2 ^ (k % 64) % 2 = 1) := by
      unfold bt; rw [Int.toNat_natCast, hsp]; simp
    rw [e]
    clear e hsp hi
    rcases Nat.lt_or_ge (k / 64) n with hlt | hge
    · obtain ⟨b, off, x, rfl, hb, hxx, hcell⟩ := h1.at_ hlt
      rw [dig_lt hxx]
      have hd := dig_W h2 (k / 64)
      rw [dig_lt hxx] at hd
      have q0 : 0 ≤ x / 2 ^ (k % 64) := Int.ediv_nonneg hd.1 (Int.le_of_lt (Int.pow_pos (by decide)))
      have q1 : x / 2 ^ (k % 64) ≤ x := Int.ediv_le_self _ hd.1
      have ha := bit_and (v := x / 2 ^ (k % 64)) q0 (by omega)
      have hkk : (k : Int) / 64 < (n : Int) := by omega
      clear hxx h1 h3
      go_enter Try.func31, Try.ntmps31
      go_wp2
      go_ret
      exact ⟨congrArg (fun b => Ending.returned (.bool b)) (by simp [BEq.beq]), rfl⟩
    · rw [dig_ge (by rw [h1.len]; exact hge)]
      have hkk : (n : Int) ≤ (k : Int) / 64 := by omega
      clear h1 h3
      go_enter Try.func31, Try.ntmps31
      go_wp2
      go_ret
      exact ⟨by simp, rfl⟩
end Go.Proofs.Ytejggejpafpahaa
