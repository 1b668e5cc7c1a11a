/-
  What nat.Bytes answers: a number's bytes, the highest first, or that it can't be.
-/
import Derived.Test.YtloajnaphenbjaaGreatDoorBn
import Derived.Test.YtloajnaphenbjaaGreatDoorAdd
import Derived.Laws.BytesArg
namespace Go.Proofs.YtloajnaphenbjaaGreatDoor
open Go.RowKit
set_option linter.unusedVariables false
theorem gen_split {xs : List Int} {m r t : Nat} (hd : Dig W xs) (hr : r + t ≤ 64) : val W xs / 2 ^ (64 * m + r) % 2 ^ t = dig xs m / 2 ^ r % 2 ^ t := by
  have h := val_vf W xs (m := m + 1 + xs.length) (by omega)
  rw [vf_split W (dig xs) (m + 1) xs.length] at h
  have hlow := vf_bd (b := W) (by decide) (fun j => dig_bd (b := W) (by decide) hd j) m
  generalize vf W (fun j => dig xs (m + 1 + j)) xs.length = hi at h
  simp only [vf] at h
  rw [h]
  have e1 : (2 : Int) ^ (64 * m + r) = W ^ m * 2 ^ r := by rw [Int.pow_add, W_pow]
  have e2 : W ^ (m + 1) = W ^ m * W := Int.pow_succ _ _
  have e3 : W = 2 ^ r * 2 ^ (64 - t - r) * 2 ^ t := by
    rw [← Int.pow_add, ← Int.pow_add, show r + (64 - t - r) + t = 64 by omega]; decide
  have hp := pow_pos' W_two m
  have hp2 : (0 : Int) < 2 ^ r := Int.pow_pos (by decide)
  have e4 : vf W (dig xs) m + dig xs m * W ^ m + W ^ (m + 1) * hi = vf W (dig xs) m + W ^ m * (dig xs m + W * hi) := by rw [e2]; grind
  rw [e4, e1, ← Int.ediv_ediv_of_nonneg (Int.le_of_lt hp), Int.add_mul_ediv_left _ _ (Int.ne_of_gt hp), Int.ediv_eq_zero_of_lt hlow.1 hlow.2, Int.zero_add]
  have e5 : dig xs m + W * hi = dig xs m + 2 ^ r * (2 ^ t * (2 ^ (64 - t - r) * hi)) := by
    have : W * hi = 2 ^ r * (2 ^ t * (2 ^ (64 - t - r) * hi)) := by
      conv => lhs; rw [e3]
      generalize (2 : Int) ^ r = p
      generalize (2 : Int) ^ (64 - t - r) = q
      generalize (2 : Int) ^ t = s
      grind
    rw [this]
  rw [e5, Int.add_mul_ediv_left _ _ (Int.ne_of_gt hp2), Int.add_mul_emod_self_left]
theorem byte_split {xs : List Int} (hd : Dig W xs) (i : Nat) : dig xs (i / 8) / 2 ^ (8 * (i % 8)) % 256 = val W xs / 256 ^ i % 256 := by
  have h := gen_split (m := i / 8) (r := 8 * (i % 8)) (t := 8) hd (by omega)
  have e : (256 : Int) ^ i = 2 ^ (64 * (i / 8) + 8 * (i % 8)) := by
    have : (256 : Int) = 2 ^ 8 := by decide
    rw [this, ← Int.pow_mul]; congr 1; omega
  rw [e]
  exact h.symm
/-- A number's n bytes, the highest first. -/
def bytesL (N : Int) (n : Nat) : List Int := (List.range n).map fun j => N / 256 ^ (n - 1 - j) % 256
theorem bytesL_len (N : Int) (n : Nat) : (bytesL N n).length = n := by simp [bytesL]
theorem bytesL_dig {N : Int} {n j : Nat} (h : j < n) : dig (bytesL N n) j = N / 256 ^ (n - 1 - j) % 256 := by
  refine dig_lt ?_
  simp [bytesL, h]
theorem info5 : (Tryz.prog.info? 5).map (fun i => (i.zero, i.size, i.bytes)) = some (some (.int .u8 0), 1, 1) := by kernel_rfl
theorem made8 (n : Nat) : madeCells (Value.cells (.int .u8 0)) (n * 1) = ((List.replicate n 0).map (Value.int .u8)).toArray := by
  apply Array.ext'
  rw [Nat.mul_one]
  show (madeCells #[Value.int .u8 0] n).toList = _
  rw [toList_madeCells_one]; simp
theorem run_make8 (n : Nat) {C : Int} (hC : C = n) (hn : n ≤ 35184372088832) (w : World) : (Instr.makeSlice 51 (.int .i64 C) (.int .i64 C)).run Tryz.prog w =
    .ok (.slice (some ⟨w.heap.size, 0, none⟩) n n) (w.alloc (.cells ((List.replicate n 0).map (Value.int .u8)).toArray 5)) := by
  subst hC
  obtain ⟨i0, hi, hz0, hz1, hz2⟩ := info_parts info5
  have hr := run_make (P := Tryz.prog) w 51 5 i0 (.int .u8 0) Tryz.underlying51 hi hz0 .i64 .i64 n n (by omega) (by omega) (by rw [hz2]; omega) (by omega)
  rw [hz1, made8] at hr
  simpa using hr
def BytR (N : Int) (n : Nat) (w : World) (i : Value) (wr : World) : Prop :=
  ∃ (k : Nat) (zs : List Int), k ≤ n ∧ i = .int .i64 k ∧ Row wr w.heap.size 5 .u8 zs ∧ zs.length = n ∧ (∀ j, n - k ≤ j → j < n → dig zs j = N / 256 ^ (n - 1 - j) % 256) ∧ Below w.heap.size w wr
def BytP (N : Int) (n : Nat) (w : World) (e : Ending) (w' : World) : Prop :=
  e = .returned (.tuple #[.slice (some ⟨w.heap.size, 0, none⟩) n n, .nilIface]) ∧ Row w' w.heap.size 5 .u8 (bytesL N n) ∧ Below w.heap.size w w'
set_option maxHeartbeats 1000000 in
theorem bytes_any {A : Option Addr} {n c : Nat} {N : Int} {w : World} (h : Nm w A n c N) (l : Nat) (hl : l ≤ 1024) (hfit : nb N ≤ 8 * l) :
    Calls Tryz.prog 53 #[.slice A n c, .int .i64 l] w (BytP N l w) := by
  obtain ⟨⟨xs, h1, h2, h3⟩, h4, h5, h6⟩ := id h
  have hmk := fun W => run_make8 l (C := (l : Int)) rfl (by omega) W
  obtain ⟨Z, hZ⟩ : ∃ Z : List Int, Z = List.replicate l 0 := ⟨_, rfl⟩
  rw [← hZ] at hmk
  have HZ := Lib.hid hZ
  have H3 := Lib.hid h3
  clear hZ h3
  have t1 : decide (8 * (l : Int) < (nb N : Int)) = false := by simp; omega
  go_enter Tryz.func53, Tryz.ntmps53
  go_wp2_with fail
  refine (bits_any h).mono ?_
  rintro e w1 ⟨rfl, rfl⟩
  go_wp2_with fail
  clear hmk t1
  go_loopw [24] (fun i wr => BytR N l w i wr) (fun i _ => l - (intOf i).toNat)
  case atStart =>
    exact ⟨0, Z, Nat.zero_le _, rfl, Row.new _ _ _ _, by rw [HZ.out]; simp, fun j h1 h2 => by omega, (Below.refl _ _).alloc (Nat.le_refl _) _⟩
  case round =>
    obtain ⟨k, zs, hk, rfl, hrow, hzl, hz, hb⟩ := hrel
    have HZE := Lib.hid hz
    have HZL := Lib.hid hzl
    clear hz
    rcases Nat.lt_or_ge k l with hlt | hge
    · have hX := h1.below hb
      obtain ⟨p, hp⟩ : ∃ p, p + k + 1 = l := ⟨l - 1 - k, by omega⟩
      have e1 : (l : Int) - 1 - k = p := by omega
      have fz := hrow.frozen p
      have cz := hrow.cell (getElem?_dig (show p < zs.length by omega))
      have hpl : p < l := by omega
      have hd := dig_W h2 (k / 8)
      have HP := Lib.hid hp
      clear hzl hp
      go_wp2_with fail
      refine (limbAt_any A n c xs (k / 8) _ hX).mono ?_
      rintro e w1 ⟨rfl, rfl⟩
      go_wp2_with fail
      go_roundw
      case rel =>
        have hps := HP.out
        refine ⟨k + 1, _, by omega, by go_num, hrow.set _ _, by simpa using HZL.out, fun j j1 j2 => ?_, hb.setCell (Nat.le_refl _) _⟩
        rcases Nat.lt_or_ge p j with g | g
        · rw [dig_set_ne (by omega)]; exact HZE.out j (by omega) j2
        · obtain rfl : j = p := by omega
          rw [dig_set_same (by rw [HZL.out]; exact hpl), byte_split h2 k, H3.out, show l - 1 - j = k by omega]
      case measure => simp [intOf]; omega
    · obtain rfl : k = l := by omega
      have hzs : zs = bytesL N k := ext_dig (by rw [hzl, bytesL_len]) (fun j hj => by rw [bytesL_dig (by omega)]; exact HZE.out j (by omega) (by omega))
      subst hzs
      go_wp2
      go_ret2
      exact ⟨rfl, hrow, hb⟩
theorem bytes_long {A : Option Addr} {n c : Nat} {N : Int} {w : World} (h : Nm w A n c N) (l : Nat) (hl : l ≤ 1024) (hfit : 8 * l < nb N) :
    Calls Tryz.prog 53 #[.slice A n c, .int .i64 l] w (Err1 2 w) := by
  have t1 : decide (8 * (l : Int) < (nb N : Int)) = true := by simp; omega
  go_enter Tryz.func53, Tryz.ntmps53
  go_wp2_with fail
  refine (bits_any h).mono ?_
  rintro e w1 ⟨rfl, rfl⟩
  go_wp2
  go_ret2
  exact ⟨rfl, Below.refl _ _⟩
theorem bytes_arg {A : Option Addr} {n c : Nat} {w : World} (l : Int) (hl : l < 0 ∨ 1024 < l) :
    Calls Tryz.prog 53 #[.slice A n c, .int .i64 l] w (Err1 1 w) := by
  by_cases h1 : l < 0
  · clear hl
    go_enter Tryz.func53, Tryz.ntmps53
    go_wp2
    go_ret2
    exact ⟨rfl, Below.refl _ _⟩
  · have h2 : 1024 < l := by omega
    clear hl
    go_enter Tryz.func53, Tryz.ntmps53
    go_wp2
    go_ret2
    exact ⟨rfl, Below.refl _ _⟩
end Go.Proofs.YtloajnaphenbjaaGreatDoor
