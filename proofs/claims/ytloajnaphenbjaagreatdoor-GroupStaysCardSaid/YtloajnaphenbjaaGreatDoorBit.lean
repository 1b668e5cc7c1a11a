/-
  What nat.Bit answers.
-/
import Derived.Test.YtloajnaphenbjaaGreatDoorBn
namespace Go.Proofs.YtloajnaphenbjaaGreatDoor
open Go.RowKit
set_option linter.unusedVariables false
/-! ### One bit -/
/-- Whether bit i of a number is 1. -/
def bt (N i : Int) : Bool := decide (0 ≤ i ∧ N / 2 ^ i.toNat % 2 = 1)
theorem bit_and {v : Int} (h0 : 0 ≤ v) (h1 : v < 18446744073709551616) : bits .and .u64 v 1 = v % 2 := by
  obtain ⟨a, rfl⟩ := Int.eq_ofNat_of_zero_le h0
  have h := bits_and_u64_nat a 1 (by omega) (by omega)
  rw [Nat.and_one_is_mod] at h
  exact h
theorem bit_split {xs : List Int} {m r : Nat} (hd : Dig W xs) (hr : r < 64) : val W xs / 2 ^ (64 * m + r) % 2 = dig xs m / 2 ^ r % 2 := by
  have h := val_vf W xs (m := m + 1 + xs.length) (by omega)
  rw [vf_split W (dig xs) (m + 1) xs.length] at h
  have hlow := vf_bd (b := W) (by decide) (fun j => dig_bd (b := W) (by decide) hd j) m
  generalize vf W (fun j => dig xs (m + 1 + j)) xs.length = hi at h
  simp only [vf] at h
  rw [h]
  have e1 : (2 : Int) ^ (64 * m + r) = W ^ m * 2 ^ r := by rw [Int.pow_add, W_pow]
  have e2 : W ^ (m + 1) = W ^ m * W := Int.pow_succ _ _
  have e3 : W = 2 ^ r * 2 ^ (63 - r) * 2 := by
    rw [← Int.pow_add, show r + (63 - r) = 63 by omega]; decide
  have hp := pow_pos' W_two m
  have hp2 : (0 : Int) < 2 ^ r := Int.pow_pos (by decide)
  have e4 : vf W (dig xs) m + dig xs m * W ^ m + W ^ (m + 1) * hi = vf W (dig xs) m + W ^ m * (dig xs m + W * hi) := by rw [e2]; grind
  rw [e4, e1, ← Int.ediv_ediv_of_nonneg (Int.le_of_lt hp), Int.add_mul_ediv_left _ _ (Int.ne_of_gt hp), Int.ediv_eq_zero_of_lt hlow.1 hlow.2, Int.zero_add]
  have e5 : dig xs m + W * hi = dig xs m + 2 ^ r * (2 * (2 ^ (63 - r) * hi)) := by
    have : W * hi = 2 ^ r * (2 * (2 ^ (63 - r) * hi)) := by
      conv => lhs; rw [e3]
      generalize (2 : Int) ^ r = p
      generalize (2 : Int) ^ (63 - r) = q
      grind
    rw [this]
  rw [e5, Int.add_mul_ediv_left _ _ (Int.ne_of_gt hp2), Int.add_mul_emod_self_left]
set_option maxHeartbeats 400000 in
theorem bit_any {A : Option Addr} {n c : Nat} {N : Int} {w : World} (h : Nm w A n c N) (i : Int) (i1 : i ≤ 9223372036854775807) :
    Calls Tryz.prog 59 #[.slice A n c, .int .i64 i] w fun e w' => e = .returned (.bool (bt N i)) ∧ w = w' := by
  have hc60 := h.c60
  have hnc := h.nc
  obtain ⟨⟨xs, h1, h2, h3⟩, h4, h5, h6⟩ := h
  by_cases hi : i < 0
  · have e : bt N i = false := by unfold bt; simp; omega
    rw [e]
    clear e
    go_enter Tryz.func59, Tryz.ntmps59
    go_wp2
    go_ret
    exact ⟨rfl, rfl⟩
  · obtain ⟨k, rfl⟩ := Int.eq_ofNat_of_zero_le (show 0 ≤ i by omega)
    have hsp := bit_split (xs := xs) (m := k / 64) (r := k % 64) h2 (by omega)
    rw [show 64 * (k / 64) + k % 64 = k by omega, h3] at hsp
    have e : bt N k = decide (dig xs (k / 64) / 2 ^ (k % 64) % 2 = 1) := by
      unfold bt; rw [Int.toNat_natCast, hsp]; simp
    rw [e]
    clear e hsp hi
    rcases Nat.lt_or_ge (k / 64) n with hlt | hge
    · obtain ⟨b, off, x, rfl, hb, hxx, hcell⟩ := h1.at_ hlt
      rw [dig_lt hxx]
      have hd := dig_W h2 (k / 64)
      rw [dig_lt hxx] at hd
      have q0 : 0 ≤ x / 2 ^ (k % 64) := Int.ediv_nonneg hd.1 (Int.le_of_lt (Int.pow_pos (by decide)))
      have q1 : x / 2 ^ (k % 64) ≤ x := Int.ediv_le_self _ hd.1
      have ha := bit_and (v := x / 2 ^ (k % 64)) q0 (by omega)
      have hkk : (k : Int) / 64 < (n : Int) := by omega
      clear hxx h1 h3
      go_enter Tryz.func59, Tryz.ntmps59
      go_wp2
      go_ret
      exact ⟨congrArg (fun b => Ending.returned (.bool b)) (by simp [BEq.beq]), rfl⟩
    · rw [dig_ge (by rw [h1.len]; exact hge)]
      have hkk : (n : Int) ≤ (k : Int) / 64 := by omega
      clear h1 h3
      go_enter Tryz.func59, Tryz.ntmps59
      go_wp2
      go_ret
      exact ⟨by simp, rfl⟩
end Go.Proofs.YtloajnaphenbjaaGreatDoor
