/-
  What the small calls of package hash answer: right, wholeBlocks, eightBytes.
-/
import Derived.Test.YtbffcgnefkkhoaaDoorShn
import Derived.Test.YtbffcgnefkkhoaaDoorPka
import Derived.RegionTactic
import Derived.BigRegion
import Derived.StillTailTactics
namespace Go.Proofs.YtbffcgnefkkhoaaDoor
open Go.RowKit
set_option linter.unusedVariables false
theorem wraps_u32 (n : Int) (h0 : 0 ≤ n) (h1 : n < 2 ^ 32) : IntKind.u32.wrap n = n := by rw [IntKind.wrap_u32]; omega
theorem wraps_u64 (n : Int) (h0 : 0 ≤ n) (h1 : n < 2 ^ 64) : IntKind.u64.wrap n = n := by rw [IntKind.wrap_u64]; omega
theorem rot_by {n : Nat} (h1 : 1 ≤ n) (h2 : n ≤ 31) : bits .and .u64 (IntKind.u64.wrap (-(n : Int))) 31 = 32 - (n : Int) := by
  have h := bits_mask .u64 64 (by decide) wraps_u64 5 (by decide) (IntKind.u64.wrap (-(n : Int))) (by rw [IntKind.wrap_u64]; omega) (by rw [IntKind.wrap_u64]; omega)
  rw [show (2 : Int) ^ 5 - 1 = 31 by decide, show (2 : Int) ^ 5 = 32 by decide] at h
  rw [h, IntKind.wrap_u64]
  omega
theorem pow_split (n : Nat) (h : n ≤ 32) : (2 : Int) ^ n * 2 ^ (32 - n) = 4294967296 := by rw [← Int.pow_add, show n + (32 - n) = 32 by omega]; decide
theorem rot_or {n : Nat} (h2 : n ≤ 32) {x : Int} (hx : Wd x) : bits .or .u32 (IntKind.u32.wrap (x * 2 ^ (32 - n))) (x / 2 ^ n) = rot n x ∧ Wd (rot n x) := by
  have hm := pow_split n h2
  have hp : (0 : Int) < 2 ^ n := Int.pow_pos (by decide)
  have hq : (0 : Int) < 2 ^ (32 - n) := Int.pow_pos (by decide)
  have e : IntKind.u32.wrap (x * 2 ^ (32 - n)) = x % 2 ^ n * 2 ^ (32 - n) := by
    rw [IntKind.wrap_u32, ← hm, Int.mul_comm x, Int.mul_comm (2 ^ n), Int.mul_emod_mul_of_pos _ _ hq, Int.mul_comm]
  have r0 := Int.emod_nonneg x (show (2 : Int) ^ n ≠ 0 by omega)
  have r1 := Int.emod_lt_of_pos x hp
  have a0 := Int.mul_nonneg r0 (show (0 : Int) ≤ 2 ^ (32 - n) by omega)
  have a1 := Int.mul_le_mul_of_nonneg_right (show x % 2 ^ n + 1 ≤ 2 ^ n by omega) (show (0 : Int) ≤ 2 ^ (32 - n) by omega)
  rw [hm, Int.add_mul] at a1
  have b0 : 0 ≤ x / 2 ^ n := Int.ediv_nonneg hx.1 (by omega)
  have b1 : x / 2 ^ n < 2 ^ (32 - n) := Int.ediv_lt_of_lt_mul hp (by rw [Int.mul_comm, hm]; exact hx.2)
  rw [e]
  refine ⟨?_, ?_⟩
  · rw [bits_join .u32 32 (by decide) wraps_u32 (32 - n) _ _ a0 (Int.mul_emod_left _ _) (by omega) b0 b1 (by omega)]
    unfold rot; omega
  · unfold rot Wd; omega
theorem rotl_any {n : Nat} (h1 : 1 ≤ n) (h2 : n ≤ 31) (x : Int) (hx : Wd x) (w : World) :
    Calls Tryd.prog 82 #[.int .u32 x, .int .i64 (-(n : Int))] w fun e w' => e = .returned (.int .u32 (rot n x)) ∧ w = w' := by
  have e1 := rot_by h1 h2
  have e2 : (32 - (n : Int)).toNat = 32 - n := by omega
  have e3 : (32 : Int) - (32 - (n : Int)) = n := by omega
  have e4 := (rot_or (show n ≤ 32 by omega) hx).1
  have b1 : 0 ≤ 32 - (n : Int) := by omega
  have b2 : 32 - (n : Int) ≤ 31 := by omega
  have hx0 := hx.1
  have hx1 := hx.2
  go_enter Tryd.func82, Tryd.ntmps82
  go_wp2
  go_ret
  exact ⟨congrArg (fun v => Ending.returned (.int .u32 v)) e4, rfl⟩
theorem right_any {n : Nat} (h1 : 1 ≤ n) (h2 : n ≤ 31) (x : Int) (hx : Wd x) (w : World) :
    Calls Tryd.prog 81 #[.int .u32 x, .int .i64 n] w fun e w' => e = .returned (.int .u32 (rot n x)) ∧ w = w' := by
  go_enter Tryd.func81, Tryd.ntmps81
  go_wp2_with fail
  refine (rotl_any h1 h2 x hx w).mono ?_
  rintro e w1 ⟨rfl, rfl⟩
  go_wp2
  go_ret
  exact ⟨rfl, rfl⟩
theorem right_lit (n : Nat) {v : Int} (hv : v = n) (h1 : 1 ≤ n) (h2 : n ≤ 31) (x : Int) (hx : Wd x) (w : World) :
    Calls Tryd.prog 81 #[.int .u32 x, .int .i64 v] w fun e w' => e = .returned (.int .u32 (rot n x)) ∧ w = w' := by
  subst hv
  exact right_any h1 h2 x hx w
theorem whole_any (A : Option Addr) (n c : Nat) (w : World) (hn : n ≤ 17592186044416) :
    Calls Tryd.prog 65 #[.slice A n c] w fun e w' => e = .returned (.int .i64 ((64 * (n / 64) : Nat) : Int)) ∧ w = w' := by
  have e1 : (n : Int) - (n : Int) % 64 = ((64 * (n / 64) : Nat) : Int) := by omega
  have E1 := Lib.hid e1
  clear e1
  go_enter Tryd.func65, Tryd.ntmps65
  go_wp2
  go_ret
  exact ⟨congrArg (fun v => Ending.returned (.int .i64 v)) E1.out, rfl⟩
end Go.Proofs.YtbffcgnefkkhoaaDoor
