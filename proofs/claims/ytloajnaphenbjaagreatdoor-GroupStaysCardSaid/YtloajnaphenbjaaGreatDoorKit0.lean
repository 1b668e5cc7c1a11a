/-
  Contracts in one form for the laws' walks: what is answered, and that nothing that was there has turned.
-/
import Derived.Test.YtloajnaphenbjaaGreatDoorLit
import Derived.Test.YtloajnaphenbjaaGreatDoorSame
import Derived.Test.YtloajnaphenbjaaGreatDoorArg
namespace Go.Proofs.YtloajnaphenbjaaGreatDoor
open Go.RowKit
set_option linter.unusedVariables false
theorem same_cn {B B' : Option Addr} {m m' cap cap' : Nat} {N : Int} {w : World} (h : Cn w B m cap N) (h' : Cn w B' m' cap' N) :
    Calls Tryz.prog 11 #[.slice B m cap, .slice B' m' cap'] w (AnsV (.bool true) w) := by
  obtain rfl := h.len_
  obtain rfl := h'.len_
  exact (same_yes h.rd h'.rd (by have := h.nc; have := h.c60; omega)).mono fun e w' ⟨he, q, hq⟩ => ⟨he, hq ▸ below_drewN (Below.refl _ _) q⟩
theorem cmp_v {A A' : Option Addr} {n c n' c' : Nat} {N M : Int} {w : World} (h : Nm w A n c N) (h' : Nm w A' n' c' M) :
    Calls Tryz.prog 33 #[.slice A n c, .slice A' n' c'] w (AnsV (.int .i64 (cmpI N M)) w) :=
  (cmp_any h h').mono fun e w' ⟨he, q, hq⟩ => ⟨he, hq ▸ below_drewN (Below.refl _ _) q⟩
theorem dl_add {N M : Int} (h0 : 0 ≤ N) (h1 : 0 ≤ M) {k : Nat} (hN : dl N ≤ k) (hM : dl M ≤ k) : dl (N + M) ≤ k + 1 := by
  refine dl_le (by omega) ?_
  have a := lt_dl h0 hN
  have b := lt_dl h1 hM
  have e : W ^ (k + 1) = W ^ k * W := Int.pow_succ _ _
  have hp := pow_pos' W_two k
  have : W ^ k * 2 ≤ W ^ k * W := Int.mul_le_mul_of_nonneg_left (by decide) (by omega)
  omega
theorem dl_mul {N M : Int} (h0 : 0 ≤ N) (h1 : 0 ≤ M) {j k : Nat} (hN : dl N ≤ j) (hM : dl M ≤ k) : dl (N * M) ≤ j + k := by
  refine dl_le (Int.mul_nonneg h0 h1) ?_
  have a := lt_dl h0 hN
  have b := lt_dl h1 hM
  rw [Int.pow_add]
  have hp := pow_pos' W_two j
  have hq := pow_pos' W_two k
  have c1 := Int.mul_le_mul_of_nonneg_left (show M ≤ W ^ k by omega) h0
  have c2 := Int.mul_lt_mul_of_pos_right a hq
  omega
end Go.Proofs.YtloajnaphenbjaaGreatDoor
