/-
  What Mul answers, modulo a number.
-/
import Derived.Test.YtloajnaphenbjaaGreatDoorRed0
namespace Go.Proofs.YtloajnaphenbjaaGreatDoor
open Go.RowKit
set_option linter.unusedVariables false
section
variable {w : World} {b : Nat} {m : Int} {n : Nat} {A : Option Addr} {c : Nat} {low : Int} {B : Option Addr} {cB : Nat} {S : Option Addr} {cS : Nat}
theorem mmul_any (md : Md w b m n A c low B cB S cS) {XA YA : Option Addr} {l cx l' cy : Nat} {X Y : Int} (hX : Nm w XA l cx X) (hY : Nm w YA l' cy Y) (hl : dl X ≤ 64) (hl' : dl Y ≤ 64) :
    Calls Tryz.prog 46 #[.pointer (some ⟨b, 0, none⟩), .slice XA l cx, .slice YA l' cy] w (Ans (X * Y % m) w) := by
  have rx := md.rest X
  have ry := md.rest Y
  have rs : dl (X % m * (Y % m)) ≤ 64 := by have := dl_mul rx.1 ry.1 rx.2.2.1 ry.2.2.1; omega
  go_enter Tryz.func46, Tryz.ntmps46
  go_wp2_with fail
  refine (both_any md hX hY hl hl').mono ?_
  rintro e w1 ⟨B1, n1, c1, B2, n2, c2, rfl, k1, k2, b1⟩
  go_wp2_with fail
  refine (mul_any k1.nm k2.nm rx.2.2.2 ry.2.2.2).mono ?_
  rintro e w2 ⟨B3, n3, c3, rfl, k3, b2, -⟩
  have b12 := b1.trans (b2.mono b1.size)
  clear k1 k2 b2
  go_wp2_with fail
  refine (reduce_any (md.below b12) k3.nm rs).mono ?_
  rintro e w3 ⟨B4, n4, c4, rfl, k4, b3, hn⟩
  rw [← Int.mul_emod] at k4
  go_wp2
  go_ret2
  exact ⟨_, _, _, rfl, k4, b12.trans (b3.mono b12.size), fun a ha => Nat.le_trans b12.size (hn a ha)⟩
theorem mmul_long (md : Md w b m n A c low B cB S cS) {XA YA : Option Addr} {l cx l' cy : Nat} {X Y : Int} (hX : Nm w XA l cx X) (hY : Nm w YA l' cy Y) (hl : 64 < dl X ∨ 64 < dl Y) :
    Calls Tryz.prog 46 #[.pointer (some ⟨b, 0, none⟩), .slice XA l cx, .slice YA l' cy] w (Err1 2 w) := by
  have HL := Lib.hid hl
  clear hl
  go_enter Tryz.func46, Tryz.ntmps46
  go_wp2_with fail
  refine (both_long md hX hY HL.out).mono ?_
  rintro e w1 ⟨rfl, b1⟩
  go_wp2
  go_ret2
  exact ⟨rfl, b1⟩
end
end Go.Proofs.YtloajnaphenbjaaGreatDoor
