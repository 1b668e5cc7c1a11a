/-
  What Modulus answers.
-/
import Derived.Test.YtloajnaphenbjaaGreatDoorMk
namespace Go.Proofs.YtloajnaphenbjaaGreatDoor
open Go.RowKit
set_option linter.unusedVariables false
theorem modulus_any {w : World} {b : Nat} {m : Int} {n : Nat} {A : Option Addr} {c : Nat} {low : Int} {B : Option Addr} {cB : Nat} {S : Option Addr} {cS : Nat} (md : Md w b m n A c low B cB S cS) :
    Calls Tryz.prog 18 #[.pointer (some ⟨b, 0, none⟩)] w (Ans1 m w) := by
  have q0 := md.c0
  go_enter Tryz.func18, Tryz.ntmps18
  go_wp2_with fail
  refine (norm_any md.lim.nm).mono ?_
  rintro e w1 ⟨B1, n1, c1, rfl, k1, b1, hn1⟩
  go_wp2
  go_ret
  exact ⟨_, _, _, rfl, k1, b1, hn1⟩
end Go.Proofs.YtloajnaphenbjaaGreatDoor
