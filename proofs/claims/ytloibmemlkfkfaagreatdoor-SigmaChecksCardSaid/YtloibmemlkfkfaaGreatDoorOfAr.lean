/-
  What Of answers of an argument.
-/
import Derived.Test.YtloibmemlkfkfaaGreatDoorAr0
import Derived.Test.YtloibmemlkfkfaaGreatDoorDoc
namespace Go.Proofs.YtloibmemlkfkfaaGreatDoor
open Go.RowKit
set_option linter.unusedVariables false
theorem of_ar {A : Option Addr} {n c : Nat} {xs : List Int} {N : Int} {w : World} (h : Ar w A n c xs N) (hn : n ≤ 1000) : Calls Tryz.prog 29 #[.slice A n c] w (AnsN N w) := by
  have := of_v h.told hn; rw [h.val_] at this; exact this
end Go.Proofs.YtloibmemlkfkfaaGreatDoor
