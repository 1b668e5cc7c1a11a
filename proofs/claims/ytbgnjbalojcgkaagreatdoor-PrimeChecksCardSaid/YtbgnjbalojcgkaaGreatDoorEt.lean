/-
  What is known of errors' own variable stays.
-/
import Derived.Test.YtbgnjbalojcgkaaGreatDoorErr
import Derived.Test.YtbgnjbalojcgkaaGreatDoorKit0
namespace Go.Proofs.YtbgnjbalojcgkaaGreatDoor
open Go.RowKit
set_option linter.unusedVariables false
theorem Et.below {w w' : World} (h : Et w) (hb : Below w.heap.size w w') : Et w' := by
  have := h.pos
  unfold Et at *
  exact (hb.cell (p := ⟨_, 0, none⟩) this).trans h
end Go.Proofs.YtbgnjbalojcgkaaGreatDoor
