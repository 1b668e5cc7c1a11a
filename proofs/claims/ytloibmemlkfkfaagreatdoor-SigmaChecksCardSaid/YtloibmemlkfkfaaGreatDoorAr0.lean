/-
  An argument with its number.
-/
import Derived.Test.YtloibmemlkfkfaaGreatDoorPkf
namespace Go.Proofs.YtloibmemlkfkfaaGreatDoor
open Go.RowKit
set_option linter.unusedVariables false
/-- What is known of an argument, under one name for its number. -/
structure Ar (w : World) (A : Option Addr) (n c : Nat) (xs : List Int) (N : Int) : Prop where
  told : Told w A n c xs
  val_ : val W xs = N
theorem Ar.below {w w' : World} {A : Option Addr} {n c : Nat} {xs : List Int} {N : Int} (h : Ar w A n c xs N) (hb : Below w.heap.size w w') : Ar w' A n c xs N := ⟨h.told.below hb, h.val_⟩
theorem Ar.nm {w : World} {A : Option Addr} {n c : Nat} {xs : List Int} {N : Int} (h : Ar w A n c xs N) : Nm w A n c N := by have := h.told.nm; rw [h.val_] at this; exact this
end Go.Proofs.YtloibmemlkfkfaaGreatDoor
