/-
  The document's layer 7: what Long, Longs, Fits and Odd answer.
-/
import Derived.Test.YtloibmemlkfkfaaGreatDoorMxx
import Derived.Test.YtloibmemlkfkfaaGreatDoorR4
import Derived.Test.YtloibmemlkfkfaaGreatDoorPkf
import Derived.Test.YtloibmemlkfkfaaGreatDoorDoc
namespace Go.Proofs.YtloibmemlkfkfaaGreatDoor
open Go.RowKit
set_option linter.unusedVariables false
section
variable {w : World} {A : Option Addr} {n c : Nat} {S : Nat → Nsl} {N : Int}
def LgR (S : Nat → Nsl) (n : Nat) (w : World) (i : Value) (wr : World) : Prop := ∃ k : Nat, k ≤ n ∧ i = .int .i64 k ∧ (∀ j, j < k → dl (S j).N ≤ 64) ∧ w = wr
end
end Go.Proofs.YtloibmemlkfkfaaGreatDoor
