/-
  What a sequence makes of a pair: stripped of a share, sealed to the next key.
-/
import Derived.Test.YtpmnghealjgkeaaSe7
namespace Go.Proofs.Ytpmnghealjgkeaa
open Go.RowKit
set_option linter.unusedVariables false
theorem cmb_strip {q q1 q2 q3 q4 q5 q' : Bool} {X Y Z K XS RE KR G : Prop} (hX : X → XS) (hR : X → Y → RE) (hK : K → KR) (hG : G) (h1 : q1 = true ↔ q = true ∨ ¬ X) (h2 : q2 = true ↔ q1 = true ∨ ¬ (Y ∧ XS)) (h3 : q3 = true ↔ q2 = true ∨ ¬ X) (h4 : q4 = true ↔ q3 = true ∨ ¬ K)
    (h5 : q5 = true ↔ q4 = true ∨ ¬ (RE ∧ KR)) (hq : q' = true ↔ q = true ∨ ¬ (K ∧ X ∧ Y ∧ Z)) : q' = true ↔ q5 = true ∨ ¬ (Z ∧ G) := by
  rw [hq, h5, h4, h3, h2, h1]
  by_cases X <;> by_cases Y <;> by_cases Z <;> by_cases K <;> simp_all
section
variable {w w0 : World} {b r : Nat} {d : Gd} {q q' : Bool} {A1 A2 A3 Ak Am Ar As : Option Addr} {n1 c1 n2 c2 n3 c3 nk ck nm cm nr cr ns cs : Nat} {X Y Z K M R V : Int}
end
end Go.Proofs.Ytpmnghealjgkeaa
