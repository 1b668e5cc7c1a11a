/-
  Batches that were answered, in one form, for the laws that hold the program against the document.
-/
import Derived.Test.YtpmnghealjgkeaaGreatLv7
import Derived.Test.YtpmnghealjgkeaaGreatR7m
import Derived.Test.YtpmnghealjgkeaaGreatL7a
namespace Go.Proofs.YtpmnghealjgkeaaGreat
open Go.RowKit
set_option linter.unusedVariables false
/-- A batch, and an error. -/
def BatV (code : Int) (T : Nat → Nat → Trp) (n m : Nat) (w : World) (e : Ending) (w' : World) : Prop :=
  ∃ A c B E, e = .returned (.tuple #[.slice A (lenV code n) c, E]) ∧ ErV E code ∧ Bat w' A (lenV code n) c B ∧ (∀ i, i < lenV code n → (B i).n = m ∧ CanL (B i).S (B i).n ∧ ∀ j, j < m → Trp.of ((B i).S j) = T i j) ∧ Below w.heap.size w w'
/-- The document's. -/
def DbtV (code : Int) (T : Nat → Nat → Trp) (n m : Nat) (w : World) (e : Ending) (w' : World) : Prop :=
  ∃ A c B, e = .returned (.tuple #[.slice A (lenV code n) c, .int .i64 code]) ∧ Bat w' A (lenV code n) c B ∧ (∀ i, i < lenV code n → (B i).n = m ∧ CanL (B i).S (B i).n ∧ ∀ j, j < m → Trp.of ((B i).S j) = T i j) ∧ Below w.heap.size w w'
theorem bat_nil (w : World) (B : Nat → Lsl) : Bat w none 0 0 B := ⟨Nat.le_refl _, by omega, fun h => absurd h (by omega), fun i h => absurd h (by omega)⟩
section
variable {code : Int} {T : Nat → Nat → Trp} {n m : Nat} {w w' : World} {e : Ending}
theorem BatP.v (h : BatP code T n m w e w') (hc : code ≠ 0 → 1 ≤ code ∧ code ≤ 15) : BatV code T n m w e w' := by
  rcases h with ⟨rfl, A, c, B, rfl, h1, h2, -, h4⟩ | ⟨h0, rfl, h3⟩
  · exact ⟨A, c, B, .nilIface, rfl, .inl ⟨rfl, rfl⟩, h1, fun i hi => ⟨(h2 i hi).1, (h2 i hi).2.1.can, (h2 i hi).2.2⟩, h4⟩
  · unfold BatV
    rw [lenVn h0]
    exact ⟨none, 0, fun _ => ⟨none, 0, 0, stp0⟩, _, rfl, .inr ⟨hc h0, rfl⟩, bat_nil _ _, fun i hi => absurd hi (Nat.not_lt_zero i), h3⟩
theorem DbtP.v (h : DbtP code T n m w e w') : DbtV code T n m w e w' := by
  rcases h with ⟨rfl, A, c, B, rfl, h1, h2, h4⟩ | ⟨h0, rfl, h3⟩
  · exact ⟨A, c, B, rfl, h1, h2, h4⟩
  · unfold DbtV
    rw [lenVn h0]
    exact ⟨none, 0, fun _ => ⟨none, 0, 0, stp0⟩, rfl, bat_nil _ _, fun i hi => absurd hi (Nat.not_lt_zero i), h3⟩
end
theorem mixC_rng {P Q K : Int} {B : Nat → Lsl} {nb : Nat} {f : Nat → Int} {np : Nat} {Rs : Nat → Rsl} {nr : Nat} : mixC P Q K B nb f np Rs nr ≠ 0 → 1 ≤ mixC P Q K B nb f np Rs nr ∧ mixC P Q K B nb f np Rs nr ≤ 15 := fun h => by
  by_cases h1 : MixF B nb f np Rs nr
  · by_cases h2 : ∃ i, i < nb ∧ LgS (Rs i).S (Rs i).n
    · rw [mixC_long h1 h2]; decide
    · by_cases h3 : El P Q K ∧ ∀ i, i < nb → ElL P Q (B i).S (B i).n
      · exact absurd (mixC_ok h1 h2 h3) h
      · rw [mixC_no h1 h2 h3]; decide
  · rw [mixC_arg h1]; decide
/-- The same letters: in a region that draws. -/
theorem same7_q {w : World} {q : Nat} {a a' : Option Addr} {n c c' : Nat} {S S' : Nat → Stp} (h : Ch w a n c S) (h' : Ch w a' n c' S') (hc : CanL S n) (hc' : CanL S' n) (he : ∀ i, i < n → Trp.of (S i) = Trp.of (S' i)) :
    Calls Tryz.prog 20 #[.slice a n c, .slice a' n c'] (w.drewN q) fun e w'' => e = .returned (.bool true) ∧ ∃ m, w'' = w.drewN m :=
  (same7_yes (h.below (below_drewN (Below.refl _ _) q)) (h'.below (below_drewN (Below.refl _ _) q)) hc hc' he).mono fun _ _ ⟨h1, m, h2⟩ => ⟨h1, q + m, by rw [h2, World.drewN_drewN]⟩
end Go.Proofs.YtpmnghealjgkeaaGreat
