/-
  Answers of layer 7's calls in one form, for the laws that hold the program against the document: a letter (none where something is amiss), and an error's number.
-/
import Derived.Test.YtpmnghealjgkeaaGreatMxx
import Derived.Test.YtpmnghealjgkeaaGreatPkf
namespace Go.Proofs.YtpmnghealjgkeaaGreat
open Go.RowKit
set_option linter.unusedVariables false
theorem code7_any (c : Int) (h1 : 1 ≤ c) (h2 : c ≤ 15) (w : World) : Calls Tryz.prog 21 #[.iface 80 (.int .i64 c)] w fun e w' => e = .returned (.int .i64 c) ∧ w = w' := by
  go_enter Tryz.func21, Tryz.ntmps21
  go_wp2_with fail
  go_loop [3] (fun t => ∃ k : Int, t = .int .i64 k ∧ 1 ≤ k ∧ k ≤ c) (fun t => (c - intOf t).toNat)
  case atStart => exact ⟨1, rfl, by omega, h1⟩
  case round =>
    obtain ⟨k, rfl, hk1, hk2⟩ := hrel
    have q1 := eql_code c k
    have hk15 : k ≤ 15 := by omega
    by_cases hck : k = c
    · subst hck
      go_wp2
      go_ret
      exact ⟨rfl, rfl⟩
    · have hb : (c == k) = false := by simp; omega
      rw [hb] at q1
      have hw : IntKind.i64.wrap (k + 1) = k + 1 := IntWalk.i64_in _ (by omega)
      go_wp2
      exact ⟨⟨k + 1, rfl, by omega, by omega⟩, by simp [intOf]; omega⟩
theorem code7_nil (w : World) : Calls Tryz.prog 21 #[.nilIface] w fun e w' => e = .returned (.int .i64 0) ∧ w = w' := by
  go_enter Tryz.func21, Tryz.ntmps21
  go_wp2
  go_ret
  exact ⟨rfl, rfl⟩
/-- An error of a number; none is 0. -/
def ErV (E : Value) (code : Int) : Prop := (code = 0 ∧ E = .nilIface) ∨ ((1 ≤ code ∧ code ≤ 15) ∧ E = .iface 80 (.int .i64 code))
theorem code_e {E : Value} {code : Int} (h : ErV E code) (w : World) : Calls Tryz.prog 21 #[E] w fun e w' => e = .returned (.int .i64 code) ∧ w = w' := by
  rcases h with ⟨rfl, rfl⟩ | ⟨⟨h1, h2⟩, rfl⟩
  · exact code7_nil w
  · exact code7_any code h1 h2 w
/-- How long the answer is. -/
def lenV (code : Int) (n : Nat) : Nat := if code = 0 then n else 0
/-- A letter, and an error. -/
def LetV (code : Int) (T : Nat → Trp) (n : Nat) (w : World) (e : Ending) (w' : World) : Prop :=
  ∃ A c S E, e = .returned (.tuple #[.slice A (lenV code n) c, E]) ∧ ErV E code ∧ Ch w' A (lenV code n) c S ∧ CanL S (lenV code n) ∧ (∀ i, i < lenV code n → Trp.of (S i) = T i) ∧ Below w.heap.size w w'
/-- The document's. -/
def DetV (code : Int) (T : Nat → Trp) (n : Nat) (w : World) (e : Ending) (w' : World) : Prop :=
  ∃ A c S, e = .returned (.tuple #[.slice A (lenV code n) c, .int .i64 code]) ∧ Ch w' A (lenV code n) c S ∧ CanL S (lenV code n) ∧ (∀ i, i < lenV code n → Trp.of (S i) = T i) ∧ Below w.heap.size w w'
theorem ch_nil (w : World) (S : Nat → Stp) : Ch w none 0 0 S := ⟨Nat.le_refl _, by omega, fun h => absurd h (by omega), fun i h => absurd h (by omega)⟩
def stp0 : Nat → Stp := fun _ => ⟨none, 0, 0, none, 0, 0, none, 0, 0, 0, 0, 0⟩
theorem lenV0 (n : Nat) : lenV 0 n = n := rfl
theorem lenVn {code : Int} (h : code ≠ 0) (n : Nat) : lenV code n = 0 := if_neg h
section
variable {code : Int} {T : Nat → Trp} {n : Nat} {w w' : World} {e : Ending}
theorem LetP.v (h : LetP code T n w e w') (hc : code ≠ 0 → 1 ≤ code ∧ code ≤ 15) : LetV code T n w e w' := by
  rcases h with ⟨rfl, A, c, S, rfl, h1, h2, h3⟩ | ⟨h0, rfl, h3⟩
  · exact ⟨A, c, S, .nilIface, rfl, .inl ⟨rfl, rfl⟩, h1.ch, h1.can, h2, h3⟩
  · unfold LetV
    rw [lenVn h0]
    exact ⟨none, 0, stp0, _, rfl, .inr ⟨hc h0, rfl⟩, ch_nil _ _, fun i hi => absurd hi (Nat.not_lt_zero i), fun i hi => absurd hi (Nat.not_lt_zero i), h3⟩
theorem DetP.v (h : DetP code T n w e w') : DetV code T n w e w' := by
  rcases h with ⟨rfl, A, c, S, rfl, h1, h2, h3, h4⟩ | ⟨h0, rfl, h3⟩
  · exact ⟨A, c, S, rfl, h1, h2, h3, h4⟩
  · unfold DetV
    rw [lenVn h0]
    exact ⟨none, 0, stp0, rfl, ch_nil _ _, fun i hi => absurd hi (Nat.not_lt_zero i), fun i hi => absurd hi (Nat.not_lt_zero i), h3⟩
/-- A list of numbers, and an error. -/
def NumV (code : Int) (T : Nat → Int) (n : Nat) (w : World) (e : Ending) (w' : World) : Prop :=
  ∃ A c S E, e = .returned (.tuple #[.slice A (lenV code n) c, E]) ∧ ErV E code ∧ Ns w' A (lenV code n) c S ∧ CanS S (lenV code n) ∧ (∀ i, i < lenV code n → (S i).N = T i) ∧ Below w.heap.size w w'
theorem NumP.v {T : Nat → Int} (h : NumP code T n w e w') (hc : code ≠ 0 → 1 ≤ code ∧ code ≤ 15) : NumV code T n w e w' := by
  rcases h with ⟨rfl, A, c, S, rfl, h1, h2, h3, -, h4⟩ | ⟨h0, rfl, h3⟩
  · exact ⟨A, c, S, .nilIface, rfl, .inl ⟨rfl, rfl⟩, h1, h2, h3, h4⟩
  · unfold NumV
    rw [lenVn h0]
    exact ⟨none, 0, fun _ => ⟨none, 0, 0, 0⟩, _, rfl, .inr ⟨hc h0, rfl⟩, Ns.nil _ _, fun i hi => absurd hi (Nat.not_lt_zero i), fun i hi => absurd hi (Nat.not_lt_zero i), h3⟩
theorem fitC_rng {n m : Nat} {lg el : Prop} : fitC n m lg el ≠ 0 → 1 ≤ fitC n m lg el ∧ fitC n m lg el ≤ 15 := fun h => by
  rcases fitC_is n m lg el with g | g | g | g
  · exact absurd g h
  · rw [g]; decide
  · rw [g]; decide
  · rw [g]; decide
end
end Go.Proofs.YtpmnghealjgkeaaGreat
