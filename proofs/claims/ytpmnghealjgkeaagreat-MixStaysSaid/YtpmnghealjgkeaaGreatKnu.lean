/-
  group.New of a known group.
-/
import Derived.Test.YtpmnghealjgkeaaGreatKnw
import Derived.Test.YtpmnghealjgkeaaGreatGro
namespace Go.Proofs.YtpmnghealjgkeaaGreat
open Go.RowKit
set_option linter.unusedVariables false
theorem bd_move {P Q A P' Q' A' : Nat → Int} {n i : Nat} (hi : i < n) (h : ∀ j, j < n → P j = P' j ∧ Q j = Q' j ∧ A j = A' j) (h0 : bd P' Q' A' n i = 0) : bd P Q A n i = 0 := by
  obtain ⟨h1, h2, h3⟩ := bd_zero h0
  obtain ⟨a, b, c⟩ := h i hi
  by_cases hn : i + 1 < n
  · exact bd_next (by rw [a, b, c]; exact h1) hn (by rw [b, (h (i + 1) hn).1]; exact h2 hn)
  · exact bd_last (by rw [a, b, c]; exact h1) hn (by rw [b]; exact h3 hn)
def kP (k : Nat) : Int := stepP (knS.getD k []) 0
def kQ (k : Nat) : Int := stepQ (knS.getD k []) 0
theorem big_all : (List.range 11).all (fun k => decide (256 ≤ stepQ (knS.getD k []) 0) && decide (stepP (knS.getD k []) 0 < 2 ^ 256)) = true := by decide +kernel
theorem kq_big {k : Nat} (hk : k < 11) : 9 ≤ nb (kQ k) ∧ kP k < 2 ^ 256 := by
  have := List.all_eq_true.1 big_all k (List.mem_range.2 hk)
  simp only [Bool.and_eq_true, decide_eq_true_eq] at this
  have h1 : 256 ≤ kQ k := this.1
  refine ⟨?_, this.2⟩
  have := nb_iff (N := kQ k) (by omega) 8
  rcases Nat.lt_or_ge (nb (kQ k)) 9 with g | g
  · have := this.1 (by omega)
    have e : (2 : Int) ^ 8 = 256 := by decide
    omega
  · exact g
theorem k_safe {k : Nat} (hk : k < 11) : Safe (kP k) (kQ k) ∧ El (kP k) (kQ k) 4 ∧ 1 ≤ (knS.getD k []).length ∧ (knS.getD k []).length ≤ 64 := by
  obtain ⟨P, Q, h1, h2, h3, h4, h5, h6, h7, h8, h9, -, h10, h11⟩ := known_rest k hk
  have e1 : kP k = P := h1
  have e2 : kQ k = Q := h2
  rw [e1, e2]
  exact ⟨⟨h3, by omega, h4, h9⟩, ⟨by decide, h6, h7⟩, h10, h11⟩
theorem kg_new {k m : Nat} {w : World} {A : Option Addr} {n c : Nat} {A' : Option Addr} {n' c' : Nat} (hk : k < 11) (h : KG k m w A n c A' n' c') :
    Calls Tryz.prog 30 #[.agg #[.slice A n c, .slice A' n' c']] w (NewP4 (kP k) (kQ k) 4 w) := by
  obtain ⟨⟨g, rfl, -, rfl, rfl, hr⟩, S, hch, hn, hS, -, -⟩ := h
  obtain ⟨sf, el, l1, l64⟩ := k_safe hk
  obtain ⟨bc, off, rfl, -, -⟩ := hch.ex (by omega)
  have e0 := hS 0 (by omega)
  have eP : (S 0).P = kP k := e0.1
  have eQ : (S 0).Q = kQ k := e0.2.1
  have good : ∀ i, i < n' → bdS S n' i = 0 := fun i hi => by
    have h1 := known_all k hk i (by omega)
    rw [← hn] at h1
    exact bd_move hi (fun j hj => ⟨(hS j hj).1, (hS j hj).2.1, (hS j hj).2.2.1⟩) h1
  have := gnew_any (S := S) (G := 4) (Nm.one hr (by decide) (by decide) (Nat.le_refl _) (by omega)) hch (by omega) (by omega) good (by rw [eP, eQ]; exact sf) (by rw [eP, eQ]; exact el) (by decide) (by rw [eQ]; exact (kq_big hk).1)
  rw [eP, eQ] at this
  exact this
end Go.Proofs.YtpmnghealjgkeaaGreat
