/-
  The document's New of a known group; known: one of the groups, by the program and by the document; short.
-/
import Derived.Test.YtloibmemlkfkfaaGreatDoorKnx
import Derived.Test.YtloibmemlkfkfaaGreatDoorR4N
namespace Go.Proofs.YtloibmemlkfkfaaGreatDoor
open Go.RowKit
set_option linter.unusedVariables false
theorem kg_rnew {k m : Nat} {w : World} {A : Option Addr} {n c : Nat} {A' : Option Addr} {n' c' : Nat} (hk : k < 11) (h : KG k m w A n c A' n' c') :
    Calls Tryz.prog 37 #[.agg #[.slice A n c, .slice A' n' c']] w (RNewP (kP k) (kQ k) 4 w) := by
  obtain ⟨⟨g, rfl, -, rfl, rfl, hr⟩, S, hch, hn, hS, -, -⟩ := h
  obtain ⟨sf, el, l1, l64⟩ := k_safe hk
  obtain ⟨bc, off, rfl, -, -⟩ := hch.ex (by omega)
  have e0 := hS 0 (by omega)
  have eP : (S 0).P = kP k := e0.1
  have eQ : (S 0).Q = kQ k := e0.2.1
  have good : ∀ i, i < n' → bdS S n' i = 0 := fun i hi => by
    have h1 := known_all k hk i (by omega)
    rw [← hn] at h1
    exact bd_move hi (fun j hj => ⟨(hS j hj).1, (hS j hj).2.1, (hS j hj).2.2.1⟩) h1
  have := rnew_any (S := S) (G := 4) (Nm.one hr (by decide) (by decide) (Nat.le_refl _) (by omega)) (by omega) hch (by omega) (by omega) (fun i hi => by have := hS i hi; omega) good (by rw [eP, eQ]; exact sf) (by rw [eP, eQ]; exact el) (by decide) (by rw [eQ]; exact (kq_big hk).1)
  rw [eP, eQ] at this
  exact this
/-- One of the groups, by the program and by the document. -/
def KnP2 (w : World) (e : Ending) (w' : World) : Prop :=
  ∃ b d b' r, e = .returned (.tuple #[.pointer (some ⟨b, 0, none⟩), .pointer (some ⟨b', 0, none⟩)]) ∧ Gr w' b d ∧ Rg w' b' r (sz d.Q) ∧ r.P = d.P ∧ r.Q = d.Q ∧ r.nP ≤ 300 ∧ r.nQ ≤ 300 ∧ Below w.heap.size w w'
theorem Told.take {w : World} {A : Option Addr} {n c : Nat} {xs : List Int} (h : Told w A n c xs) {m : Nat} (hm : m ≤ n) : Told w A m c (xs.take m) :=
  ⟨h.rd.take hm, fun x hx => h.dig_ x (List.mem_of_mem_take hx), by have := h.nc; omega, by have := h.c60; omega⟩
end Go.Proofs.YtloibmemlkfkfaaGreatDoor
