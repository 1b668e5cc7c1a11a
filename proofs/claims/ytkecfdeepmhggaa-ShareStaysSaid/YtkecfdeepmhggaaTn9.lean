/-
  Own copies that are turned, and what stays (as in N8, without what stands there of sigma).
-/
import Derived.Test.YtkecfdeepmhggaaMn
import Derived.Test.YtkecfdeepmhggaaPnc
import Derived.Test.YtkecfdeepmhggaaPka
namespace Go.Proofs.Ytkecfdeepmhggaa
open Go.RowKit
set_option linter.unusedVariables false
/-! ### A slice that is turned -/
section
variable {t : TypeId} {k : IntKind} {w : World} {base : Nat} {n c : Nat} {xs : List Int}
theorem Mn.at09 {A : Option Addr} (h : Mn t k w base A n c xs) (hn : 0 < n) : ∃ g, A = some ⟨g, 0, none⟩ ∧ base ≤ g ∧ g < w.heap.size := by
  obtain ⟨g, cur, e, hg, -⟩ := h.row hn
  exact ⟨g, e, h.new _ e, (Array.getElem?_eq_some_iff.1 hg).1⟩
theorem Mn.cell9 {g j : Nat} (h : Mn t k w base (some ⟨g, 0, none⟩) n c xs) (hj : j < n) : w.cell? ⟨g, j, none⟩ = some (.int k (dig xs j)) := by
  obtain ⟨g', cur, e, hg, hc⟩ := h.row (by omega)
  injection e with e; injection e with e; subst e
  rw [cell_of_row w g j cur _ _ hg]
  exact hc j _ (getElem?_dig (by have := h.len; omega))
theorem Mn.frozen9 {g j : Nat} (h : Mn t k w base (some ⟨g, 0, none⟩) n c xs) (hj : j < n) : w.frozen? ⟨g, j, none⟩ = false := by
  obtain ⟨g', cur, e, hg, hc⟩ := h.row (by omega)
  injection e with e; injection e with e; subst e
  exact frozen_of_row w g j cur _ hg
theorem Mn.set9 {g j : Nat} (h : Mn t k w base (some ⟨g, 0, none⟩) n c xs) (hj : j < n) (x : Int) : Mn t k (w.setCell ⟨g, j, none⟩ (.int k x)) base (some ⟨g, 0, none⟩) n c (xs.set j x) := by
  obtain ⟨g', cur, e, hg, hc⟩ := h.row (by omega)
  have e2 := e
  injection e2 with e2; injection e2 with e2; subst e2
  refine ⟨by rw [List.length_set]; exact h.len, h.nc, h.new, fun a ha => by simp only [World.setCell, Array.size_modify]; exact h.lt a ha, fun _ => ⟨g, cur.setIfInBounds j (.int k x), rfl, ?_, fun i y hi => ?_⟩⟩
  · rw [setCell_eq_setRow w g j cur _ _ _ hg]; exact setRow_heap w g cur _ _ _ hg
  · rw [Array.getElem?_setIfInBounds]
    rw [List.getElem?_set] at hi
    have hl := h.len
    have hcj := (Array.getElem?_eq_some_iff.1 (hc j _ (getElem?_dig (by omega)))).1
    split
    · rename_i q
      subst q
      rw [if_pos rfl, if_pos (by omega)] at hi
      injection hi with hi
      subst hi
      rfl
    · rename_i q
      rw [if_neg q] at hi
      exact hc i y hi
end
/-- Nothing that was there has turned but blocks of a kind. -/
structure Tn9 (X : Nat → Prop) (w0 w : World) : Prop where
  os : w.os = w0.os
  tape : w.tape = w0.tape
  output : w.output = w0.output
  size : w0.heap.size ≤ w.heap.size
  block : ∀ b, b < w0.heap.size → ¬ X b → w.heap[b]? = w0.heap[b]?
theorem Tn9.refl (X : Nat → Prop) (w : World) : Tn9 X w w := ⟨rfl, rfl, rfl, Nat.le_refl _, fun _ _ _ => rfl⟩
theorem Tn9.trans {X : Nat → Prop} {a b c : World} (h : Tn9 X a b) (k : Tn9 X b c) : Tn9 X a c :=
  ⟨k.os.trans h.os, k.tape.trans h.tape, k.output.trans h.output, Nat.le_trans h.size k.size, fun q hq hx => (k.block q (Nat.lt_of_lt_of_le hq h.size) hx).trans (h.block q hq hx)⟩
theorem Tn9.set {X : Nat → Prop} {w0 w : World} (h : Tn9 X w0 w) {g : Nat} (hg : X g) (k : Nat) (v : Value) : Tn9 X w0 (w.setCell ⟨g, k, none⟩ v) :=
  ⟨h.os, h.tape, h.output, by simpa using h.size, fun b hb hx => (heap_setCell_other w ⟨g, k, none⟩ b v (by show b ≠ g; rintro rfl; exact hx hg)).trans (h.block b hb hx)⟩
theorem Tn9.cell {X : Nat → Prop} {w0 w : World} (h : Tn9 X w0 w) {g o : Nat} (hg : g < w0.heap.size) (hx : ¬ X g) : w.cell? ⟨g, o, none⟩ = w0.cell? ⟨g, o, none⟩ := World.cell?_of_block (h.block g hg hx)
theorem Tn9.cn {X : Nat → Prop} {w0 w : World} {A : Option Addr} {n c : Nat} {N : Int} (h : Tn9 X w0 w) (hc : Cn w0 A n c N) (hx : ∀ a, A = some a → ¬ X a.block) : Cn w A n c N :=
  ⟨⟨hc.rd.len, fun hn => by
    obtain ⟨b, off, e, hb, hq⟩ := hc.rd.cells hn
    exact ⟨b, off, e, Nat.lt_of_lt_of_le hb h.size, fun j x hj => (h.cell (o := off + j) hb (hx _ e)).trans (hq j x hj)⟩⟩, hc.nc, hc.c60, hc.pos⟩
end Go.Proofs.Ytkecfdeepmhggaa
