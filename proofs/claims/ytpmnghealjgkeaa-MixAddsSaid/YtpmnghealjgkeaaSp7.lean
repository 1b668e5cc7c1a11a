/-
  What a sequence makes of a pair: pair, as it is.
-/
import Derived.Test.YtpmnghealjgkeaaSo
import Derived.Test.YtpmnghealjgkeaaMxx
namespace Go.Proofs.Ytpmnghealjgkeaa
open Go.RowKit
set_option linter.unusedVariables false
/-- A pair that was made: in new memory, told without noughts. -/
structure PrO (w : World) (base : Nat) (s : Stp) (T : Trp) : Prop where
  p : Cn w s.A1 s.n1 s.c1 s.P
  q : Cn w s.A2 s.n2 s.c2 s.Q
  a : Cn w s.A3 s.n3 s.c3 s.A
  tr : Trp.of s = T
  n1 : ∀ a, s.A1 = some a → base ≤ a.block
  n2 : ∀ a, s.A2 = some a → base ≤ a.block
  n3 : ∀ a, s.A3 = some a → base ≤ a.block
def agS (s : Stp) : Value := .agg #[.slice s.A1 s.n1 s.c1, .slice s.A2 s.n2 s.c2, .slice s.A3 s.n3 s.c3]
/-- What is made of a pair. -/
def PairP (r b : Nat) (q' : Bool) (T : Trp) (w : World) (e : Ending) (w' : World) : Prop :=
  ∃ s : Stp, e = .returned (.agg #[.slice s.A1 s.n1 s.c1, .slice s.A2 s.n2 s.c2, .slice s.A3 s.n3 s.c3]) ∧ (q' = false → PrO w' w.heap.size s T) ∧ Sq w' r b q' ∧ Bo r w w'
theorem ex_bool (p : Prop) : ∃ q : Bool, q = true ↔ p := by
  by_cases h : p
  · exact ⟨true, by simp [h]⟩
  · exact ⟨false, by simp [h]⟩
theorem PrO.bo {r : Nat} {w w' : World} {base : Nat} {s : Stp} {T : Trp} (h : PrO w base s T) (hb : Bo r w w') (hr : r < base) : PrO w' base s T :=
  ⟨hb.cn h.p (fun a ha => by have := h.n1 a ha; omega), hb.cn h.q (fun a ha => by have := h.n2 a ha; omega), hb.cn h.a (fun a ha => by have := h.n3 a ha; omega), h.tr, h.n1, h.n2, h.n3⟩
/-- Three cells of a block of their own. -/
theorem three_row {w : World} {g : Nat} {t : TypeId} {a b c x y z : Value} (hg : w.heap[g]? = some (.cells #[a, b, c] t (0, 0))) :
    (((w.setCell ⟨g, 0, none⟩ x).setCell ⟨g, 1, none⟩ y).setCell ⟨g, 2, none⟩ z).heap[g]? = some (.cells #[x, y, z] t (0, 0)) := by
  have h1 := heap_setCell_same w g 0 _ _ x hg
  have h2 := heap_setCell_same _ g 1 _ _ y h1
  have h3 := heap_setCell_same _ g 2 _ _ z h2
  exact h3
theorem three_cell {w : World} {g k o : Nat} {x y z : Value} (h : k ≠ g) : (((w.setCell ⟨g, 0, none⟩ x).setCell ⟨g, 1, none⟩ y).setCell ⟨g, 2, none⟩ z).cell? ⟨k, o, none⟩ = w.cell? ⟨k, o, none⟩ :=
  World.cell?_of_block (by rw [heap_setCell_other _ _ k _ h, heap_setCell_other _ _ k _ h, heap_setCell_other _ _ k _ h])
theorem Bo.set_new {r : Nat} {w w' : World} (h : Bo r w w') {g : Nat} (hg : w.heap.size ≤ g) (i : Nat) (v : Value) : Bo r w (w'.setCell ⟨g, i, none⟩ v) :=
  ⟨h.os, h.tape, h.output, by simpa using h.size, fun k hk hb => (heap_setCell_other w' _ k v (by show k ≠ g; omega)).trans (h.block k hk hb)⟩
theorem Bo.three {r : Nat} {w w' : World} (h : Bo r w w') {g : Nat} (hg : w.heap.size ≤ g) (x y z : Value) : Bo r w (((w'.setCell ⟨g, 0, none⟩ x).setCell ⟨g, 1, none⟩ y).setCell ⟨g, 2, none⟩ z) :=
  ((h.set_new hg 0 x).set_new hg 1 y).set_new hg 2 z
theorem Cn.other {w : World} {g i : Nat} {v : Value} {A : Option Addr} {n c : Nat} {N : Int} (h : Cn w A n c N) (hx : ∀ a, A = some a → a.block ≠ g) : Cn (w.setCell ⟨g, i, none⟩ v) A n c N := (Bo.set g i w v).cn h hx
theorem Cn.three {w : World} {g : Nat} {x y z : Value} {A : Option Addr} {n c : Nat} {N : Int} (h : Cn w A n c N) (hx : ∀ a, A = some a → a.block ≠ g) : Cn (((w.setCell ⟨g, 0, none⟩ x).setCell ⟨g, 1, none⟩ y).setCell ⟨g, 2, none⟩ z) A n c N := ((h.other hx).other hx).other hx
theorem Sq.three {w : World} {r b g : Nat} {q : Bool} {x y z : Value} (h : Sq w r b q) (hx : r ≠ g) : Sq (((w.setCell ⟨g, 0, none⟩ x).setCell ⟨g, 1, none⟩ y).setCell ⟨g, 2, none⟩ z) r b q :=
  ⟨by simpa using h.lt, by rw [heap_setCell_other _ _ r _ hx, heap_setCell_other _ _ r _ hx, heap_setCell_other _ _ r _ hx]; exact h.row⟩
theorem sizePair : (Try.prog.info? 52).map (·.size) = some 3 := by kernel_rfl
theorem pairP_end {w w5 : World} {r b g : Nat} {q' : Bool} {T : Trp} (s : Stp) (hB : Bo r w w5) (hg : w.heap.size ≤ g) (hr : r < g) (hS : Sq w5 r b q')
    (h : q' = false → Cn w5 s.A1 s.n1 s.c1 s.P ∧ Cn w5 s.A2 s.n2 s.c2 s.Q ∧ Cn w5 s.A3 s.n3 s.c3 s.A ∧ Trp.of s = T)
    (h1 : q' = false → ∀ a, s.A1 = some a → w.heap.size ≤ a.block ∧ a.block ≠ g) (h2 : q' = false → ∀ a, s.A2 = some a → w.heap.size ≤ a.block ∧ a.block ≠ g) (h3 : q' = false → ∀ a, s.A3 = some a → w.heap.size ≤ a.block ∧ a.block ≠ g) :
    PairP r b q' T w (.returned (.agg #[.slice s.A1 s.n1 s.c1, .slice s.A2 s.n2 s.c2, .slice s.A3 s.n3 s.c3])) (((w5.setCell ⟨g, 0, none⟩ (.slice s.A1 s.n1 s.c1)).setCell ⟨g, 1, none⟩ (.slice s.A2 s.n2 s.c2)).setCell ⟨g, 2, none⟩ (.slice s.A3 s.n3 s.c3)) :=
  ⟨s, rfl, fun e => by
    obtain ⟨e1, e2, e3, e4⟩ := h e
    exact ⟨e1.three (fun a ha => (h1 e a ha).2), e2.three (fun a ha => (h2 e a ha).2), e3.three (fun a ha => (h3 e a ha).2), e4, fun a ha => (h1 e a ha).1, fun a ha => (h2 e a ha).1, fun a ha => (h3 e a ha).1⟩, hS.three (by omega), hB.three hg _ _ _⟩
section
variable {w w0 : World} {b r : Nat} {d : Gd} {q q' : Bool} {A1 A2 A3 : Option Addr} {n1 c1 n2 c2 n3 c3 : Nat} {X Y Z : Int}
end
end Go.Proofs.Ytpmnghealjgkeaa
