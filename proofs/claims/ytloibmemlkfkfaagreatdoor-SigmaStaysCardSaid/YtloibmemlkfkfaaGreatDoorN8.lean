/-
  Memory of the call's own that is turned, and what stays.
-/
import Derived.Test.YtloibmemlkfkfaaGreatDoorM8
import Derived.Test.YtloibmemlkfkfaaGreatDoorMn
import Derived.Test.YtloibmemlkfkfaaGreatDoorHsa
import Derived.Test.YtloibmemlkfkfaaGreatDoorCnv
namespace Go.Proofs.YtloibmemlkfkfaaGreatDoor
open Go.RowKit
set_option linter.unusedVariables false
/-! ### A slice that is turned -/
section
variable {t : TypeId} {k : IntKind} {w : World} {base : Nat} {n c : Nat} {xs : List Int}
theorem Mn.at08 {A : Option Addr} (h : Mn t k w base A n c xs) (hn : 0 < n) : ∃ g, A = some ⟨g, 0, none⟩ ∧ base ≤ g ∧ g < w.heap.size := by
  obtain ⟨g, cur, e, hg, -⟩ := h.row hn
  exact ⟨g, e, h.new _ e, (Array.getElem?_eq_some_iff.1 hg).1⟩
theorem Mn.cell8 {g j : Nat} (h : Mn t k w base (some ⟨g, 0, none⟩) n c xs) (hj : j < n) : w.cell? ⟨g, j, none⟩ = some (.int k (dig xs j)) := by
  obtain ⟨g', cur, e, hg, hc⟩ := h.row (by omega)
  injection e with e; injection e with e; subst e
  rw [cell_of_row w g j cur _ _ hg]
  exact hc j _ (getElem?_dig (by have := h.len; omega))
theorem Mn.frozen8 {g j : Nat} (h : Mn t k w base (some ⟨g, 0, none⟩) n c xs) (hj : j < n) : w.frozen? ⟨g, j, none⟩ = false := by
  obtain ⟨g', cur, e, hg, hc⟩ := h.row (by omega)
  injection e with e; injection e with e; subst e
  exact frozen_of_row w g j cur _ hg
theorem Mn.set8 {g j : Nat} (h : Mn t k w base (some ⟨g, 0, none⟩) n c xs) (hj : j < n) (x : Int) : Mn t k (w.setCell ⟨g, j, none⟩ (.int k x)) base (some ⟨g, 0, none⟩) n c (xs.set j x) := by
  obtain ⟨g', cur, e, hg, hc⟩ := h.row (by omega)
  have e2 := e
  injection e2 with e2; injection e2 with e2; subst e2
  refine ⟨by rw [List.length_set]; exact h.len, h.nc, h.new, fun a ha => by simp only [World.setCell, Array.size_modify]; exact h.lt a ha, fun _ => ⟨g, cur.setIfInBounds j (.int k x), rfl, ?_, fun i y hi => ?_⟩⟩
  · rw [setCell_eq_setRow w g j cur _ _ _ hg]; exact setRow_heap w g cur _ _ _ hg
  · rw [Array.getElem?_setIfInBounds]
    rw [List.getElem?_set] at hi
    have hl := h.len
    have hcj := (Array.getElem?_eq_some_iff.1 (hc j _ (getElem?_dig (by omega)))).1
    split
    · rename_i q
      subst q
      rw [if_pos rfl, if_pos (by omega)] at hi
      injection hi with hi
      subst hi
      rfl
    · rename_i q
      rw [if_neg q] at hi
      exact hc i y hi
end
theorem own_none8 (w : World) (t : TypeId) (k : IntKind) {base : Nat} (hb : base ≤ w.heap.size) : (w.alloc (.cells #[] t)).ownsRow base t 1 (.slice (some ⟨w.heap.size, 0, none⟩) 0 0) 0 (([] : List Int).map (Value.int k)) :=
  World.ownsRow_made w #[] 0 hb (by decide) rfl
theorem info64_ : (Tryz.prog.info? 69).map (fun i => (i.zero, i.size, i.bytes)) = some (some (.int .u64 0), 1, 8) := by kernel_rfl
/-- Nothing that was there has turned but blocks of a kind. -/
structure Tn8 (X : Nat → Prop) (w0 w : World) : Prop where
  os : w.os = w0.os
  tape : w.tape = w0.tape
  output : w.output = w0.output
  size : w0.heap.size ≤ w.heap.size
  block : ∀ b, b < w0.heap.size → ¬ X b → w.heap[b]? = w0.heap[b]?
theorem Tn8.refl (X : Nat → Prop) (w : World) : Tn8 X w w := ⟨rfl, rfl, rfl, Nat.le_refl _, fun _ _ _ => rfl⟩
theorem Tn8.trans {X : Nat → Prop} {a b c : World} (h : Tn8 X a b) (k : Tn8 X b c) : Tn8 X a c :=
  ⟨k.os.trans h.os, k.tape.trans h.tape, k.output.trans h.output, Nat.le_trans h.size k.size, fun q hq hx => (k.block q (Nat.lt_of_lt_of_le hq h.size) hx).trans (h.block q hq hx)⟩
theorem Tn8.set {X : Nat → Prop} {w0 w : World} (h : Tn8 X w0 w) {g : Nat} (hg : X g) (k : Nat) (v : Value) : Tn8 X w0 (w.setCell ⟨g, k, none⟩ v) :=
  ⟨h.os, h.tape, h.output, by simpa using h.size, fun b hb hx => (heap_setCell_other w ⟨g, k, none⟩ b v (by show b ≠ g; rintro rfl; exact hx hg)).trans (h.block b hb hx)⟩
theorem Tn8.b8 {X : Nat → Prop} {a w0 w : World} (h : Tn8 X w0 w) (hb : B8 a w0) (hX : ∀ b, b < a.heap.size → ¬ X b) : B8 a w :=
  ⟨h.os.trans (Below.os hb), h.tape.trans (Below.tape hb), h.output.trans (Below.output hb), Nat.le_trans hb.sz h.size, fun k hk => (h.block k (Nat.lt_of_lt_of_le hk hb.sz) (hX k hk)).trans (Below.block hb k hk)⟩
theorem Tn8.cell {X : Nat → Prop} {w0 w : World} (h : Tn8 X w0 w) {g o : Nat} (hg : g < w0.heap.size) (hx : ¬ X g) : w.cell? ⟨g, o, none⟩ = w0.cell? ⟨g, o, none⟩ := World.cell?_of_block (h.block g hg hx)
theorem Tn8.cn {X : Nat → Prop} {w0 w : World} {A : Option Addr} {n c : Nat} {N : Int} (h : Tn8 X w0 w) (hc : Cn w0 A n c N) (hx : ∀ a, A = some a → ¬ X a.block) : Cn w A n c N :=
  ⟨⟨hc.rd.len, fun hn => by
    obtain ⟨b, off, e, hb, hq⟩ := hc.rd.cells hn
    exact ⟨b, off, e, Nat.lt_of_lt_of_le hb h.size, fun j x hj => (h.cell (o := off + j) hb (hx _ e)).trans (hq j x hj)⟩⟩, hc.nc, hc.c60, hc.pos⟩
/-- What is turned, round by round. -/
def StR8 (t : TypeId) (k : IntKind) (A : Option Addr) (n c s : Nat) (X : Nat → Prop) (W : World) (i : Value) (wr : World) : Prop :=
  ∃ (q : Nat) (ys : List Int), q ≤ n ∧ i = .int .i64 q ∧ Mn t k wr s A n c ys ∧ Tn8 X W wr
theorem Mn.tn {X : Nat → Prop} {t : TypeId} {k : IntKind} {w w' : World} {base : Nat} {A : Option Addr} {n c : Nat} {xs : List Int} (h : Mn t k w base A n c xs) (hk : Tn8 X w w') (hx : ∀ a, A = some a → ¬ X a.block) : Mn t k w' base A n c xs :=
  h.kept (X := X) ⟨hk.size, hk.block⟩ hx
/-- A slice of bytes, and of digits, of the call's own. -/
theorem mn_block {t : TypeId} {k : IntKind} {w : World} {base : Nat} {A : Option Addr} {n c : Nat} {xs : List Int} (h : Mn t k w base A n c xs) (hs : base < w.heap.size) : ∃ g, (∀ a, A = some a → a.block = g) ∧ base ≤ g ∧ g < w.heap.size := by
  cases A with
  | none => exact ⟨base, fun a h => by (cases h), Nat.le_refl _, hs⟩
  | some aa => exact ⟨aa.block, fun a h => by (injection h with h; subst h; rfl), h.new _ rfl, h.lt _ rfl⟩
theorem same8_rd {w : World} {A A' : Option Addr} {n c c' : Nat} {xs : List Int} (h : Rd .u64 w A n xs) (h' : Rd .u64 w A' n xs) (hn : n ≤ 17592186044416) :
    Calls Tryz.prog 36 #[.slice A n c, .slice A' n c'] w (AnsB true w) := same_yes h h' hn
end Go.Proofs.YtloibmemlkfkfaaGreatDoor
