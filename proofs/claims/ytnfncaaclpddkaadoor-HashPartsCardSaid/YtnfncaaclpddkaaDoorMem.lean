/-
  A slice of integers that reads as a list, nil let in; a block that is known whole; what becomes of both behind draws, new blocks, stores elsewhere.
-/
import Derived.Test.YtnfncaaclpddkaaDoorProg
import Derived.WalkKit
import Derived.WalkSpells
import Derived.WalkLawsBesides
import Derived.Lib.Hide
import Derived.Deep.Draws
import Derived.Laws.OwnMore
namespace Go.Proofs.YtnfncaaclpddkaaDoor
open Go.RowKit

/-- The slice '.slice A n c' reads as the numbers xs. -/
structure Rd (k : IntKind) (w : World) (A : Option Addr) (n : Nat) (xs : List Int) : Prop where
  len : xs.length = n
  cells : 0 < n → ∃ b off, A = some ⟨b, off, none⟩ ∧ b < w.heap.size ∧ ∀ j x, xs[j]? = some x → w.cell? ⟨b, off + j, none⟩ = some (.int k x)

section
variable {k : IntKind} {w w' : World} {A : Option Addr} {n : Nat} {xs : List Int}
theorem Rd.nil (k : IntKind) (w : World) (A : Option Addr) : Rd k w A 0 [] := ⟨rfl, fun h => absurd h (by omega)⟩
theorem Rd.at_ (h : Rd k w A n xs) {j : Nat} (hj : j < n) : ∃ b off x, A = some ⟨b, off, none⟩ ∧ b < w.heap.size ∧ xs[j]? = some x ∧ w.cell? ⟨b, off + j, none⟩ = some (.int k x) := by
  obtain ⟨b, off, e, hb, hc⟩ := h.cells (by omega)
  have hl : j < xs.length := by have := h.len; omega
  exact ⟨b, off, xs[j], e, hb, List.getElem?_eq_getElem hl, hc j _ (List.getElem?_eq_getElem hl)⟩
theorem Rd.keep (h : Rd k w A n xs) (hs : w.heap.size ≤ w'.heap.size) (hk : ∀ p : Addr, p.block < w.heap.size → w'.cell? p = w.cell? p) : Rd k w' A n xs :=
  ⟨h.len, fun hn => by
    obtain ⟨b, off, e, hb, hc⟩ := h.cells hn
    exact ⟨b, off, e, by omega, fun j x hx => (hk _ hb).trans (hc j x hx)⟩⟩
theorem Rd.below (h : Rd k w A n xs) (hb : Below w.heap.size w w') : Rd k w' A n xs := h.keep hb.size fun _ hp => hb.cell hp
theorem Rd.drewN (h : Rd k w A n xs) (m : Nat) : Rd k (w.drewN m) A n xs := ⟨h.len, h.cells⟩
theorem Rd.drew (h : Rd k w A n xs) : Rd k w.drew A n xs := ⟨h.len, h.cells⟩
theorem Rd.alloc (h : Rd k w A n xs) (o : Obj) : Rd k (w.alloc o) A n xs := h.keep (by simp) fun p hp => World.cell?_alloc_lt w o p hp
/-- Only block g may have turned, and it isn't one that is read here. -/
theorem Rd.grown (h : Rd k w A n xs) {g : Nat} (hg : w.grownBy w' (some g)) (hne : ∀ a, A = some a → a.block ≠ g) : Rd k w' A n xs :=
  ⟨h.len, fun hn => by
    obtain ⟨b, off, e, hb, hc⟩ := h.cells hn
    have hb' := hg.size
    exact ⟨b, off, e, by omega, fun j x hx => (World.cell?_of_block (hg.block b hb (fun he => hne _ e (by injection he)))).trans (hc j x hx)⟩⟩
theorem Rd.take (h : Rd k w A n xs) {m : Nat} (hm : m ≤ n) : Rd k w A m (xs.take m) :=
  ⟨by rw [List.length_take, h.len]; omega, fun hn => by
    obtain ⟨b, off, e, hb, hc⟩ := h.cells (by omega)
    refine ⟨b, off, e, hb, fun j x hx => hc j x ?_⟩
    rcases Nat.lt_or_ge j m with hj | hj
    · rwa [List.getElem?_take_of_lt hj] at hx
    · rw [List.getElem?_eq_none (by rw [List.length_take]; omega)] at hx; cases hx⟩
end

/-- Block g is just the numbers xs, none frozen. -/
def Row (w : World) (g : Nat) (t : TypeId) (k : IntKind) (xs : List Int) : Prop := w.heap[g]? = some (.cells (xs.map (Value.int k)).toArray t (0, 0))

section
variable {w w' : World} {g : Nat} {t : TypeId} {k : IntKind} {xs : List Int}
theorem Row.lt (h : Row w g t k xs) : g < w.heap.size := by
  rcases Nat.lt_or_ge g w.heap.size with hlt | hge
  · exact hlt
  · unfold Row at h; rw [Array.getElem?_eq_none hge] at h; cases h
theorem Row.cell (h : Row w g t k xs) {i : Nat} {x : Int} (hx : xs[i]? = some x) : w.cell? ⟨g, i, none⟩ = some (.int k x) := by
  rw [cell_of_row w g i _ t (0, 0) h]; simp [hx]
theorem Row.frozen (h : Row w g t k xs) (i : Nat) : w.frozen? ⟨g, i, none⟩ = false := frozen_of_row w g i _ t h
theorem Row.new (w : World) (t : TypeId) (k : IntKind) (xs : List Int) : Row (w.alloc (.cells (xs.map (Value.int k)).toArray t)) w.heap.size t k xs := heap_alloc_new w _
theorem Row.drew (h : Row w g t k xs) : Row w.drew g t k xs := h
theorem Row.drewN (h : Row w g t k xs) (n : Nat) : Row (w.drewN n) g t k xs := h
theorem Row.alloc (h : Row w g t k xs) (o : Obj) : Row (w.alloc o) g t k xs := (Below.heap_alloc w o g h.lt).trans h
theorem Row.set (h : Row w g t k xs) (i : Nat) (x : Int) : Row (w.setCell ⟨g, i, none⟩ (.int k x)) g t k (xs.set i x) := by
  unfold Row at h ⊢
  simp [World.setCell, Array.getElem?_modify, h, List.map_set]
theorem Row.below {B : Nat} (h : Row w g t k xs) (hb : Below B w w') (hg : g < B) : Row w' g t k xs := (hb.block g hg).trans h
theorem Row.grown {row : Option Nat} (h : Row w g t k xs) (hb : w.grownBy w' row) (hg : some g ≠ row) : Row w' g t k xs := (hb.block g h.lt hg).trans h
/-- A part of the block, as a slice reads. -/
theorem Row.rd (h : Row w g t k xs) {off n : Nat} {ys : List Int} (hn : ys.length = n) (hy : ∀ j x, ys[j]? = some x → xs[off + j]? = some x) : Rd k w (some ⟨g, off, none⟩) n ys :=
  ⟨hn, fun _ => ⟨g, off, rfl, h.lt, fun j x hx => h.cell (hy j x hx)⟩⟩
theorem Row.rd0 (h : Row w g t k xs) {n : Nat} (hn : n ≤ xs.length) : Rd k w (some ⟨g, 0, none⟩) n (xs.take n) :=
  h.rd (by simp; omega) fun j x hx => by
    rcases Nat.lt_or_ge j n with hj | hj
    · rw [List.getElem?_take_of_lt hj] at hx; rwa [Nat.zero_add]
    · rw [List.getElem?_eq_none (by rw [List.length_take]; omega)] at hx; cases hx
end

theorem grown_of_below {a w : World} (h : Below a.heap.size a w) (row : Option Nat) : a.grownBy w row := ⟨h.os, h.tape, h.output, h.size, fun i hi _ => h.block i hi⟩
theorem grown_trans {a b c : World} {row : Option Nat} (h : a.grownBy b row) (k : b.grownBy c row) : a.grownBy c row :=
  ⟨k.os.trans h.os, k.tape.trans h.tape, k.output.trans h.output, Nat.le_trans h.size k.size, fun i hi hn => (k.block i (Nat.lt_of_lt_of_le hi h.size) hn).trans (h.block i hi hn)⟩
theorem grown_drewN {a w : World} {row : Option Nat} (h : a.grownBy w row) (n : Nat) : a.grownBy (w.drewN n) row := ⟨h.os, h.tape, h.output, h.size, h.block⟩
theorem grown_drew {a w : World} {row : Option Nat} (h : a.grownBy w row) : a.grownBy w.drew row := ⟨h.os, h.tape, h.output, h.size, h.block⟩
theorem grown_setCell {a w : World} {g : Nat} (h : a.grownBy w (some g)) (i : Nat) (u : Value) : a.grownBy (w.setCell ⟨g, i, none⟩ u) (some g) :=
  ⟨h.os, h.tape, h.output, by simpa [World.setCell] using h.size, fun j hj hne => (Below.heap_setCell w ⟨g, i, none⟩ u j (by rintro rfl; exact hne rfl)).trans (h.block j hj hne)⟩
theorem below_drewN {B : Nat} {a w : World} (h : Below B a w) (n : Nat) : Below B a (w.drewN n) := ⟨h.os, h.tape, h.output, h.size, h.block⟩
theorem below_grown {B : Nat} {a w w' : World} {g : Nat} (h : Below B a w) (hg : w.grownBy w' (some g)) (hB : B ≤ w.heap.size) (hr : B ≤ g) : Below B a w' :=
  h.grown hg hB (fun k e => by injection e with e; omega)
end Go.Proofs.YtnfncaaclpddkaaDoor
