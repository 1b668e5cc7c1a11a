/-
  Memory that stays: what lies outside of some blocks. Slices of the call's own, of any kind of integers, that are turned cell by cell.
-/
import Derived.Test.YtkecfdeepmhggaaPkf
namespace Go.Proofs.Ytkecfdeepmhggaa
open Go.RowKit
set_option linter.unusedVariables false
/-- All blocks outside of X are as they were. -/
structure Kept (X : Nat → Prop) (w0 w : World) : Prop where
  size : w0.heap.size ≤ w.heap.size
  block : ∀ b, b < w0.heap.size → ¬ X b → w.heap[b]? = w0.heap[b]?
/-- A slice lies outside of X. -/
def Free (X : Nat → Prop) (A : Option Addr) : Prop := ∀ a, A = some a → ¬ X a.block
section
variable {X : Nat → Prop} {w0 w1 w : World}
theorem Kept.refl (X : Nat → Prop) (w : World) : Kept X w w := ⟨Nat.le_refl _, fun _ _ _ => rfl⟩
theorem Kept.trans (h : Kept X w0 w1) (h' : Kept X w1 w) : Kept X w0 w := ⟨Nat.le_trans h.size h'.size, fun b hb hx => (h'.block b (Nat.lt_of_lt_of_le hb h.size) hx).trans (h.block b hb hx)⟩
theorem Kept.of_below (h : Below w0.heap.size w0 w) : Kept X w0 w := ⟨h.size, fun b hb _ => h.block b hb⟩
theorem Kept.cell (h : Kept X w0 w) {p : Addr} (hp : p.block < w0.heap.size) (hx : ¬ X p.block) : w.cell? p = w0.cell? p := World.cell?_of_block (h.block _ hp hx)
theorem Kept.rd {k : IntKind} {A : Option Addr} {n : Nat} {xs : List Int} (h : Kept X w0 w) (hr : Rd k w0 A n xs) (hx : ∀ a, A = some a → a.block < w0.heap.size → ¬ X a.block) : Rd k w A n xs :=
  ⟨hr.len, fun hn => by
    obtain ⟨b, off, e, hb, hc⟩ := hr.cells hn
    exact ⟨b, off, e, Nat.lt_of_lt_of_le hb h.size, fun j x hj => (h.cell (p := ⟨b, off + j, none⟩) hb (hx ⟨b, off, none⟩ e hb)).trans (hc j x hj)⟩⟩
end
/-- A slice of the call's own, from base on, that may be stored into. -/
structure Mn (t : TypeId) (k : IntKind) (w : World) (base : Nat) (A : Option Addr) (n c : Nat) (xs : List Int) : Prop where
  len : xs.length = n
  nc : n ≤ c
  new : ∀ a, A = some a → base ≤ a.block
  lt : ∀ a, A = some a → a.block < w.heap.size
  row : 0 < n → ∃ (g : Nat) (cur : Array Value), A = some ⟨g, 0, none⟩ ∧ w.heap[g]? = some (.cells cur t (0, 0)) ∧ ∀ (j : Nat) (x : Int), xs[j]? = some x → cur[j]? = some (Value.int k x)
section
variable {t : TypeId} {k : IntKind} {w w' : World} {base : Nat} {A : Option Addr} {n c : Nat} {xs : List Int}
theorem Mn.kept {X : Nat → Prop} (h : Mn t k w base A n c xs) (hk : Kept X w w') (hx : ∀ a, A = some a → ¬ X a.block) : Mn t k w' base A n c xs :=
  ⟨h.len, h.nc, h.new, fun a ha => Nat.lt_of_lt_of_le (h.lt a ha) hk.size, fun hn => by
    obtain ⟨g, cur, e, hg, hc⟩ := h.row hn
    exact ⟨g, cur, e, (hk.block g (Array.getElem?_eq_some_iff.1 hg).1 (hx _ e)).trans hg, hc⟩⟩
theorem Mn.below (h : Mn t k w base A n c xs) (hb : Below w.heap.size w w') : Mn t k w' base A n c xs := h.kept (X := fun _ => False) (Kept.of_below hb) (fun _ _ h => h)
theorem Mn.rd (h : Mn t k w base A n c xs) : Rd k w A n xs :=
  ⟨h.len, fun hn => by
    obtain ⟨g, cur, e, hg, hc⟩ := h.row hn
    exact ⟨g, 0, e, (Array.getElem?_eq_some_iff.1 hg).1, fun j x hx => by rw [Nat.zero_add, cell_of_row w g j cur _ _ hg]; exact hc j x hx⟩⟩
theorem mn_own {v : Value} (h : w.ownsRow base t 1 v n (xs.map (Value.int k))) : ∃ A c, v = .slice A n c ∧ Mn t k w base A n c xs := by
  have hl : xs.length = n := by have := h.1; simpa using this
  rcases h.2 with ⟨rfl, rfl⟩ | ⟨g, cap, cur, rfl, hb, hg, hnc, hm, hs, ht⟩
  · exact ⟨none, 0, rfl, hl, Nat.le_refl _, fun a ha => (by cases ha), fun a ha => (by cases ha), fun h => absurd h (by omega)⟩
  · refine ⟨_, cap, rfl, hl, hnc, fun a ha => by injection ha with ha; subst ha; exact hb, fun a ha => by injection ha with ha; subst ha; exact (Array.getElem?_eq_some_iff.1 hg).1, fun hn => ⟨g, cur, rfl, hg, fun j x hx => ?_⟩⟩
    have hj : j < n := by
      rcases Nat.lt_or_ge j n with q | q
      · exact q
      · rw [List.getElem?_eq_none (by omega)] at hx; cases hx
    have h1 : (cur.toList.take (n * 1))[j]? = some (.int k x) := by rw [ht, List.getElem?_map, hx]; rfl
    rw [List.getElem?_take_of_lt (by omega)] at h1
    simpa using h1
theorem mn_row {g : Nat} (h : Row w g t k xs) (hl : xs.length = n) (hnc : n ≤ c) (hb : base ≤ g) : Mn t k w base (some ⟨g, 0, none⟩) n c xs :=
  ⟨hl, hnc, fun a ha => by injection ha with ha; subst ha; exact hb, fun a ha => by injection ha with ha; subst ha; exact h.lt, fun _ => ⟨g, _, rfl, h, fun j x hx => by simp [hx]⟩⟩
end
/-- Only what the slice A has may have turned. -/
structure Trd (t : TypeId) (k : IntKind) (A : Option Addr) (n : Nat) (w0 w : World) : Prop where
  zero : n = 0 → w = w0
  row : 0 < n → ∃ (g : Nat) (cur : Array Value), A = some ⟨g, 0, none⟩ ∧ w.heap[g]? = some (.cells cur t (0, 0)) ∧ (∀ j, j < n → ∃ x : Int, cur[j]? = some (Value.int k x)) ∧ w0.grownBy w (some g)
section
variable {t : TypeId} {k : IntKind} {A : Option Addr} {n c : Nat} {w0 w a : World}
theorem Trd.start {base : Nat} {xs : List Int} (h : Mn t k w base A n c xs) : Trd t k A n w w :=
  ⟨fun _ => rfl, fun hn => by
    obtain ⟨g, cur, e, hg, hc⟩ := h.row hn
    exact ⟨g, cur, e, hg, fun j hj => ⟨_, hc j _ (getElem?_dig (by have := h.len; omega))⟩, World.grownBy.refl w _⟩⟩
theorem Trd.below {B : Nat} (h : Trd t k A n w0 w) (hb : Below B a w0) (hB : B ≤ w0.heap.size) (hg : ∀ x, A = some x → B ≤ x.block) : Below B a w := by
  rcases Nat.eq_zero_or_pos n with g | g
  · rw [h.zero g]; exact hb
  · obtain ⟨g, cur, e, -, -, gr⟩ := h.row g
    exact below_grown hb gr hB (hg _ e)
theorem Trd.kept {X : Nat → Prop} (h : Trd t k A n w0 w) (hx : ∀ a, A = some a → X a.block) : Kept X w0 w := by
  rcases Nat.eq_zero_or_pos n with g | g
  · rw [h.zero g]; exact Kept.refl _ _
  · obtain ⟨g, cur, e, -, -, gr⟩ := h.row g
    exact ⟨gr.size, fun b hb hn => gr.block b hb (fun he => hn (by injection he with he; rw [he]; exact hx _ e))⟩
/-- One cell more. -/
theorem Trd.step {j g : Nat} {cur : Array Value} {x : Int} (hA : A = some ⟨g, 0, none⟩) (hk : j < n) (hg : w.heap[g]? = some (.cells cur t (0, 0))) (hc : ∀ j, j < n → ∃ x : Int, cur[j]? = some (Value.int k x)) (gr : w0.grownBy w (some g)) :
    Trd t k A n w0 (w.setCell ⟨g, j, none⟩ (.int k x)) := by
  refine ⟨fun h => by omega, fun _ => ⟨g, cur.setIfInBounds j (.int k x), hA, ?_, fun i hi => ?_, grown_setCell gr j _⟩⟩
  · rw [setCell_eq_setRow w g j cur _ _ _ hg]; exact setRow_heap w g cur _ _ _ hg
  · rw [Array.getElem?_setIfInBounds]
    split
    · rename_i h
      subst h
      obtain ⟨y, hy⟩ := hc j hk
      have := (Array.getElem?_eq_some_iff.1 hy).1
      rw [if_pos this]
      exact ⟨x, rfl⟩
    · exact hc i hi
end
end Go.Proofs.Ytkecfdeepmhggaa
