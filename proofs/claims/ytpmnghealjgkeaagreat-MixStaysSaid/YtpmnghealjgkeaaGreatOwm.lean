/-
  Letters and lists that were answered lie in new memory.
-/
import Derived.Test.YtpmnghealjgkeaaGreatOwg
import Derived.Test.YtpmnghealjgkeaaGreatMxx
namespace Go.Proofs.YtpmnghealjgkeaaGreat
open Go.RowKit
set_option linter.unusedVariables false
theorem Lo.bl {w : World} {base : Nat} {A : Option Addr} {n c : Nat} {S : Nat → Stp} (h : Lo w base A n c S) {b : Nat} (hb : BlL ⟨A, n, c, S⟩ b) : base ≤ b := by
  rcases hb with ⟨a, e, -, rfl⟩ | ⟨i, hi, g⟩
  · exact h.newA a e
  · have hs := h.newS i hi
    rcases g with ⟨a, e, -, rfl⟩ | ⟨a, e, -, rfl⟩ | ⟨a, e, -, rfl⟩
    · exact hs.1 a e
    · exact hs.2.1 a e
    · exact hs.2.2 a e
/-- A list of integers that came in: its cells. -/
theorem rd_ex {k : IntKind} {w : World} {A : Option Addr} {n : Nat} {xs : List Int} (h : Rd k w A n xs) : 0 < n → ∃ b off, A = some ⟨b, off, none⟩ ∧ b < w.heap.size ∧ ∀ j, j < n → w.cell? ⟨b, off + j, none⟩ = some (.int k (dig xs j)) := fun hn => by
  obtain ⟨b, off, e, hb, hc⟩ := h.cells hn
  exact ⟨b, off, e, hb, fun j hj => hc j _ (getElem?_dig (by have := h.len; omega))⟩
theorem one_at (w : World) (u : Value) (t : TypeId) : (w.alloc (.cells #[u] t)).cell? ⟨w.heap.size, 0, none⟩ = some u := by simp [World.cell?_alloc_at]
end Go.Proofs.YtpmnghealjgkeaaGreat
