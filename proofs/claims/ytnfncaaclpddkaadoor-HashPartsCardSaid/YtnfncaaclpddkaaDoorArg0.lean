/-
  A slice of integers that came in: what is known of it.
-/
import Derived.Test.YtnfncaaclpddkaaDoorMem
import Derived.OpenShut
namespace Go.Proofs.YtnfncaaclpddkaaDoor
open Go.RowKit
set_option linter.unusedVariables false
/-- A slice of integers that came in: nil, or a row of cap cells, zs, within the reach. -/
def IsRow (k : IntKind) (sz : Nat) (w : World) (a : Option Addr) (len cap : Nat) (zs : List Int) : Prop :=
  (a = none ∧ len = 0 ∧ cap = 0 ∧ zs = []) ∨
  ∃ x, a = some x ∧ len ≤ cap ∧ cap * sz ≤ 140737488351232 ∧ zs.length = cap ∧ (∀ i, i < zs.length → w.cell? (x.add i) = some (.int k (zs.getD i 0))) ∧ ∀ n ∈ zs, (Lit.int k n).wf = true
theorem IsRow.rd {k : IntKind} {sz : Nat} {w : World} {a : Option Addr} {len cap : Nat} {zs : List Int} (h : IsRow k sz w a len cap zs) : Rd k w a len (zs.take len) := by
  rcases h with ⟨rfl, rfl, rfl, rfl⟩ | ⟨x, rfl, hl, hm, hz, hcell, hwz⟩
  · exact Rd.nil _ _ _
  · refine ⟨by rw [List.length_take]; omega, fun hn => ?_⟩
    obtain ⟨b, off, spot⟩ := x
    have hc := hcell 0 (by omega)
    have hspot : spot = none := by simpa [Addr.add] using World.cell?_spot hc
    subst hspot
    have hplain : ∀ j, (⟨b, off, none⟩ : Addr).add j = ⟨b, off + j, none⟩ := fun j => by
      unfold Addr.add; split
      · rename_i h0; subst h0; rfl
      · rfl
    rw [hplain] at hc
    refine ⟨b, off, rfl, block_lt_of_cell hc, fun j v hv => ?_⟩
    have hj : j < len := by
      rcases Nat.lt_or_ge j len with g | g
      · exact g
      · rw [List.getElem?_eq_none (by rw [List.length_take]; omega)] at hv; cases hv
    rw [List.getElem?_take_of_lt hj] at hv
    have := hcell j (by omega)
    rw [hplain, List.getD_eq_getElem?_getD, hv] at this
    exact this
theorem IsRow.nc {k : IntKind} {sz : Nat} {w : World} {a : Option Addr} {len cap : Nat} {zs : List Int} (h : IsRow k sz w a len cap zs) : len ≤ cap ∧ cap * sz ≤ 140737488351232 := by
  rcases h with ⟨rfl, rfl, rfl, rfl⟩ | ⟨x, rfl, hl, hm, _⟩
  · exact ⟨Nat.le_refl _, by omega⟩
  · exact ⟨hl, hm⟩
theorem IsRow.wf {k : IntKind} {sz : Nat} {w : World} {a : Option Addr} {len cap : Nat} {zs : List Int} (h : IsRow k sz w a len cap zs) : ∀ x ∈ zs.take len, (Lit.int k x).wf = true := by
  rcases h with ⟨rfl, rfl, rfl, rfl⟩ | ⟨x, rfl, hl, hm, hz, hcell, hwz⟩
  · intro x hx; cases hx
  · exact fun x hx => hwz x (List.mem_of_mem_take hx)
end Go.Proofs.YtnfncaaclpddkaaDoor
