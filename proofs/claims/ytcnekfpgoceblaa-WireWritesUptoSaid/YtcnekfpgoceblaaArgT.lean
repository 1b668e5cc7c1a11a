/-
  A chain of steps that came in: its cells, that its slices are numbers, and how long they are told.
-/
import Derived.Test.YtcnekfpgoceblaaAgl
import Derived.Test.YtcnekfpgoceblaaRows
namespace Go.Proofs.Ytcnekfpgoceblaa
open Go.RowKit Go.ChangeShapes Go.WideShapes Go.Deep
set_option linter.unusedVariables false
/-- How many elements a datum has, if it is a slice. -/
def slen {H : Type} : DataW H → Nat
  | .slice elems _ => elems.length
  | _ => 0
theorem bulk_pos {H : Type} (d : DataW H) : 0 < Rows.uptoBulk d := by
  cases d <;> first | (simp [Rows.uptoBulk]; done) | (rename_i l; cases l <;> simp [Rows.uptoBulk])
theorem bulk_each {H : Type} : ∀ (l : List (DataW H)), l.length ≤ Rows.uptoBulkAll l ∧ ∀ d ∈ l, Rows.uptoBulk d ≤ Rows.uptoBulkAll l
  | [] => ⟨Nat.zero_le _, fun d hd => by cases hd⟩
  | x :: r => by
    obtain ⟨h1, h2⟩ := bulk_each r
    have h0 := bulk_pos x
    refine ⟨by simp only [Rows.uptoBulkAll, List.length_cons]; omega, fun d hd => ?_⟩
    simp only [Rows.uptoBulkAll]
    rcases List.mem_cons.1 hd with rfl | hd
    · omega
    · have := h2 d hd; omega
theorem slen_le {H : Type} (d : DataW H) : slen d ≤ Rows.uptoBulk d := by
  cases d with
  | slice elems spare => have := (bulk_each elems).1; simp only [slen, Rows.uptoBulk]; omega
  | _ => simp [slen]
section
variable {H : Type} {enc : TypeId × Value → H} {w : World}
/-- A slice of limbs that was read, and all that is weighed of it is within the reach. -/
theorem field_row2 {n : Nat} {v : Value} {y : DataW H × List MemPlace} (hf : DataW.trod enc Try.prog w 0 (fun _ => true) true n 26 [v] = some y) (hw : ∀ k ∈ y.1.weights Try.prog 26, k ≤ reachBytes) :
    ∃ a len cap zs, v = .slice a len cap ∧ IsRow .u64 8 w a len cap zs ∧ len = slen y.1 := by
  rcases open_ints Try.underlying26 Try.underlying41 (by kernel_rfl) hf with ⟨hcs, hx⟩ | ⟨x, l, c, zs, hcs, _, hl, hm, hz, hx, hcell, hwz⟩
  · injection hcs with hv
    exact ⟨none, 0, 0, [], hv, .inl ⟨rfl, rfl, rfl, rfl⟩, by rw [hx]; rfl⟩
  · injection hcs with hv
    refine ⟨some x, l, c, zs, hv, .inr ⟨x, rfl, hl, ?_, by simpa using hz, hcell, hwz⟩, by rw [hx]; simp only [slen, lits, List.length_map, List.length_take]; simp at hz; omega⟩
    have h1 := hw ((zs.take l).length * 8 + (zs.drop l).length * 8) (by
      rw [hx]
      simp only [DataW.weights, Try.underlying26, nat8]
      refine List.mem_cons.2 (.inl ?_)
      simp only [lits, List.length_map]
      omega)
    simp only [List.length_take, List.length_drop, reachBytes] at h1
    simp at hz
    omega
end
end Go.Proofs.Ytcnekfpgoceblaa
