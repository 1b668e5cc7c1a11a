/-
  Great literals of numbers, steps and chains, laid one by one: what follows knows what they are, not where they lie.
-/
import Derived.Test.YtpmnghealjgkeaaGreatPri
import Derived.Great.BuildSlice
import Derived.Great.Walk
namespace Go.Proofs.YtpmnghealjgkeaaGreat
open Go.RowKit
set_option linter.unusedVariables false
instance stpInh : Inhabited Stp := ⟨⟨none, 0, 0, none, 0, 0, none, 0, 0, 0, 0, 0⟩⟩
/-- A step's three cells. -/
def cells3 (s : Stp) : List Value := [.slice s.A1 s.n1 s.c1, .slice s.A2 s.n2 s.c2, .slice s.A3 s.n3 s.c3]
theorem flat3 : ∀ (l : List Stp) (i : Nat) (s : Stp), l[i]? = some s → (l.flatMap cells3)[i * 3]? = some (.slice s.A1 s.n1 s.c1) ∧ (l.flatMap cells3)[i * 3 + 1]? = some (.slice s.A2 s.n2 s.c2) ∧ (l.flatMap cells3)[i * 3 + 2]? = some (.slice s.A3 s.n3 s.c3)
  | [], i, s, h => by simp at h
  | x :: r, 0, s, h => by
    obtain rfl : x = s := by simpa using h
    simp [List.flatMap_cons, cells3]
  | x :: r, i + 1, s, h => by
    obtain ⟨h1, h2, h3⟩ := flat3 r i s (by simpa using h)
    rw [List.flatMap_cons, show (i + 1) * 3 = i * 3 + 3 by omega]
    refine ⟨?_, ?_, ?_⟩
    · rw [List.getElem?_append_right (by simp [cells3]), show i * 3 + 3 - (cells3 x).length = i * 3 by simp [cells3]]; exact h1
    · rw [List.getElem?_append_right (by simp [cells3]), show i * 3 + 3 + 1 - (cells3 x).length = i * 3 + 1 by simp [cells3]]; exact h2
    · rw [List.getElem?_append_right (by simp [cells3]), show i * 3 + 3 + 2 - (cells3 x).length = i * 3 + 2 by simp [cells3]]; exact h3
theorem ch_list {w : World} {N : Nat} (l : List Stp) (hrow : w.heap[N]? = some (.cells (l.flatMap cells3).toArray 117 (0, 0))) (hle : l.length ≤ 1000) (hat : ∀ s ∈ l, s.At w) :
    Ch w (some ⟨N, 0, none⟩) l.length l.length (fun i => l.getD i default) := by
  have get : ∀ i, i < l.length → l[i]? = some (l.getD i default) := fun i hi => by
    rw [List.getD_eq_getElem?_getD, List.getElem?_eq_getElem hi]; rfl
  have hN : N < w.heap.size := by
    rcases Nat.lt_or_ge N w.heap.size with g | g
    · exact g
    · rw [Array.getElem?_eq_none g] at hrow; cases hrow
  refine ⟨Nat.le_refl _, by omega, fun _ => ⟨N, 0, rfl, hN, fun i hi => ?_⟩, fun i hi => ?_⟩
  · obtain ⟨h1, h2, h3⟩ := flat3 l i _ (get i hi)
    rw [Nat.zero_add]
    exact ⟨by rw [cell_of_row w N _ _ _ (0, 0) hrow]; simpa using h1, by rw [cell_of_row w N _ _ _ (0, 0) hrow]; simpa using h2, by rw [cell_of_row w N _ _ _ (0, 0) hrow]; simpa using h3⟩
  · exact hat _ (List.mem_of_getElem? (get i hi))
section
variable {ops : Array Oper} {rest : List Oper} {o : Oper} {a : Act} {w : World} {Q : Exit → Act → World → Prop}
/-- A number. -/
theorem lt_nat (d : Tmp) (zs : List Int) (X : Int) {n : Nat} {parts : Array (Nat × Operand)} (ho : o.op = .buildSlice 23 n parts) (hg : o.guard = none) (hd : o.dst = some d)
    (hlen : n = zs.length) (hn : 0 < n ∧ n ≤ 1000) (hparts : parts.toList = (zs.zipIdx 0).map fun x => (x.2, Operand.const (Value.int .u64 x.1))) (hdig : (zs.all fun x => decide (0 ≤ x) && decide (x < 18446744073709551616)) = true) (hval : val W zs = X)
    (h : ∀ N w', Row w' N 78 .u64 zs → Nm w' (some ⟨N, 0, none⟩) n n X → Below w.heap.size w w' → w.heap.size ≤ N → wpList Tryz.prog ops Q rest (a.put (some d) (.slice (some ⟨N, 0, none⟩) n n)) w') : wpList Tryz.prog ops Q (o :: rest) a w := by
  have hD : Dig W zs := fun x hx => by
    have := List.all_eq_true.1 hdig x hx
    simp only [Bool.and_eq_true, decide_eq_true_eq] at this
    exact this
  have hr := Row.new w 78 .u64 zs
  refine wpList_buildFlatAt hg 23 78 n parts ho .u64 zs w.heap.size rfl (some d) hd Tryz.underlying23 (by kernel_rfl) (by kernel_rfl) hlen hn.1 (by omega) hparts (h _ _ hr ?_ (below_al _ _) (Nat.le_refl _))
  refine ⟨⟨zs, hr.rd hlen.symm fun j x hx => by rwa [Nat.zero_add], hD, hval⟩, Nat.le_refl _, by omega, ?_⟩
  rw [← hval]
  exact val_nonneg (by decide) hD
/-- A chain of steps that lie in temporaries. -/
theorem lt_chain (d : Tmp) (l : List Stp) {n : Nat} {parts : Array (Nat × Operand)} (ho : o.op = .buildSlice 65 n parts) (hg : o.guard = none) (hd : o.dst = some d)
    (hlen : n = l.length) (hle : l.length ≤ 1000) (hb : Tryz.prog.builtSlice 117 n (parts.map fun (i, x) => (i, a.eval x)).toList = some (l.flatMap cells3).toArray) (hat : ∀ s ∈ l, s.At w)
    (h : ∀ N w', Ch w' (some ⟨N, 0, none⟩) n n (fun i => l.getD i default) → Below w.heap.size w w' → w.heap.size ≤ N → wpList Tryz.prog ops Q rest (a.put (some d) (.slice (some ⟨N, 0, none⟩) n n)) w') : wpList Tryz.prog ops Q (o :: rest) a w := by
  refine Great.wpList_buildSliceTo hg 65 117 n parts ho w.heap.size rfl (some d) hd Tryz.underlying65 _ hb (h _ _ ?_ (below_al _ _) (Nat.le_refl _))
  rw [hlen]
  exact ch_list l (heap_alloc_new w _) hle fun s hs => (hat s hs).below (below_al _ _)
end
/-- The temporaries, written out. -/
theorem act_to {ops : Array Oper} {rest : List Oper} {a a' : Act} {w : World} {Q : Exit → Act → World → Prop} (h : a' = a) (hw : wpList Tryz.prog ops Q rest a' w) : wpList Tryz.prog ops Q rest a w := h ▸ hw
end Go.Proofs.YtpmnghealjgkeaaGreat
