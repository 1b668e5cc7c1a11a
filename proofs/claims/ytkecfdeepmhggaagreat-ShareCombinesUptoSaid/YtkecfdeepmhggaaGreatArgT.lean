/-
  A chain of steps that came in: its cells, that its slices are numbers, and how long they are told.
-/
import Derived.Test.YtkecfdeepmhggaaGreatAgh
import Derived.Test.YtkecfdeepmhggaaGreatRows
namespace Go.Proofs.YtkecfdeepmhggaaGreat
open Go.RowKit Go.ChangeShapes Go.WideShapes Go.Deep
set_option linter.unusedVariables false
/-- How many elements a datum has, if it is a slice. -/
def slen {H : Type} : DataW H → Nat
  | .slice elems _ => elems.length
  | _ => 0
theorem bulk_pos {H : Type} (d : DataW H) : 0 < Rows.uptoBulk d := by
  cases d <;> first | (simp [Rows.uptoBulk]; done) | (rename_i l; cases l <;> simp [Rows.uptoBulk])
theorem bulk_each {H : Type} : ∀ (l : List (DataW H)), l.length ≤ Rows.uptoBulkAll l ∧ ∀ d ∈ l, Rows.uptoBulk d ≤ Rows.uptoBulkAll l
  | [] => ⟨Nat.zero_le _, fun d hd => by cases hd⟩
  | x :: r => by
    obtain ⟨h1, h2⟩ := bulk_each r
    have h0 := bulk_pos x
    refine ⟨by simp only [Rows.uptoBulkAll, List.length_cons]; omega, fun d hd => ?_⟩
    simp only [Rows.uptoBulkAll]
    rcases List.mem_cons.1 hd with rfl | hd
    · omega
    · have := h2 d hd; omega
theorem slen_le {H : Type} (d : DataW H) : slen d ≤ Rows.uptoBulk d := by
  cases d with
  | slice elems spare => have := (bulk_each elems).1; simp only [slen, Rows.uptoBulk]; omega
  | _ => simp [slen]
section
variable {H : Type} {enc : TypeId × Value → H} {w : World}
/-- A slice of limbs that was read, and all that is weighed of it is within the reach. -/
theorem field_row2 {n : Nat} {v : Value} {y : DataW H × List MemPlace} (hf : DataW.trod enc Tryz.prog w 0 (fun _ => true) true n 39 [v] = some y) (hw : ∀ k ∈ y.1.weights Tryz.prog 39, k ≤ reachBytes) :
    ∃ a len cap zs, v = .slice a len cap ∧ IsRow .u64 8 w a len cap zs ∧ len = slen y.1 := by
  rcases open_ints Tryz.underlying39 Tryz.underlying65 (by kernel_rfl) hf with ⟨hcs, hx⟩ | ⟨x, l, c, zs, hcs, _, hl, hm, hz, hx, hcell, hwz⟩
  · injection hcs with hv
    exact ⟨none, 0, 0, [], hv, .inl ⟨rfl, rfl, rfl, rfl⟩, by rw [hx]; rfl⟩
  · injection hcs with hv
    refine ⟨some x, l, c, zs, hv, .inr ⟨x, rfl, hl, ?_, by simpa using hz, hcell, hwz⟩, by rw [hx]; simp only [slen, lits, List.length_map, List.length_take]; simp at hz; omega⟩
    have h1 := hw ((zs.take l).length * 8 + (zs.drop l).length * 8) (by
      rw [hx]
      simp only [DataW.weights, Tryz.underlying39, nat8]
      refine List.mem_cons.2 (.inl ?_)
      simp only [lits, List.length_map]
      omega)
    simp only [List.length_take, List.length_drop, reachBytes] at h1
    simp at hz
    omega
/-- One step of the chain. -/
theorem step_row2 {n : Nat} {a : Addr} {fs : Array Field} {cs : List Value} {x : DataW H × List MemPlace} (he : Tryz.prog.underlying 99 = some (.struct fs)) (hone : oneCellFields Tryz.prog fs = true) (hmt : fs.toList.map (·.type) = [39, 39, 39])
    (hc : w.cells? 0 a 3 = some cs) (ht : DataW.trod enc Tryz.prog w 0 (fun _ => true) true n 99 cs = some x) (hw : ∀ k ∈ x.1.weights Tryz.prog 99, k ≤ reachBytes) :
    ∃ s : Stp, w.cell? (a.add 0) = some (.slice s.A1 s.n1 s.c1) ∧ w.cell? (a.add 1) = some (.slice s.A2 s.n2 s.c2) ∧ w.cell? (a.add 2) = some (.slice s.A3 s.n3 s.c3) ∧ s.At w ∧ ∃ y0 y1 y2, x.1 = .agg [y0, y1, y2] ∧ s.n1 = slen y0 ∧ s.n2 = slen y1 ∧ s.n3 = slen y2 := by
  obtain ⟨ys, n', -, hy, hlen, hyl, hf⟩ := DataW.trod_struct he ht
  obtain ⟨_, hcl, hat⟩ := World.cells?_some hc
  have hsz : fs.size = 3 := by have := congrArg List.length hmt; simpa using this
  have key : ∀ j, j < 3 → DataW.trod enc Tryz.prog w 0 (fun _ => true) true n' 39 ((cs.drop j).take 1) = ys[j]? := by
    intro j hj
    have hj' : j < fs.size := by omega
    have hfj : fs[j]? = some fs[j] := Array.getElem?_eq_getElem hj'
    obtain ⟨ho, hk⟩ := hone_of hone j _ hfj
    have hty : fs[j].type = 39 := by
      have h1 : (fs.toList.map (·.type))[j]? = some fs[j].type := by simp [hfj]
      rw [hmt] at h1
      exact three_same h1
    have h1 := hf j _ hfj
    rw [ho, hk, hty] at h1
    exact h1
  obtain ⟨v0, v1, v2, rfl⟩ := list3 hcl
  obtain ⟨y0, y1, y2, rfl⟩ := list3 (hyl.trans hsz)
  have e0 : DataW.trod enc Tryz.prog w 0 (fun _ => true) true n' 39 [v0] = some y0 := key 0 (by omega)
  have e1 : DataW.trod enc Tryz.prog w 0 (fun _ => true) true n' 39 [v1] = some y1 := key 1 (by omega)
  have e2 : DataW.trod enc Tryz.prog w 0 (fun _ => true) true n' 39 [v2] = some y2 := key 2 (by omega)
  have hw' : ∀ k ∈ DataW.weightsEach Tryz.prog [39, 39, 39] [y0.1, y1.1, y2.1], k ≤ reachBytes := by
    intro k hk
    refine hw k ?_
    rw [hy]
    simp only [DataW.weights, he, hmt]
    exact hk
  obtain ⟨a0, l0, k0, z0, rfl, r0, q0⟩ := field_row2 e0 fun k hk => hw' k (DataW.weights_mem_each (j := 0) rfl rfl k hk)
  obtain ⟨a1, l1, k1, z1, rfl, r1, q1⟩ := field_row2 e1 fun k hk => hw' k (DataW.weights_mem_each (j := 1) rfl rfl k hk)
  obtain ⟨a2, l2, k2, z2, rfl, r2, q2⟩ := field_row2 e2 fun k hk => hw' k (DataW.weights_mem_each (j := 2) rfl rfl k hk)
  exact ⟨⟨a0, l0, k0, a1, l1, k1, a2, l2, k2, _, _, _⟩, hat 0 (by omega), hat 1 (by omega), hat 2 (by omega), ⟨r0.told.nm, r1.told.nm, r2.told.nm⟩, y0.1, y1.1, y2.1, by rw [hy]; rfl, q0, q1, q2⟩
/-- A chain that came in. -/
theorem open_chain2 {fuel : Nat} {v : Value} {x : DataW H × List MemPlace} (h : DataW.trod enc Tryz.prog w 0 (fun _ => true) true fuel 61 [v] = some x) (hw : ∀ k ∈ x.1.weights Tryz.prog 61, k ≤ reachBytes) :
    ∃ a len cap S, v = .slice a len cap ∧ Ch w a len cap S ∧ ∀ i, i < len → (S i).n1 ≤ Rows.uptoBulk x.1 ∧ (S i).n2 ≤ Rows.uptoBulk x.1 := by
  rcases open_slice Tryz.underlying61 h with ⟨hcs, _⟩ | ⟨a, len, cap, m, n, D, Pl, hcs, _, hl, hm, hmm, hx, hi⟩
  · injection hcs with hv
    exact ⟨none, 0, 0, fun _ => default, hv, ⟨Nat.le_refl _, by omega, fun h => absurd h (by omega), fun i h => absurd h (by omega)⟩, fun i h => absurd h (by omega)⟩
  · injection hcs with hv
    rw [cellsS3] at hi
    obtain rfl : m = cap := by simpa using hmm
    rw [hx] at hw
    simp only [DataW.weights, Tryz.underlying61, bytesS3] at hw
    have hcap : m * 72 ≤ reachBytes := by
      have := hw _ (List.mem_cons.2 (.inl rfl))
      simp only [List.length_map, List.length_range] at this
      omega
    have each : ∀ i, i < len → ∃ s : Stp, w.cell? ((a.add (i * 3)).add 0) = some (.slice s.A1 s.n1 s.c1) ∧ w.cell? ((a.add (i * 3)).add 1) = some (.slice s.A2 s.n2 s.c2) ∧ w.cell? ((a.add (i * 3)).add 2) = some (.slice s.A3 s.n3 s.c3) ∧ s.At w ∧ (s.n1 ≤ Rows.uptoBulk x.1 ∧ s.n2 ≤ Rows.uptoBulk x.1) := by
      intro i hil
      obtain ⟨cs', h1, h2⟩ := hi i (by omega)
      have hmem : D i ∈ (List.range len).map D := List.mem_map.2 ⟨i, List.mem_range.2 hil, rfl⟩
      obtain ⟨s, s0, s1, s2, sat, y0, y1, y2, hy, l1, l2, -⟩ := step_row2 Tryz.underlying99 (by kernel_rfl) (by kernel_rfl) h1 h2 fun k hk => hw k (List.mem_cons.2 (.inr (List.mem_append.2 (.inl (all_mem hmem k hk)))))
      refine ⟨s, s0, s1, s2, sat, ?_⟩
      have u1 := (bulk_each _).2 _ hmem
      have hy' : D i = .agg [y0, y1, y2] := hy
      rw [hy'] at u1
      have v0 := slen_le y0
      have v1 := slen_le y1
      rw [hx]
      simp only [Rows.uptoBulk, Rows.uptoBulkAll] at u1 ⊢
      omega
    obtain ⟨S, hS⟩ := choose_lt each
    refine ⟨some a, len, m, S, hv, ⟨hl, by simp only [reachBytes] at hcap; omega, fun hn => ?_, fun i hi => (hS i hi).2.2.2.1⟩, fun i hi => (hS i hi).2.2.2.2⟩
    obtain ⟨b, off, spot⟩ := a
    have hspot : spot = none := by simpa [Addr.add] using World.cell?_spot (hS 0 hn).1
    subst hspot
    simp only [add_off] at hS
    exact ⟨b, off, rfl, block_lt_of_cell (hS 0 hn).1, fun i hi => ⟨(hS i hi).1, (hS i hi).2.1, (hS i hi).2.2.1⟩⟩
end
end Go.Proofs.YtkecfdeepmhggaaGreat
