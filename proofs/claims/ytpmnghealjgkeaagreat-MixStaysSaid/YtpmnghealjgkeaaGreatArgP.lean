/-
  Letters, batches and lists of numbers that came in: their cells, and that their slices are numbers.
-/
import Derived.Test.YtpmnghealjgkeaaGreatArgS
import Derived.Test.YtpmnghealjgkeaaGreatMxx
namespace Go.Proofs.YtpmnghealjgkeaaGreat
open Go.RowKit Go.ChangeShapes Go.WideShapes Go.Deep
set_option linter.unusedVariables false
section
variable {H : Type} {enc : TypeId × Value → H} {w : World}
theorem cellsP3 : Tryz.prog.cellsOf 61 = 3 := by kernel_rfl
theorem bytesP3 : Tryz.prog.bytesOf 61 = 72 := by kernel_rfl
/-- One pair of a letter. -/
theorem pair_row {n : Nat} {a : Addr} {fs : Array Field} {cs : List Value} {x : DataW H × List MemPlace} (he : Tryz.prog.underlying 61 = some (.struct fs)) (hone : oneCellFields Tryz.prog fs = true) (hmt : fs.toList.map (·.type) = [23, 23, 23])
    (hc : w.cells? 0 a 3 = some cs) (ht : DataW.trod enc Tryz.prog w 0 (fun _ => true) true n 61 cs = some x) (hw : ∀ k ∈ x.1.weights Tryz.prog 61, k ≤ reachBytes) :
    ∃ s : Stp, w.cell? (a.add 0) = some (.slice s.A1 s.n1 s.c1) ∧ w.cell? (a.add 1) = some (.slice s.A2 s.n2 s.c2) ∧ w.cell? (a.add 2) = some (.slice s.A3 s.n3 s.c3) ∧ s.At w := by
  obtain ⟨ys, n', -, hy, hlen, hyl, hf⟩ := DataW.trod_struct he ht
  obtain ⟨_, hcl, hat⟩ := World.cells?_some hc
  have hsz : fs.size = 3 := by have := congrArg List.length hmt; simpa using this
  have key : ∀ j, j < 3 → DataW.trod enc Tryz.prog w 0 (fun _ => true) true n' 23 ((cs.drop j).take 1) = ys[j]? := by
    intro j hj
    have hj' : j < fs.size := by omega
    have hfj : fs[j]? = some fs[j] := Array.getElem?_eq_getElem hj'
    obtain ⟨ho, hk⟩ := hone_of hone j _ hfj
    have hty : fs[j].type = 23 := by
      have h1 : (fs.toList.map (·.type))[j]? = some fs[j].type := by simp [hfj]
      rw [hmt] at h1
      exact three_same h1
    have h1 := hf j _ hfj
    rw [ho, hk, hty] at h1
    exact h1
  obtain ⟨v0, v1, v2, rfl⟩ := list3 hcl
  obtain ⟨y0, y1, y2, rfl⟩ := list3 (hyl.trans hsz)
  have e0 : DataW.trod enc Tryz.prog w 0 (fun _ => true) true n' 23 [v0] = some y0 := key 0 (by omega)
  have e1 : DataW.trod enc Tryz.prog w 0 (fun _ => true) true n' 23 [v1] = some y1 := key 1 (by omega)
  have e2 : DataW.trod enc Tryz.prog w 0 (fun _ => true) true n' 23 [v2] = some y2 := key 2 (by omega)
  have hw' : ∀ k ∈ DataW.weightsEach Tryz.prog [23, 23, 23] [y0.1, y1.1, y2.1], k ≤ reachBytes := by
    intro k hk
    refine hw k ?_
    rw [hy]
    simp only [DataW.weights, he, hmt]
    exact hk
  obtain ⟨a0, l0, k0, z0, rfl, r0⟩ := field_row e0 fun k hk => hw' k (DataW.weights_mem_each (j := 0) rfl rfl k hk)
  obtain ⟨a1, l1, k1, z1, rfl, r1⟩ := field_row e1 fun k hk => hw' k (DataW.weights_mem_each (j := 1) rfl rfl k hk)
  obtain ⟨a2, l2, k2, z2, rfl, r2⟩ := field_row e2 fun k hk => hw' k (DataW.weights_mem_each (j := 2) rfl rfl k hk)
  exact ⟨⟨a0, l0, k0, a1, l1, k1, a2, l2, k2, _, _, _⟩, hat 0 (by omega), hat 1 (by omega), hat 2 (by omega), r0.told.nm, r1.told.nm, r2.told.nm⟩
/-- A letter that came in. -/
theorem open_letter {fuel : Nat} {v : Value} {x : DataW H × List MemPlace} (h : DataW.trod enc Tryz.prog w 0 (fun _ => true) true fuel 25 [v] = some x) (hw : ∀ k ∈ x.1.weights Tryz.prog 25, k ≤ reachBytes) :
    ∃ a len cap S, v = .slice a len cap ∧ Ch w a len cap S ∧ len * 72 ≤ reachBytes := by
  rcases open_slice Tryz.underlying25 h with ⟨hcs, _⟩ | ⟨a, len, cap, m, n, D, Pl, hcs, _, hl, hm, hmm, hx, hi⟩
  · injection hcs with hv
    exact ⟨none, 0, 0, fun _ => default, hv, ⟨Nat.le_refl _, by omega, fun h => absurd h (by omega), fun i h => absurd h (by omega)⟩, by simp [reachBytes]⟩
  · injection hcs with hv
    rw [cellsP3] at hi
    obtain rfl : m = cap := by simpa using hmm
    rw [hx] at hw
    simp only [DataW.weights, Tryz.underlying25, bytesP3] at hw
    have hcap : m * 72 ≤ reachBytes := by
      have := hw _ (List.mem_cons.2 (.inl rfl))
      simp only [List.length_map, List.length_range] at this
      omega
    have each : ∀ i, i < len → ∃ s : Stp, w.cell? ((a.add (i * 3)).add 0) = some (.slice s.A1 s.n1 s.c1) ∧ w.cell? ((a.add (i * 3)).add 1) = some (.slice s.A2 s.n2 s.c2) ∧ w.cell? ((a.add (i * 3)).add 2) = some (.slice s.A3 s.n3 s.c3) ∧ s.At w := by
      intro i hil
      obtain ⟨cs', h1, h2⟩ := hi i (by omega)
      refine pair_row Tryz.underlying61 (by kernel_rfl) (by kernel_rfl) h1 h2 fun k hk => hw k (List.mem_cons.2 (.inr (List.mem_append.2 (.inl ?_))))
      exact all_mem (List.mem_map.2 ⟨i, List.mem_range.2 hil, rfl⟩) k hk
    obtain ⟨S, hS⟩ := choose_lt each
    refine ⟨some a, len, m, S, hv, ⟨hl, by simp only [reachBytes] at hcap; omega, fun hn => ?_, fun i hi => (hS i hi).2.2.2⟩, Nat.le_trans (Nat.mul_le_mul_right 72 hl) hcap⟩
    obtain ⟨b, off, spot⟩ := a
    have hspot : spot = none := by simpa [Addr.add] using World.cell?_spot (hS 0 hn).1
    subst hspot
    simp only [add_off] at hS
    exact ⟨b, off, rfl, block_lt_of_cell (hS 0 hn).1, fun i hi => ⟨(hS i hi).1, (hS i hi).2.1, (hS i hi).2.2.1⟩⟩
instance : Inhabited Nsl := ⟨⟨none, 0, 0, 0⟩⟩
instance : Inhabited Lsl := ⟨⟨none, 0, 0, fun _ => default⟩⟩
instance : Inhabited Rsl := ⟨⟨none, 0, 0, fun _ => default⟩⟩
theorem cellN1 : Tryz.prog.cellsOf 23 = 1 := by kernel_rfl
theorem byteN24 : Tryz.prog.bytesOf 23 = 24 := by kernel_rfl
/-- A list of numbers that came in. -/
theorem open_nats {fuel : Nat} {v : Value} {x : DataW H × List MemPlace} (h : DataW.trod enc Tryz.prog w 0 (fun _ => true) true fuel 24 [v] = some x) (hw : ∀ k ∈ x.1.weights Tryz.prog 24, k ≤ reachBytes) :
    ∃ a len cap S, v = .slice a len cap ∧ Ns w a len cap S := by
  rcases open_slice1 Tryz.underlying24 cellN1 h with ⟨hcs, _⟩ | ⟨a, len, cap, m, n, V, D, Pl, hcs, _, hl, hm, hmm, hx, hi⟩
  · injection hcs with hv
    exact ⟨none, 0, 0, fun _ => default, hv, Nat.le_refl _, by omega, fun h => absurd h (by omega), fun i h => absurd h (by omega)⟩
  · injection hcs with hv
    obtain rfl : m = cap := by simpa using hmm
    rw [hx] at hw
    simp only [DataW.weights, Tryz.underlying24, byteN24] at hw
    have hcap : m * 24 ≤ reachBytes := by
      have := hw _ (List.mem_cons.2 (.inl rfl))
      simp only [List.length_map, List.length_range] at this
      omega
    have each : ∀ i, i < len → ∃ s : Nsl, w.cell? (a.add i) = some (.slice s.A s.n s.c) ∧ Nm w s.A s.n s.c s.N := by
      intro i hil
      obtain ⟨h1, h2⟩ := hi i (by omega)
      have hwi := fun k hk => hw k (List.mem_cons.2 (.inr (List.mem_append.2 (.inl (all_mem (List.mem_map.2 ⟨i, List.mem_range.2 hil, rfl⟩) k hk)))))
      obtain ⟨Ai, ni, ci, zs, hV, hr⟩ := field_row h2 hwi
      exact ⟨⟨Ai, ni, ci, _⟩, by rw [h1, hV], hr.told.nm⟩
    obtain ⟨S, hS⟩ := choose_lt each
    refine ⟨some a, len, m, S, hv, hl, by simp only [reachBytes] at hcap; omega, fun hn => ?_, fun i hi => (hS i hi).2⟩
    obtain ⟨b, off, spot⟩ := a
    have hspot : spot = none := by simpa [Addr.add] using World.cell?_spot (hS 0 hn).1
    subst hspot
    simp only [add_off] at hS
    exact ⟨b, off, rfl, block_lt_of_cell (hS 0 hn).1, fun i hi => (hS i hi).1⟩
theorem cellL1 : Tryz.prog.cellsOf 25 = 1 := by kernel_rfl
theorem byteL24 : Tryz.prog.bytesOf 25 = 24 := by kernel_rfl
/-- A batch that came in. -/
theorem open_batch {fuel : Nat} {v : Value} {x : DataW H × List MemPlace} (h : DataW.trod enc Tryz.prog w 0 (fun _ => true) true fuel 45 [v] = some x) (hw : ∀ k ∈ x.1.weights Tryz.prog 45, k ≤ reachBytes) :
    ∃ a len cap S, v = .slice a len cap ∧ Bat w a len cap S ∧ ∀ i, i < len → (S i).n * 72 ≤ reachBytes := by
  rcases open_slice1 Tryz.underlying45 cellL1 h with ⟨hcs, _⟩ | ⟨a, len, cap, m, n, V, D, Pl, hcs, _, hl, hm, hmm, hx, hi⟩
  · injection hcs with hv
    exact ⟨none, 0, 0, fun _ => default, hv, ⟨Nat.le_refl _, by omega, fun h => absurd h (by omega), fun i h => absurd h (by omega)⟩, fun i h => absurd h (by omega)⟩
  · injection hcs with hv
    obtain rfl : m = cap := by simpa using hmm
    rw [hx] at hw
    simp only [DataW.weights, Tryz.underlying45, byteL24] at hw
    have hcap : m * 24 ≤ reachBytes := by
      have := hw _ (List.mem_cons.2 (.inl rfl))
      simp only [List.length_map, List.length_range] at this
      omega
    have each : ∀ i, i < len → ∃ s : Lsl, w.cell? (a.add i) = some (.slice s.A s.n s.c) ∧ Ch w s.A s.n s.c s.S ∧ s.n * 72 ≤ reachBytes := by
      intro i hil
      obtain ⟨h1, h2⟩ := hi i (by omega)
      have hwi := fun k hk => hw k (List.mem_cons.2 (.inr (List.mem_append.2 (.inl (all_mem (List.mem_map.2 ⟨i, List.mem_range.2 hil, rfl⟩) k hk)))))
      obtain ⟨Ai, ni, ci, Si, hV, hr, hr2⟩ := open_letter h2 hwi
      exact ⟨⟨Ai, ni, ci, Si⟩, by rw [h1, hV], hr, hr2⟩
    obtain ⟨S, hS⟩ := choose_lt each
    refine ⟨some a, len, m, S, hv, ⟨hl, by simp only [reachBytes] at hcap; omega, fun hn => ?_, fun i hi => (hS i hi).2.1⟩, fun i hi => (hS i hi).2.2⟩
    obtain ⟨b, off, spot⟩ := a
    have hspot : spot = none := by simpa [Addr.add] using World.cell?_spot (hS 0 hn).1
    subst hspot
    simp only [add_off] at hS
    exact ⟨b, off, rfl, block_lt_of_cell (hS 0 hn).1, fun i hi => (hS i hi).1⟩
theorem cellR1 : Tryz.prog.cellsOf 24 = 1 := by kernel_rfl
theorem byteR24 : Tryz.prog.bytesOf 24 = 24 := by kernel_rfl
/-- Lists of numbers that came in. -/
theorem open_lists {fuel : Nat} {v : Value} {x : DataW H × List MemPlace} (h : DataW.trod enc Tryz.prog w 0 (fun _ => true) true fuel 47 [v] = some x) (hw : ∀ k ∈ x.1.weights Tryz.prog 47, k ≤ reachBytes) :
    ∃ a len cap S, v = .slice a len cap ∧ Rls w a len cap S := by
  rcases open_slice1 Tryz.underlying47 cellR1 h with ⟨hcs, _⟩ | ⟨a, len, cap, m, n, V, D, Pl, hcs, _, hl, hm, hmm, hx, hi⟩
  · injection hcs with hv
    exact ⟨none, 0, 0, fun _ => default, hv, Nat.le_refl _, by omega, fun h => absurd h (by omega), fun i h => absurd h (by omega)⟩
  · injection hcs with hv
    obtain rfl : m = cap := by simpa using hmm
    rw [hx] at hw
    simp only [DataW.weights, Tryz.underlying47, byteR24] at hw
    have hcap : m * 24 ≤ reachBytes := by
      have := hw _ (List.mem_cons.2 (.inl rfl))
      simp only [List.length_map, List.length_range] at this
      omega
    have each : ∀ i, i < len → ∃ s : Rsl, w.cell? (a.add i) = some (.slice s.A s.n s.c) ∧ Ns w s.A s.n s.c s.S := by
      intro i hil
      obtain ⟨h1, h2⟩ := hi i (by omega)
      have hwi := fun k hk => hw k (List.mem_cons.2 (.inr (List.mem_append.2 (.inl (all_mem (List.mem_map.2 ⟨i, List.mem_range.2 hil, rfl⟩) k hk)))))
      obtain ⟨Ai, ni, ci, Si, hV, hr⟩ := open_nats h2 hwi
      exact ⟨⟨Ai, ni, ci, Si⟩, by rw [h1, hV], hr⟩
    obtain ⟨S, hS⟩ := choose_lt each
    refine ⟨some a, len, m, S, hv, hl, by simp only [reachBytes] at hcap; omega, fun hn => ?_, fun i hi => (hS i hi).2⟩
    obtain ⟨b, off, spot⟩ := a
    have hspot : spot = none := by simpa [Addr.add] using World.cell?_spot (hS 0 hn).1
    subst hspot
    simp only [add_off] at hS
    exact ⟨b, off, rfl, block_lt_of_cell (hS 0 hn).1, fun i hi => (hS i hi).1⟩
end
end Go.Proofs.YtpmnghealjgkeaaGreat
