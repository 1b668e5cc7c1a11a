/-
  Shares that came in, and how long their values are told.
-/
import Derived.Test.YtkecfdeepmhggaaGreatAgh
import Derived.Test.YtkecfdeepmhggaaGreatArgT
namespace Go.Proofs.YtkecfdeepmhggaaGreat
open Go.RowKit Go.ChangeShapes Go.WideShapes Go.Deep Go.Joins
set_option linter.unusedVariables false
section
variable {H : Type} {enc : TypeId × Value → H} {w : World}
/-- One share of a list. -/
theorem share_row2 {n : Nat} {a : Addr} {fs : Array Field} {cs : List Value} {x : DataW H × List MemPlace} (he : Tryz.prog.underlying 41 = some (.struct fs)) (hone : oneCellFields Tryz.prog fs = true) (hmt : fs.toList.map (·.type) = [3, 39])
    (hc : w.cells? 0 a 2 = some cs) (ht : DataW.trod enc Tryz.prog w 0 (fun _ => true) true n 41 cs = some x) (hw : ∀ k ∈ x.1.weights Tryz.prog 41, k ≤ reachBytes) :
    ∃ s : Shr, w.cell? (a.add 0) = some (.int .i64 s.I) ∧ w.cell? (a.add 1) = some (.slice s.A s.n s.c) ∧ s.At w ∧ ∃ y0 y1, x.1 = .agg [y0, y1] ∧ s.n = slen y1 := by
  obtain ⟨ys, n', -, hy, hlen, hyl, hf⟩ := DataW.trod_struct he ht
  obtain ⟨_, hcl, hat⟩ := World.cells?_some hc
  have hsz : fs.size = 2 := by have := congrArg List.length hmt; simpa using this
  have key : ∀ j t, [3, 39][j]? = some t → DataW.trod enc Tryz.prog w 0 (fun _ => true) true n' t ((cs.drop j).take 1) = ys[j]? := by
    intro j t hjt
    have hj : j < 2 := by
      rcases Nat.lt_or_ge j 2 with g | g
      · exact g
      · rw [List.getElem?_eq_none (by simpa using g)] at hjt; cases hjt
    have hj' : j < fs.size := by omega
    have hfj : fs[j]? = some fs[j] := Array.getElem?_eq_getElem hj'
    obtain ⟨ho, hk⟩ := hone_of hone j _ hfj
    have hty : fs[j].type = t := by
      have h1 : (fs.toList.map (·.type))[j]? = some fs[j].type := by simp [hfj]
      rw [hmt, hjt] at h1
      exact (Option.some.inj h1).symm
    have h1 := hf j _ hfj
    rw [ho, hk, hty] at h1
    exact h1
  obtain ⟨v0, v1, rfl⟩ := list2H hcl
  obtain ⟨y0, y1, rfl⟩ := list2H (hyl.trans hsz)
  have e0 : DataW.trod enc Tryz.prog w 0 (fun _ => true) true n' 3 [v0] = some y0 := key 0 _ rfl
  have e1 : DataW.trod enc Tryz.prog w 0 (fun _ => true) true n' 39 [v1] = some y1 := key 1 _ rfl
  have hw' : ∀ k ∈ DataW.weightsEach Tryz.prog [3, 39] [y0.1, y1.1], k ≤ reachBytes := by
    intro k hk
    refine hw k ?_
    rw [hy]
    simp only [DataW.weights, he, hmt]
    exact hk
  obtain ⟨i0, q0, -, k0⟩ := DataW.trod_int Tryz.underlying3 e0
  injection q0 with q0
  subst q0
  obtain ⟨a1, l1, c1, z1, rfl, r1, q1⟩ := field_row2 e1 fun k hk => hw' k (DataW.weights_mem_each (j := 1) rfl rfl k hk)
  exact ⟨⟨i0, a1, l1, c1, _⟩, hat 0 (by omega), hat 1 (by omega), ⟨bounds_i64 k0, r1.told.nm⟩, y0.1, y1.1, by rw [hy]; rfl, q1⟩
/-- Shares that came in. -/
theorem open_shares2 {fuel : Nat} {v : Value} {x : DataW H × List MemPlace} (h : DataW.trod enc Tryz.prog w 0 (fun _ => true) true fuel 29 [v] = some x) (hw : ∀ k ∈ x.1.weights Tryz.prog 29, k ≤ reachBytes) :
    ∃ a len cap S, v = .slice a len cap ∧ Shs w a len cap S ∧ ∀ i, i < len → (S i).n ≤ Rows.uptoBulk x.1 := by
  rcases open_slice Tryz.underlying29 h with ⟨hcs, _⟩ | ⟨a, len, cap, m, n, D, Pl, hcs, _, hl, hm, hmm, hx, hi⟩
  · injection hcs with hv
    exact ⟨none, 0, 0, fun _ => default, hv, Shs.nil _ _, fun i h => absurd h (by omega)⟩
  · injection hcs with hv
    rw [cellsH2] at hi
    obtain rfl : m = cap := by simpa using hmm
    rw [hx] at hw
    simp only [DataW.weights, Tryz.underlying29, bytesH2] at hw
    have hcap : m * 32 ≤ reachBytes := by
      have := hw _ (List.mem_cons.2 (.inl rfl))
      simp only [List.length_map, List.length_range] at this
      omega
    have each : ∀ i, i < len → ∃ s : Shr, w.cell? ((a.add (i * 2)).add 0) = some (.int .i64 s.I) ∧ w.cell? ((a.add (i * 2)).add 1) = some (.slice s.A s.n s.c) ∧ s.At w ∧ s.n ≤ Rows.uptoBulk x.1 := by
      intro i hil
      obtain ⟨cs', h1, h2⟩ := hi i (by omega)
      have hmem : D i ∈ (List.range len).map D := List.mem_map.2 ⟨i, List.mem_range.2 hil, rfl⟩
      obtain ⟨s, s0, s1, sat, y0, y1, hy, l1⟩ := share_row2 Tryz.underlying41 (by kernel_rfl) (by kernel_rfl) h1 h2 fun k hk => hw k (List.mem_cons.2 (.inr (List.mem_append.2 (.inl (all_mem hmem k hk)))))
      refine ⟨s, s0, s1, sat, ?_⟩
      have u1 := (bulk_each _).2 _ hmem
      have hy' : D i = .agg [y0, y1] := hy
      rw [hy'] at u1
      have v1 := slen_le y1
      rw [hx]
      simp only [Rows.uptoBulk, Rows.uptoBulkAll] at u1 ⊢
      omega
    obtain ⟨S, hS⟩ := choose_lt each
    refine ⟨some a, len, m, S, hv, ⟨hl, by simp only [reachBytes] at hcap; omega, fun hn => ?_, fun i hi => (hS i hi).2.2.1⟩, fun i hi => (hS i hi).2.2.2⟩
    obtain ⟨b, off, spot⟩ := a
    have hspot : spot = none := by simpa [Addr.add] using World.cell?_spot (hS 0 hn).1
    subst hspot
    simp only [add_off] at hS
    exact ⟨b, off, rfl, block_lt_of_cell (hS 0 hn).1, fun i hi => ⟨(hS i hi).1, (hS i hi).2.1⟩⟩
end
end Go.Proofs.YtkecfdeepmhggaaGreat
