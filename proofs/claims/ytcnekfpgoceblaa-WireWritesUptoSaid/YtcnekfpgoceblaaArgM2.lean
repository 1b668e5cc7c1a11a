/-
  A message that came in, and how long its texts are told. By program: genargm2.py.
-/
import Derived.Test.YtcnekfpgoceblaaAgl
import Derived.Test.YtcnekfpgoceblaaArgT
namespace Go.Proofs.Ytcnekfpgoceblaa
open Go.RowKit Go.ChangeShapes Go.WideShapes Go.Deep Go.Joins
set_option linter.unusedVariables false
section
variable {H : Type} {enc : TypeId × Value → H} {w : World}
theorem field_bytes2 {n : Nat} {v : Value} {y : DataW H × List MemPlace} (hf : DataW.trod enc Try.prog w 0 (fun _ => true) true n 33 [v] = some y) (hw : ∀ k ∈ y.1.weights Try.prog 33, k ≤ reachBytes) :
    ∃ a len cap zs, v = .slice a len cap ∧ IsRow .u8 1 w a len cap zs ∧ len = slen y.1 := by
  rcases open_ints Try.underlying33 Try.underlying5 (by kernel_rfl) hf with ⟨hcs, hx⟩ | ⟨x, l, c, zs, hcs, _, hl, hm, hz, hx, hcell, hwz⟩
  · injection hcs with hv
    exact ⟨none, 0, 0, [], hv, .inl ⟨rfl, rfl, rfl, rfl⟩, by rw [hx]; rfl⟩
  · injection hcs with hv
    refine ⟨some x, l, c, zs, hv, .inr ⟨x, rfl, hl, ?_, by simpa using hz, hcell, hwz⟩, by rw [hx]; simp only [slen, lits, List.length_map, List.length_take]; simp at hz; omega⟩
    have h1 := hw ((zs.take l).length * 1 + (zs.drop l).length * 1) (by
      rw [hx]
      simp only [DataW.weights, Try.underlying33, letE1]
      refine List.mem_cons.2 (.inl ?_)
      simp only [lits, List.length_map]
      omega)
    simp only [List.length_take, List.length_drop, reachBytes] at h1
    simp at hz
    omega
/-- Texts that came in, and how long they are told. -/
theorem open_texts2 {fuel : Nat} {v : Value} {x : DataW H × List MemPlace} (h : DataW.trod enc Try.prog w 0 (fun _ => true) true fuel 24 [v] = some x) (hw : ∀ k ∈ x.1.weights Try.prog 24, k ≤ reachBytes) :
    ∃ a len cap S, v = .slice a len cap ∧ Txs w a len cap S ∧ ∀ i, i < len → (S i).xs.length ≤ Rows.uptoBulk x.1 := by
  rcases open_slice1 Try.underlying24 cellMt h with ⟨hcs, _⟩ | ⟨a, len, cap, m, n, V, D, Pl, hcs, _, hl, hm, hmm, hx, hi⟩
  · injection hcs with hv
    exact ⟨none, 0, 0, fun _ => default, hv, ⟨Nat.le_refl _, by omega, fun h => absurd h (by omega), fun i h => absurd h (by omega)⟩, fun i h => absurd h (by omega)⟩
  · injection hcs with hv
    obtain rfl : m = cap := by simpa using hmm
    rw [hx] at hw
    simp only [DataW.weights, Try.underlying24, byteMt] at hw
    have hcap : m * 24 ≤ reachBytes := by
      have := hw _ (List.mem_cons.2 (.inl rfl))
      simp only [List.length_map, List.length_range] at this
      omega
    have each : ∀ i, i < len → ∃ s : Txt, w.cell? (a.add i) = some (.slice s.A s.xs.length s.c) ∧ (Rd .u8 w s.A s.xs.length s.xs ∧ Dig 256 s.xs) ∧ s.xs.length ≤ Rows.uptoBulk x.1 := by
      intro i hil
      obtain ⟨h1, h2⟩ := hi i (by omega)
      have hmem : D i ∈ (List.range len).map D := List.mem_map.2 ⟨i, List.mem_range.2 hil, rfl⟩
      obtain ⟨Ai, ni, ci, zs, hV, hr, hs⟩ := field_bytes2 h2 fun k hk => hw k (List.mem_cons.2 (.inr (List.mem_append.2 (.inl (all_mem (List.mem_map.2 ⟨i, List.mem_range.2 hil, rfl⟩) k hk)))))
      obtain ⟨k1, k2, k3, k4, k5⟩ := isRow_by hr
      exact ⟨⟨Ai, ci, zs.take ni⟩, by rw [h1, hV]; show some (Value.slice Ai ni ci) = some (Value.slice Ai (zs.take ni).length ci); rw [k3], ⟨k1, k2⟩, by
        show (zs.take ni).length ≤ _
        rw [k3, hx]
        have u1 := (bulk_each _).2 _ hmem
        have v1 := slen_le (D i)
        have hs2 : ni = slen (D i) := hs
        simp only [Rows.uptoBulk]
        omega⟩
    obtain ⟨S, hS⟩ := choose_lt each
    refine ⟨some a, len, m, S, hv, ⟨hl, by simp only [reachBytes] at hcap; omega, fun hn => ?_, fun i hi => (hS i hi).2.1⟩, fun i hi => (hS i hi).2.2⟩
    obtain ⟨b, off, spot⟩ := a
    have hspot : spot = none := by simpa [Addr.add] using World.cell?_spot (hS 0 hn).1
    subst hspot
    simp only [add_off] at hS
    exact ⟨b, off, rfl, block_lt_of_cell (hS 0 hn).1, fun i hi => (hS i hi).1⟩
set_option maxRecDepth 100000 in
theorem open_msg2 {r : Reach} {b0 : Nat} {v : Value} {d : DataW H} {p : List MemPlace} (hv : Value.okWide Try.prog w r b0 30 v) (h : DataW.Trod enc Try.prog w 0 (fun _ => true) true 30 v d p) (hw : ∀ k ∈ d.weights Try.prog 30, k ≤ reachBytes) :
    ∃ m : Mgd, v = .agg #[.int .i64 m.k, .int .i64 m.g, .int .i64 m.l, .int .i64 m.p, .int .i64 m.s, .int .i64 m.u, .bool m.ok, .slice m.Ab m.nb m.cb, .slice m.Ap m.np m.cp, .slice m.At m.nt m.ct, .int .i64 m.i, .slice m.Av m.nv m.cv] ∧ Mg w m ∧ m.Int ∧ ∀ i, i < m.nt → (m.T i).xs.length ≤ Rows.uptoBulk d := by
  obtain ⟨cs, rfl, hcs⟩ := okWide_struct Try.underlying30 hv
  rw [cellM12] at hcs
  obtain ⟨fuel, hf0⟩ := h
  have hf1 : DataW.trod enc Try.prog w 0 (fun _ => true) true fuel 30 cs.toList = some (d, p) := hf0
  obtain ⟨ys, n', -, hy, hlen, hyl, hf⟩ := DataW.trod_struct Try.underlying30 hf1
  obtain ⟨v0, v1, v2, v3, v4, v5, v6, v7, v8, v9, v10, v11, hl⟩ := list12M (show cs.toList.length = 12 by simpa using hcs)
  obtain ⟨y0, y1, y2, y3, y4, y5, y6, y7, y8, y9, y10, rfl⟩ := list11M hyl
  rw [hl] at hf
  have e0 : DataW.trod enc Try.prog w 0 (fun _ => true) true n' 3 [v0] = some y0 := by
    have h1 : DataW.trod enc Try.prog w 0 (fun _ => true) true n' 3 (([v0, v1, v2, v3, v4, v5, v6, v7, v8, v9, v10, v11].drop 0).take (Try.prog.cellsOf 3)) = some y0 := hf 0 _ rfl
    rw [cellKi] at h1
    exact h1
  have e1 : DataW.trod enc Try.prog w 0 (fun _ => true) true n' 3 [v1] = some y1 := by
    have h1 : DataW.trod enc Try.prog w 0 (fun _ => true) true n' 3 (([v0, v1, v2, v3, v4, v5, v6, v7, v8, v9, v10, v11].drop 1).take (Try.prog.cellsOf 3)) = some y1 := hf 1 _ rfl
    rw [cellKi] at h1
    exact h1
  have e2 : DataW.trod enc Try.prog w 0 (fun _ => true) true n' 3 [v2] = some y2 := by
    have h1 : DataW.trod enc Try.prog w 0 (fun _ => true) true n' 3 (([v0, v1, v2, v3, v4, v5, v6, v7, v8, v9, v10, v11].drop 2).take (Try.prog.cellsOf 3)) = some y2 := hf 2 _ rfl
    rw [cellKi] at h1
    exact h1
  have e3 : DataW.trod enc Try.prog w 0 (fun _ => true) true n' 3 [v3] = some y3 := by
    have h1 : DataW.trod enc Try.prog w 0 (fun _ => true) true n' 3 (([v0, v1, v2, v3, v4, v5, v6, v7, v8, v9, v10, v11].drop 3).take (Try.prog.cellsOf 3)) = some y3 := hf 3 _ rfl
    rw [cellKi] at h1
    exact h1
  have e4 : DataW.trod enc Try.prog w 0 (fun _ => true) true n' 3 [v4] = some y4 := by
    have h1 : DataW.trod enc Try.prog w 0 (fun _ => true) true n' 3 (([v0, v1, v2, v3, v4, v5, v6, v7, v8, v9, v10, v11].drop 4).take (Try.prog.cellsOf 3)) = some y4 := hf 4 _ rfl
    rw [cellKi] at h1
    exact h1
  have e5 : DataW.trod enc Try.prog w 0 (fun _ => true) true n' 3 [v5] = some y5 := by
    have h1 : DataW.trod enc Try.prog w 0 (fun _ => true) true n' 3 (([v0, v1, v2, v3, v4, v5, v6, v7, v8, v9, v10, v11].drop 5).take (Try.prog.cellsOf 3)) = some y5 := hf 5 _ rfl
    rw [cellKi] at h1
    exact h1
  have e6 : DataW.trod enc Try.prog w 0 (fun _ => true) true n' 4 [v6] = some y6 := by
    have h1 : DataW.trod enc Try.prog w 0 (fun _ => true) true n' 4 (([v0, v1, v2, v3, v4, v5, v6, v7, v8, v9, v10, v11].drop 6).take (Try.prog.cellsOf 4)) = some y6 := hf 6 _ rfl
    rw [cellKb] at h1
    exact h1
  have e7 : DataW.trod enc Try.prog w 0 (fun _ => true) true n' 22 [v7] = some y7 := by
    have h1 : DataW.trod enc Try.prog w 0 (fun _ => true) true n' 22 (([v0, v1, v2, v3, v4, v5, v6, v7, v8, v9, v10, v11].drop 7).take (Try.prog.cellsOf 22)) = some y7 := hf 7 _ rfl
    rw [cellMb] at h1
    exact h1
  have e8 : DataW.trod enc Try.prog w 0 (fun _ => true) true n' 23 [v8] = some y8 := by
    have h1 : DataW.trod enc Try.prog w 0 (fun _ => true) true n' 23 (([v0, v1, v2, v3, v4, v5, v6, v7, v8, v9, v10, v11].drop 8).take (Try.prog.cellsOf 23)) = some y8 := hf 8 _ rfl
    rw [cellMp] at h1
    exact h1
  have e9 : DataW.trod enc Try.prog w 0 (fun _ => true) true n' 24 [v9] = some y9 := by
    have h1 : DataW.trod enc Try.prog w 0 (fun _ => true) true n' 24 (([v0, v1, v2, v3, v4, v5, v6, v7, v8, v9, v10, v11].drop 9).take (Try.prog.cellsOf 24)) = some y9 := hf 9 _ rfl
    rw [cellMx] at h1
    exact h1
  have e10 : DataW.trod enc Try.prog w 0 (fun _ => true) true n' 28 [v10, v11] = some y10 := by
    have h1 : DataW.trod enc Try.prog w 0 (fun _ => true) true n' 28 (([v0, v1, v2, v3, v4, v5, v6, v7, v8, v9, v10, v11].drop 10).take (Try.prog.cellsOf 28)) = some y10 := hf 10 _ rfl
    rw [cellMs] at h1
    exact h1
  have hd : d = .agg [y0.1, y1.1, y2.1, y3.1, y4.1, y5.1, y6.1, y7.1, y8.1, y9.1, y10.1] := by injection hy
  subst hd
  have hw' : ∀ k ∈ DataW.weightsEach Try.prog [3, 3, 3, 3, 3, 3, 4, 22, 23, 24, 28] [y0.1, y1.1, y2.1, y3.1, y4.1, y5.1, y6.1, y7.1, y8.1, y9.1, y10.1], k ≤ reachBytes := fun k hk => hw k (by
    simp only [DataW.weights, Try.underlying30]
    exact hk)
  obtain ⟨i0, q0, -, k0⟩ := DataW.trod_int Try.underlying3 e0
  injection q0 with q0
  subst q0
  obtain ⟨i1, q1, -, k1⟩ := DataW.trod_int Try.underlying3 e1
  injection q1 with q1
  subst q1
  obtain ⟨i2, q2, -, k2⟩ := DataW.trod_int Try.underlying3 e2
  injection q2 with q2
  subst q2
  obtain ⟨i3, q3, -, k3⟩ := DataW.trod_int Try.underlying3 e3
  injection q3 with q3
  subst q3
  obtain ⟨i4, q4, -, k4⟩ := DataW.trod_int Try.underlying3 e4
  injection q4 with q4
  subst q4
  obtain ⟨i5, q5, -, k5⟩ := DataW.trod_int Try.underlying3 e5
  injection q5 with q5
  subst q5
  obtain ⟨b6, q6, -⟩ := DataW.trod_bool Try.underlying4 e6
  injection q6 with q6
  subst q6
  obtain ⟨Ab, nb, cb, B, rfl, hB, -⟩ := open_batch e7 fun k hk => hw' k (DataW.weights_mem_each (j := 7) rfl rfl k hk)
  obtain ⟨Ap, np, cp, P, rfl, hP⟩ := open_pba e8 fun k hk => hw' k (DataW.weights_mem_each (j := 8) rfl rfl k hk)
  obtain ⟨At, nt, ct, T, rfl, hT, hTl⟩ := open_texts2 e9 fun k hk => hw' k (DataW.weights_mem_each (j := 9) rfl rfl k hk)
  have hbk : Rows.uptoBulk y9.1 ≤ Rows.uptoBulk (DataW.agg [y0.1, y1.1, y2.1, y3.1, y4.1, y5.1, y6.1, y7.1, y8.1, y9.1, y10.1]) := by
    simp only [Rows.uptoBulk, Rows.uptoBulkAll]
    omega
  obtain ⟨zs, n2, -, hz, -, hzl, hg⟩ := DataW.trod_struct Try.underlying28 e10
  obtain ⟨z0, z1, rfl⟩ := list2M hzl
  have g0 : DataW.trod enc Try.prog w 0 (fun _ => true) true n2 3 [v10] = some z0 := by
    have h1 : DataW.trod enc Try.prog w 0 (fun _ => true) true n2 3 (([v10, v11].drop 0).take (Try.prog.cellsOf 3)) = some z0 := hg 0 _ rfl
    rw [cellKi] at h1
    exact h1
  have g1 : DataW.trod enc Try.prog w 0 (fun _ => true) true n2 26 [v11] = some z1 := by
    have h1 : DataW.trod enc Try.prog w 0 (fun _ => true) true n2 26 (([v10, v11].drop 1).take (Try.prog.cellsOf 26)) = some z1 := hg 1 _ rfl
    rw [cellMn] at h1
    exact h1
  obtain ⟨i10, q10, -, k10⟩ := DataW.trod_int Try.underlying3 g0
  injection q10 with q10
  subst q10
  have hw2 : ∀ k ∈ DataW.weightsEach Try.prog [3, 26] [z0.1, z1.1], k ≤ reachBytes := fun k hk => hw' k (DataW.weights_mem_each (j := 10) (t := 28) (d := y10.1) rfl rfl k (by
    rw [hz]
    simp only [DataW.weights, Try.underlying28]
    exact hk))
  obtain ⟨Av, nv, cv, zv, rfl, rv⟩ := field_row g1 fun k hk => hw2 k (DataW.weights_mem_each (j := 1) rfl rfl k hk)
  refine ⟨⟨i0, i1, i2, i3, i4, i5, b6, Ab, nb, cb, B, Ap, np, cp, P, At, nt, ct, T, i10, Av, nv, cv, _⟩, ?_, ⟨hB, hP, hT, rv.told.nm⟩, ⟨bounds_i64 k0, bounds_i64 k1, bounds_i64 k2, bounds_i64 k3, bounds_i64 k4, bounds_i64 k5, bounds_i64 k10⟩, fun i hi => Nat.le_trans (hTl i hi) hbk⟩
  congr 1
  exact Array.toList_inj.1 hl
end
end Go.Proofs.Ytcnekfpgoceblaa
