/-
  Several texts in one: ArgS, ArgP, ArgH, ArgI.
-/
import Derived.Test.YtkecfdeepmhggaaPri
import Derived.Test.YtkecfdeepmhggaaPkf
import Derived.Deep.Slices
import Derived.Deep.Fields
import Derived.SizedLaws
import Derived.Test.YtkecfdeepmhggaaMxx
import Derived.Test.YtkecfdeepmhggaaOwk
import Derived.Lib.SmallJoins
import Derived.Test.YtkecfdeepmhggaaRfn
import Derived.OpenShut
/-
  A chain of steps that came in: its cells, and that its slices are numbers.
-/
namespace Go.Proofs.Ytkecfdeepmhggaa
open Go.RowKit Go.ChangeShapes Go.WideShapes Go.Deep
set_option linter.unusedVariables false
section
variable {H : Type} {enc : TypeId × Value → H} {w : World}
theorem all_mem {P : Program} {e : TypeId} {d : DataW H} {l : List (DataW H)} (hd : d ∈ l) : ∀ n ∈ d.weights P e, n ∈ DataW.weightsAll P e l := by
  induction l with
  | nil => cases hd
  | cons x r ih =>
    intro n hn
    rw [DataW.weightsAll, List.mem_append]
    rcases List.mem_cons.1 hd with rfl | hd
    · exact .inl hn
    · exact .inr (ih hd n hn)
theorem nat8 : Try.prog.bytesOf 54 = 8 := by kernel_rfl
/-- A slice of limbs that was read, and all that is weighed of it is within the reach. -/
theorem field_row {n : Nat} {v : Value} {y : DataW H × List MemPlace} (hf : DataW.trod enc Try.prog w 0 (fun _ => true) true n 25 [v] = some y) (hw : ∀ k ∈ y.1.weights Try.prog 25, k ≤ reachBytes) :
    ∃ a len cap zs, v = .slice a len cap ∧ IsRow .u64 8 w a len cap zs := by
  rcases open_ints Try.underlying25 Try.underlying54 (by kernel_rfl) hf with ⟨hcs, _⟩ | ⟨x, l, c, zs, hcs, _, hl, hm, hz, hx, hcell, hwz⟩
  · injection hcs with hv
    exact ⟨none, 0, 0, [], hv, .inl ⟨rfl, rfl, rfl, rfl⟩⟩
  · injection hcs with hv
    refine ⟨some x, l, c, zs, hv, .inr ⟨x, rfl, hl, ?_, by simpa using hz, hcell, hwz⟩⟩
    have h1 := hw ((zs.take l).length * 8 + (zs.drop l).length * 8) (by
      rw [hx]
      simp only [DataW.weights, Try.underlying25, nat8]
      refine List.mem_cons.2 (.inl ?_)
      simp only [lits, List.length_map]
      omega)
    simp only [List.length_take, List.length_drop, reachBytes] at h1
    simp at hz
    omega
theorem list3 {α : Type} {l : List α} (h : l.length = 3) : ∃ a b c, l = [a, b, c] := by
  match l, h with
  | [a, b, c], _ => exact ⟨a, b, c, rfl⟩
theorem three_same {a t : TypeId} {j : Nat} (h : [a, a, a][j]? = some t) : t = a := by
  match j, h with
  | 0, h => exact (Option.some.inj h).symm
  | 1, h => exact (Option.some.inj h).symm
  | 2, h => exact (Option.some.inj h).symm
  | j + 3, h => simp at h
/-- One step of the chain. -/
theorem step_row {n : Nat} {a : Addr} {fs : Array Field} {cs : List Value} {x : DataW H × List MemPlace} (he : Try.prog.underlying 61 = some (.struct fs)) (hone : oneCellFields Try.prog fs = true) (hmt : fs.toList.map (·.type) = [25, 25, 25])
    (hc : w.cells? 0 a 3 = some cs) (ht : DataW.trod enc Try.prog w 0 (fun _ => true) true n 61 cs = some x) (hw : ∀ k ∈ x.1.weights Try.prog 61, k ≤ reachBytes) :
    ∃ s : Stp, w.cell? (a.add 0) = some (.slice s.A1 s.n1 s.c1) ∧ w.cell? (a.add 1) = some (.slice s.A2 s.n2 s.c2) ∧ w.cell? (a.add 2) = some (.slice s.A3 s.n3 s.c3) ∧ s.At w := by
  obtain ⟨ys, n', -, hy, hlen, hyl, hf⟩ := DataW.trod_struct he ht
  obtain ⟨_, hcl, hat⟩ := World.cells?_some hc
  have hsz : fs.size = 3 := by have := congrArg List.length hmt; simpa using this
  have key : ∀ j, j < 3 → DataW.trod enc Try.prog w 0 (fun _ => true) true n' 25 ((cs.drop j).take 1) = ys[j]? := by
    intro j hj
    have hj' : j < fs.size := by omega
    have hfj : fs[j]? = some fs[j] := Array.getElem?_eq_getElem hj'
    obtain ⟨ho, hk⟩ := hone_of hone j _ hfj
    have hty : fs[j].type = 25 := by
      have h1 : (fs.toList.map (·.type))[j]? = some fs[j].type := by simp [hfj]
      rw [hmt] at h1
      exact three_same h1
    have h1 := hf j _ hfj
    rw [ho, hk, hty] at h1
    exact h1
  obtain ⟨v0, v1, v2, rfl⟩ := list3 hcl
  obtain ⟨y0, y1, y2, rfl⟩ := list3 (hyl.trans hsz)
  have e0 : DataW.trod enc Try.prog w 0 (fun _ => true) true n' 25 [v0] = some y0 := key 0 (by omega)
  have e1 : DataW.trod enc Try.prog w 0 (fun _ => true) true n' 25 [v1] = some y1 := key 1 (by omega)
  have e2 : DataW.trod enc Try.prog w 0 (fun _ => true) true n' 25 [v2] = some y2 := key 2 (by omega)
  have hw' : ∀ k ∈ DataW.weightsEach Try.prog [25, 25, 25] [y0.1, y1.1, y2.1], k ≤ reachBytes := by
    intro k hk
    refine hw k ?_
    rw [hy]
    simp only [DataW.weights, he, hmt]
    exact hk
  obtain ⟨a0, l0, k0, z0, rfl, r0⟩ := field_row e0 fun k hk => hw' k (DataW.weights_mem_each (j := 0) rfl rfl k hk)
  obtain ⟨a1, l1, k1, z1, rfl, r1⟩ := field_row e1 fun k hk => hw' k (DataW.weights_mem_each (j := 1) rfl rfl k hk)
  obtain ⟨a2, l2, k2, z2, rfl, r2⟩ := field_row e2 fun k hk => hw' k (DataW.weights_mem_each (j := 2) rfl rfl k hk)
  exact ⟨⟨a0, l0, k0, a1, l1, k1, a2, l2, k2, _, _, _⟩, hat 0 (by omega), hat 1 (by omega), hat 2 (by omega), r0.told.nm, r1.told.nm, r2.told.nm⟩
instance : Inhabited Stp := ⟨⟨none, 0, 0, none, 0, 0, none, 0, 0, 0, 0, 0⟩⟩
theorem cellsS3 : Try.prog.cellsOf 61 = 3 := by kernel_rfl
theorem bytesS3 : Try.prog.bytesOf 61 = 72 := by kernel_rfl
theorem add_off (b off j : Nat) : (⟨b, off, none⟩ : Addr).add j = ⟨b, off + j, none⟩ := by
  unfold Addr.add; split
  · rename_i h0; subst h0; rfl
  · rfl
/-- A chain that came in. -/
theorem open_chain {fuel : Nat} {v : Value} {x : DataW H × List MemPlace} (h : DataW.trod enc Try.prog w 0 (fun _ => true) true fuel 32 [v] = some x) (hw : ∀ k ∈ x.1.weights Try.prog 32, k ≤ reachBytes) :
    ∃ a len cap S, v = .slice a len cap ∧ Ch w a len cap S := by
  rcases open_slice Try.underlying32 h with ⟨hcs, _⟩ | ⟨a, len, cap, m, n, D, Pl, hcs, _, hl, hm, hmm, hx, hi⟩
  · injection hcs with hv
    exact ⟨none, 0, 0, fun _ => default, hv, Nat.le_refl _, by omega, fun h => absurd h (by omega), fun i h => absurd h (by omega)⟩
  · injection hcs with hv
    rw [cellsS3] at hi
    obtain rfl : m = cap := by simpa using hmm
    rw [hx] at hw
    simp only [DataW.weights, Try.underlying32, bytesS3] at hw
    have hcap : m * 72 ≤ reachBytes := by
      have := hw _ (List.mem_cons.2 (.inl rfl))
      simp only [List.length_map, List.length_range] at this
      omega
    have each : ∀ i, i < len → ∃ s : Stp, w.cell? ((a.add (i * 3)).add 0) = some (.slice s.A1 s.n1 s.c1) ∧ w.cell? ((a.add (i * 3)).add 1) = some (.slice s.A2 s.n2 s.c2) ∧ w.cell? ((a.add (i * 3)).add 2) = some (.slice s.A3 s.n3 s.c3) ∧ s.At w := by
      intro i hil
      obtain ⟨cs', h1, h2⟩ := hi i (by omega)
      refine step_row Try.underlying61 (by kernel_rfl) (by kernel_rfl) h1 h2 fun k hk => hw k (List.mem_cons.2 (.inr (List.mem_append.2 (.inl ?_))))
      exact all_mem (List.mem_map.2 ⟨i, List.mem_range.2 hil, rfl⟩) k hk
    obtain ⟨S, hS⟩ := choose_lt each
    refine ⟨some a, len, m, S, hv, hl, by simp only [reachBytes] at hcap; omega, fun hn => ?_, fun i hi => (hS i hi).2.2.2⟩
    obtain ⟨b, off, spot⟩ := a
    have hspot : spot = none := by simpa [Addr.add] using World.cell?_spot (hS 0 hn).1
    subst hspot
    simp only [add_off] at hS
    exact ⟨b, off, rfl, block_lt_of_cell (hS 0 hn).1, fun i hi => ⟨(hS i hi).1, (hS i hi).2.1, (hS i hi).2.2.1⟩⟩
end
end Go.Proofs.Ytkecfdeepmhggaa
/-
  Letters, batches and lists of numbers that came in: their cells, and that their slices are numbers.
-/
namespace Go.Proofs.Ytkecfdeepmhggaa
open Go.RowKit Go.ChangeShapes Go.WideShapes Go.Deep
set_option linter.unusedVariables false
section
variable {H : Type} {enc : TypeId × Value → H} {w : World}
instance : Inhabited Nsl := ⟨⟨none, 0, 0, 0⟩⟩
instance : Inhabited Lsl := ⟨⟨none, 0, 0, fun _ => default⟩⟩
instance : Inhabited Rsl := ⟨⟨none, 0, 0, fun _ => default⟩⟩
theorem cellN1 : Try.prog.cellsOf 25 = 1 := by kernel_rfl
theorem byteN24 : Try.prog.bytesOf 25 = 24 := by kernel_rfl
/-- A list of numbers that came in. -/
theorem open_nats {fuel : Nat} {v : Value} {x : DataW H × List MemPlace} (h : DataW.trod enc Try.prog w 0 (fun _ => true) true fuel 22 [v] = some x) (hw : ∀ k ∈ x.1.weights Try.prog 22, k ≤ reachBytes) :
    ∃ a len cap S, v = .slice a len cap ∧ Ns w a len cap S := by
  rcases open_slice1 Try.underlying22 cellN1 h with ⟨hcs, _⟩ | ⟨a, len, cap, m, n, V, D, Pl, hcs, _, hl, hm, hmm, hx, hi⟩
  · injection hcs with hv
    exact ⟨none, 0, 0, fun _ => default, hv, Nat.le_refl _, by omega, fun h => absurd h (by omega), fun i h => absurd h (by omega)⟩
  · injection hcs with hv
    obtain rfl : m = cap := by simpa using hmm
    rw [hx] at hw
    simp only [DataW.weights, Try.underlying22, byteN24] at hw
    have hcap : m * 24 ≤ reachBytes := by
      have := hw _ (List.mem_cons.2 (.inl rfl))
      simp only [List.length_map, List.length_range] at this
      omega
    have each : ∀ i, i < len → ∃ s : Nsl, w.cell? (a.add i) = some (.slice s.A s.n s.c) ∧ Nm w s.A s.n s.c s.N := by
      intro i hil
      obtain ⟨h1, h2⟩ := hi i (by omega)
      have hwi := fun k hk => hw k (List.mem_cons.2 (.inr (List.mem_append.2 (.inl (all_mem (List.mem_map.2 ⟨i, List.mem_range.2 hil, rfl⟩) k hk)))))
      obtain ⟨Ai, ni, ci, zs, hV, hr⟩ := field_row h2 hwi
      exact ⟨⟨Ai, ni, ci, _⟩, by rw [h1, hV], hr.told.nm⟩
    obtain ⟨S, hS⟩ := choose_lt each
    refine ⟨some a, len, m, S, hv, hl, by simp only [reachBytes] at hcap; omega, fun hn => ?_, fun i hi => (hS i hi).2⟩
    obtain ⟨b, off, spot⟩ := a
    have hspot : spot = none := by simpa [Addr.add] using World.cell?_spot (hS 0 hn).1
    subst hspot
    simp only [add_off] at hS
    exact ⟨b, off, rfl, block_lt_of_cell (hS 0 hn).1, fun i hi => (hS i hi).1⟩
theorem cellR1 : Try.prog.cellsOf 22 = 1 := by kernel_rfl
theorem byteR24 : Try.prog.bytesOf 22 = 24 := by kernel_rfl
end
end Go.Proofs.Ytkecfdeepmhggaa
/-
  Shares that came in: a list of them, one by value; a list of ints.
-/
namespace Go.Proofs.Ytkecfdeepmhggaa
open Go.RowKit Go.ChangeShapes Go.WideShapes Go.Deep Go.Joins
set_option linter.unusedVariables false
section
variable {H : Type} {enc : TypeId × Value → H} {w : World}
theorem cellsH2 : Try.prog.cellsOf 42 = 2 := by kernel_rfl
theorem bytesH2 : Try.prog.bytesOf 42 = 32 := by kernel_rfl
instance : Inhabited Shr := ⟨⟨0, none, 0, 0, 0⟩⟩
theorem list2H {α : Type} {l : List α} (h : l.length = 2) : ∃ a b, l = [a, b] := by
  match l, h with
  | [a, b], _ => exact ⟨a, b, rfl⟩
/-- One share of a list. -/
theorem share_row {n : Nat} {a : Addr} {fs : Array Field} {cs : List Value} {x : DataW H × List MemPlace} (he : Try.prog.underlying 42 = some (.struct fs)) (hone : oneCellFields Try.prog fs = true) (hmt : fs.toList.map (·.type) = [3, 25])
    (hc : w.cells? 0 a 2 = some cs) (ht : DataW.trod enc Try.prog w 0 (fun _ => true) true n 42 cs = some x) (hw : ∀ k ∈ x.1.weights Try.prog 42, k ≤ reachBytes) :
    ∃ s : Shr, w.cell? (a.add 0) = some (.int .i64 s.I) ∧ w.cell? (a.add 1) = some (.slice s.A s.n s.c) ∧ s.At w := by
  obtain ⟨ys, n', -, hy, hlen, hyl, hf⟩ := DataW.trod_struct he ht
  obtain ⟨_, hcl, hat⟩ := World.cells?_some hc
  have hsz : fs.size = 2 := by have := congrArg List.length hmt; simpa using this
  have key : ∀ j t, [3, 25][j]? = some t → DataW.trod enc Try.prog w 0 (fun _ => true) true n' t ((cs.drop j).take 1) = ys[j]? := by
    intro j t hjt
    have hj : j < 2 := by
      rcases Nat.lt_or_ge j 2 with g | g
      · exact g
      · rw [List.getElem?_eq_none (by simpa using g)] at hjt; cases hjt
    have hj' : j < fs.size := by omega
    have hfj : fs[j]? = some fs[j] := Array.getElem?_eq_getElem hj'
    obtain ⟨ho, hk⟩ := hone_of hone j _ hfj
    have hty : fs[j].type = t := by
      have h1 : (fs.toList.map (·.type))[j]? = some fs[j].type := by simp [hfj]
      rw [hmt, hjt] at h1
      exact (Option.some.inj h1).symm
    have h1 := hf j _ hfj
    rw [ho, hk, hty] at h1
    exact h1
  obtain ⟨v0, v1, rfl⟩ := list2H hcl
  obtain ⟨y0, y1, rfl⟩ := list2H (hyl.trans hsz)
  have e0 : DataW.trod enc Try.prog w 0 (fun _ => true) true n' 3 [v0] = some y0 := key 0 _ rfl
  have e1 : DataW.trod enc Try.prog w 0 (fun _ => true) true n' 25 [v1] = some y1 := key 1 _ rfl
  have hw' : ∀ k ∈ DataW.weightsEach Try.prog [3, 25] [y0.1, y1.1], k ≤ reachBytes := by
    intro k hk
    refine hw k ?_
    rw [hy]
    simp only [DataW.weights, he, hmt]
    exact hk
  obtain ⟨i0, q0, -, k0⟩ := DataW.trod_int Try.underlying3 e0
  injection q0 with q0
  subst q0
  obtain ⟨a1, l1, c1, z1, rfl, r1⟩ := field_row e1 fun k hk => hw' k (DataW.weights_mem_each (j := 1) rfl rfl k hk)
  exact ⟨⟨i0, a1, l1, c1, _⟩, hat 0 (by omega), hat 1 (by omega), bounds_i64 k0, r1.told.nm⟩
/-- Shares that came in. -/
theorem open_shares {fuel : Nat} {v : Value} {x : DataW H × List MemPlace} (h : DataW.trod enc Try.prog w 0 (fun _ => true) true fuel 37 [v] = some x) (hw : ∀ k ∈ x.1.weights Try.prog 37, k ≤ reachBytes) :
    ∃ a len cap S, v = .slice a len cap ∧ Shs w a len cap S := by
  rcases open_slice Try.underlying37 h with ⟨hcs, _⟩ | ⟨a, len, cap, m, n, D, Pl, hcs, _, hl, hm, hmm, hx, hi⟩
  · injection hcs with hv
    exact ⟨none, 0, 0, fun _ => default, hv, Shs.nil _ _⟩
  · injection hcs with hv
    rw [cellsH2] at hi
    obtain rfl : m = cap := by simpa using hmm
    rw [hx] at hw
    simp only [DataW.weights, Try.underlying37, bytesH2] at hw
    have hcap : m * 32 ≤ reachBytes := by
      have := hw _ (List.mem_cons.2 (.inl rfl))
      simp only [List.length_map, List.length_range] at this
      omega
    have each : ∀ i, i < len → ∃ s : Shr, w.cell? ((a.add (i * 2)).add 0) = some (.int .i64 s.I) ∧ w.cell? ((a.add (i * 2)).add 1) = some (.slice s.A s.n s.c) ∧ s.At w := by
      intro i hil
      obtain ⟨cs', h1, h2⟩ := hi i (by omega)
      refine share_row Try.underlying42 (by kernel_rfl) (by kernel_rfl) h1 h2 fun k hk => hw k (List.mem_cons.2 (.inr (List.mem_append.2 (.inl ?_))))
      exact all_mem (List.mem_map.2 ⟨i, List.mem_range.2 hil, rfl⟩) k hk
    obtain ⟨S, hS⟩ := choose_lt each
    refine ⟨some a, len, m, S, hv, hl, by simp only [reachBytes] at hcap; omega, fun hn => ?_, fun i hi => (hS i hi).2.2⟩
    obtain ⟨b, off, spot⟩ := a
    have hspot : spot = none := by simpa [Addr.add] using World.cell?_spot (hS 0 hn).1
    subst hspot
    simp only [add_off] at hS
    exact ⟨b, off, rfl, block_lt_of_cell (hS 0 hn).1, fun i hi => ⟨(hS i hi).1, (hS i hi).2.1⟩⟩
set_option maxRecDepth 100000 in
/-- One share that came in by value. -/
theorem open_share {r : Reach} {b0 : Nat} {v : Value} {d : DataW H} {p : List MemPlace} (hv : Value.okWide Try.prog w r b0 42 v) (h : DataW.Trod enc Try.prog w 0 (fun _ => true) true 42 v d p) (hw : ∀ k ∈ d.weights Try.prog 42, k ≤ reachBytes) :
    ∃ s : Shr, v = .agg #[.int .i64 s.I, .slice s.A s.n s.c] ∧ s.At w := by
  obtain ⟨v0, v1, y0, y1, m, rfl, rfl, -, e0, e1⟩ := open_agg2 Try.underlying42 (by kernel_rfl) (by kernel_rfl) hv h
  have hw' : ∀ k ∈ DataW.weightsEach Try.prog [3, 25] [y0.1, y1.1], k ≤ reachBytes := fun k hk => hw k (by
    simp only [DataW.weights, Try.underlying42]
    exact hk)
  have e0' : DataW.trod enc Try.prog w 0 (fun _ => true) true m 3 [v0] = some y0 := e0
  have e1' : DataW.trod enc Try.prog w 0 (fun _ => true) true m 25 [v1] = some y1 := e1
  obtain ⟨i0, q0, -, k0⟩ := DataW.trod_int Try.underlying3 e0'
  injection q0 with q0
  subst q0
  obtain ⟨A, l, c, zs, rfl, r0⟩ := field_row e1' fun k hk => hw' k (DataW.weights_mem_each (j := 1) rfl rfl k hk)
  exact ⟨⟨i0, A, l, c, _⟩, rfl, bounds_i64 k0, r0.told.nm⟩
end
end Go.Proofs.Ytkecfdeepmhggaa
/-
  A slice of ints that came in is a list of ints in memory.
-/
namespace Go.Proofs.Ytkecfdeepmhggaa
open Go.RowKit
set_option linter.unusedVariables false
theorem IsRow.ils {w : World} {a : Option Addr} {len cap : Nat} {zs : List Int} (h : IsRow .i64 8 w a len cap zs) : Ils w a len cap (fun i => (zs.take len).getD i 0) :=
  ⟨h.nc.1, by have := h.nc.1; have := h.nc.2; omega, fun hn => by
    obtain ⟨b, off, e, hl, hc⟩ := h.rd.cells hn
    refine ⟨b, off, e, hl, fun i hi => hc i _ ?_⟩
    show (zs.take len)[i]? = some ((zs.take len).getD i 0)
    rw [List.getD_eq_getElem?_getD, List.getElem?_eq_getElem (by rw [h.rd.len]; exact hi)]
    rfl,
   fun i hi => by
    show -9223372036854775808 ≤ (zs.take len).getD i 0 ∧ (zs.take len).getD i 0 ≤ 9223372036854775807
    have hl : i < (zs.take len).length := by rw [h.rd.len]; exact hi
    rw [List.getD_eq_getElem?_getD, List.getElem?_eq_getElem hl]
    exact bounds_i64 (h.wf _ (List.getElem_mem hl))⟩
end Go.Proofs.Ytkecfdeepmhggaa
