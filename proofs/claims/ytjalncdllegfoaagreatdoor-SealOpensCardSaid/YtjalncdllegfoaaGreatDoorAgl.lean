/-
  Several texts in one: ArgS, ArgL.
-/
import Derived.Test.YtjalncdllegfoaaGreatDoorPri
import Derived.Test.YtjalncdllegfoaaGreatDoorPkf
import Derived.Deep.Slices
import Derived.Deep.Fields
import Derived.SizedLaws
import Derived.Lib.SmallJoins
/-
  A chain of steps that came in: its cells, and that its slices are numbers.
-/
namespace Go.Proofs.YtjalncdllegfoaaGreatDoor
open Go.RowKit Go.ChangeShapes Go.WideShapes Go.Deep
set_option linter.unusedVariables false
section
variable {H : Type} {enc : TypeId × Value → H} {w : World}
theorem all_mem {P : Program} {e : TypeId} {d : DataW H} {l : List (DataW H)} (hd : d ∈ l) : ∀ n ∈ d.weights P e, n ∈ DataW.weightsAll P e l := by
  induction l with
  | nil => cases hd
  | cons x r ih =>
    intro n hn
    rw [DataW.weightsAll, List.mem_append]
    rcases List.mem_cons.1 hd with rfl | hd
    · exact .inl hn
    · exact .inr (ih hd n hn)
theorem nat8 : Tryz.prog.bytesOf 56 = 8 := by kernel_rfl
/-- A slice of limbs that was read, and all that is weighed of it is within the reach. -/
theorem field_row {n : Nat} {v : Value} {y : DataW H × List MemPlace} (hf : DataW.trod enc Tryz.prog w 0 (fun _ => true) true n 23 [v] = some y) (hw : ∀ k ∈ y.1.weights Tryz.prog 23, k ≤ reachBytes) :
    ∃ a len cap zs, v = .slice a len cap ∧ IsRow .u64 8 w a len cap zs := by
  rcases open_ints Tryz.underlying23 Tryz.underlying56 (by kernel_rfl) hf with ⟨hcs, _⟩ | ⟨x, l, c, zs, hcs, _, hl, hm, hz, hx, hcell, hwz⟩
  · injection hcs with hv
    exact ⟨none, 0, 0, [], hv, .inl ⟨rfl, rfl, rfl, rfl⟩⟩
  · injection hcs with hv
    refine ⟨some x, l, c, zs, hv, .inr ⟨x, rfl, hl, ?_, by simpa using hz, hcell, hwz⟩⟩
    have h1 := hw ((zs.take l).length * 8 + (zs.drop l).length * 8) (by
      rw [hx]
      simp only [DataW.weights, Tryz.underlying23, nat8]
      refine List.mem_cons.2 (.inl ?_)
      simp only [lits, List.length_map]
      omega)
    simp only [List.length_take, List.length_drop, reachBytes] at h1
    simp at hz
    omega
theorem list3 {α : Type} {l : List α} (h : l.length = 3) : ∃ a b c, l = [a, b, c] := by
  match l, h with
  | [a, b, c], _ => exact ⟨a, b, c, rfl⟩
theorem three_same {a t : TypeId} {j : Nat} (h : [a, a, a][j]? = some t) : t = a := by
  match j, h with
  | 0, h => exact (Option.some.inj h).symm
  | 1, h => exact (Option.some.inj h).symm
  | 2, h => exact (Option.some.inj h).symm
  | j + 3, h => simp at h
/-- One step of the chain. -/
theorem step_row {n : Nat} {a : Addr} {fs : Array Field} {cs : List Value} {x : DataW H × List MemPlace} (he : Tryz.prog.underlying 85 = some (.struct fs)) (hone : oneCellFields Tryz.prog fs = true) (hmt : fs.toList.map (·.type) = [23, 23, 23])
    (hc : w.cells? 0 a 3 = some cs) (ht : DataW.trod enc Tryz.prog w 0 (fun _ => true) true n 85 cs = some x) (hw : ∀ k ∈ x.1.weights Tryz.prog 85, k ≤ reachBytes) :
    ∃ s : Stp, w.cell? (a.add 0) = some (.slice s.A1 s.n1 s.c1) ∧ w.cell? (a.add 1) = some (.slice s.A2 s.n2 s.c2) ∧ w.cell? (a.add 2) = some (.slice s.A3 s.n3 s.c3) ∧ s.At w := by
  obtain ⟨ys, n', -, hy, hlen, hyl, hf⟩ := DataW.trod_struct he ht
  obtain ⟨_, hcl, hat⟩ := World.cells?_some hc
  have hsz : fs.size = 3 := by have := congrArg List.length hmt; simpa using this
  have key : ∀ j, j < 3 → DataW.trod enc Tryz.prog w 0 (fun _ => true) true n' 23 ((cs.drop j).take 1) = ys[j]? := by
    intro j hj
    have hj' : j < fs.size := by omega
    have hfj : fs[j]? = some fs[j] := Array.getElem?_eq_getElem hj'
    obtain ⟨ho, hk⟩ := hone_of hone j _ hfj
    have hty : fs[j].type = 23 := by
      have h1 : (fs.toList.map (·.type))[j]? = some fs[j].type := by simp [hfj]
      rw [hmt] at h1
      exact three_same h1
    have h1 := hf j _ hfj
    rw [ho, hk, hty] at h1
    exact h1
  obtain ⟨v0, v1, v2, rfl⟩ := list3 hcl
  obtain ⟨y0, y1, y2, rfl⟩ := list3 (hyl.trans hsz)
  have e0 : DataW.trod enc Tryz.prog w 0 (fun _ => true) true n' 23 [v0] = some y0 := key 0 (by omega)
  have e1 : DataW.trod enc Tryz.prog w 0 (fun _ => true) true n' 23 [v1] = some y1 := key 1 (by omega)
  have e2 : DataW.trod enc Tryz.prog w 0 (fun _ => true) true n' 23 [v2] = some y2 := key 2 (by omega)
  have hw' : ∀ k ∈ DataW.weightsEach Tryz.prog [23, 23, 23] [y0.1, y1.1, y2.1], k ≤ reachBytes := by
    intro k hk
    refine hw k ?_
    rw [hy]
    simp only [DataW.weights, he, hmt]
    exact hk
  obtain ⟨a0, l0, k0, z0, rfl, r0⟩ := field_row e0 fun k hk => hw' k (DataW.weights_mem_each (j := 0) rfl rfl k hk)
  obtain ⟨a1, l1, k1, z1, rfl, r1⟩ := field_row e1 fun k hk => hw' k (DataW.weights_mem_each (j := 1) rfl rfl k hk)
  obtain ⟨a2, l2, k2, z2, rfl, r2⟩ := field_row e2 fun k hk => hw' k (DataW.weights_mem_each (j := 2) rfl rfl k hk)
  exact ⟨⟨a0, l0, k0, a1, l1, k1, a2, l2, k2, _, _, _⟩, hat 0 (by omega), hat 1 (by omega), hat 2 (by omega), r0.told.nm, r1.told.nm, r2.told.nm⟩
instance : Inhabited Stp := ⟨⟨none, 0, 0, none, 0, 0, none, 0, 0, 0, 0, 0⟩⟩
theorem cellsS3 : Tryz.prog.cellsOf 85 = 3 := by kernel_rfl
theorem bytesS3 : Tryz.prog.bytesOf 85 = 72 := by kernel_rfl
theorem add_off (b off j : Nat) : (⟨b, off, none⟩ : Addr).add j = ⟨b, off + j, none⟩ := by
  unfold Addr.add; split
  · rename_i h0; subst h0; rfl
  · rfl
/-- A chain that came in. -/
theorem open_chain {fuel : Nat} {v : Value} {x : DataW H × List MemPlace} (h : DataW.trod enc Tryz.prog w 0 (fun _ => true) true fuel 50 [v] = some x) (hw : ∀ k ∈ x.1.weights Tryz.prog 50, k ≤ reachBytes) :
    ∃ a len cap S, v = .slice a len cap ∧ Ch w a len cap S := by
  rcases open_slice Tryz.underlying50 h with ⟨hcs, _⟩ | ⟨a, len, cap, m, n, D, Pl, hcs, _, hl, hm, hmm, hx, hi⟩
  · injection hcs with hv
    exact ⟨none, 0, 0, fun _ => default, hv, Nat.le_refl _, by omega, fun h => absurd h (by omega), fun i h => absurd h (by omega)⟩
  · injection hcs with hv
    rw [cellsS3] at hi
    obtain rfl : m = cap := by simpa using hmm
    rw [hx] at hw
    simp only [DataW.weights, Tryz.underlying50, bytesS3] at hw
    have hcap : m * 72 ≤ reachBytes := by
      have := hw _ (List.mem_cons.2 (.inl rfl))
      simp only [List.length_map, List.length_range] at this
      omega
    have each : ∀ i, i < len → ∃ s : Stp, w.cell? ((a.add (i * 3)).add 0) = some (.slice s.A1 s.n1 s.c1) ∧ w.cell? ((a.add (i * 3)).add 1) = some (.slice s.A2 s.n2 s.c2) ∧ w.cell? ((a.add (i * 3)).add 2) = some (.slice s.A3 s.n3 s.c3) ∧ s.At w := by
      intro i hil
      obtain ⟨cs', h1, h2⟩ := hi i (by omega)
      refine step_row Tryz.underlying85 (by kernel_rfl) (by kernel_rfl) h1 h2 fun k hk => hw k (List.mem_cons.2 (.inr (List.mem_append.2 (.inl ?_))))
      exact all_mem (List.mem_map.2 ⟨i, List.mem_range.2 hil, rfl⟩) k hk
    obtain ⟨S, hS⟩ := choose_lt each
    refine ⟨some a, len, m, S, hv, hl, by simp only [reachBytes] at hcap; omega, fun hn => ?_, fun i hi => (hS i hi).2.2.2⟩
    obtain ⟨b, off, spot⟩ := a
    have hspot : spot = none := by simpa [Addr.add] using World.cell?_spot (hS 0 hn).1
    subst hspot
    simp only [add_off] at hS
    exact ⟨b, off, rfl, block_lt_of_cell (hS 0 hn).1, fun i hi => ⟨(hS i hi).1, (hS i hi).2.1, (hS i hi).2.2.1⟩⟩
end
end Go.Proofs.YtjalncdllegfoaaGreatDoor
/-
  A sealed letter that came in, by value: a number, bytes, bytes.
-/
namespace Go.Proofs.YtjalncdllegfoaaGreatDoor
open Go.RowKit Go.ChangeShapes Go.WideShapes Go.Deep Go.Joins
set_option linter.unusedVariables false
theorem letE1 : Tryz.prog.bytesOf 5 = 1 := by kernel_rfl
theorem field_bytes {H : Type} {enc : TypeId × Value → H} {w : World} {n : Nat} {v : Value} {y : DataW H × List MemPlace} (hf : DataW.trod enc Tryz.prog w 0 (fun _ => true) true n 24 [v] = some y) (hw : ∀ k ∈ y.1.weights Tryz.prog 24, k ≤ reachBytes) :
    ∃ a len cap zs, v = .slice a len cap ∧ IsRow .u8 1 w a len cap zs := by
  rcases open_ints Tryz.underlying24 Tryz.underlying5 (by kernel_rfl) hf with ⟨hcs, _⟩ | ⟨x, l, c, zs, hcs, _, hl, hm, hz, hx, hcell, hwz⟩
  · injection hcs with hv
    exact ⟨none, 0, 0, [], hv, .inl ⟨rfl, rfl, rfl, rfl⟩⟩
  · injection hcs with hv
    refine ⟨some x, l, c, zs, hv, .inr ⟨x, rfl, hl, ?_, by simpa using hz, hcell, hwz⟩⟩
    have h1 := hw ((zs.take l).length * 1 + (zs.drop l).length * 1) (by
      rw [hx]
      simp only [DataW.weights, Tryz.underlying24, letE1]
      refine List.mem_cons.2 (.inl ?_)
      simp only [lits, List.length_map]
      omega)
    simp only [List.length_take, List.length_drop, reachBytes] at h1
    simp at hz
    omega
set_option maxRecDepth 100000 in
theorem open_sealed {H : Type} {enc : TypeId × Value → H} {w : World} {r : Reach} {b0 : Nat} {v : Value} {d : DataW H} {p : List MemPlace} (hv : Value.okWide Tryz.prog w r b0 33 v) (h : DataW.Trod enc Tryz.prog w 0 (fun _ => true) true 33 v d p) (hw : ∀ k ∈ d.weights Tryz.prog 33, k ≤ reachBytes) :
    ∃ A l c zs A' l' c' zs' A2 l2 c2 zs2, v = .agg #[.slice A l c, .slice A' l' c', .slice A2 l2 c2] ∧ IsRow .u64 8 w A l c zs ∧ IsRow .u8 1 w A' l' c' zs' ∧ IsRow .u8 1 w A2 l2 c2 zs2 := by
  obtain ⟨v0, v1, v2, y0, y1, y2, m, rfl, rfl, -, e0, e1, e2⟩ := open_agg3 Tryz.underlying33 (by kernel_rfl) (by kernel_rfl) hv h
  have hw' : ∀ k ∈ DataW.weightsEach Tryz.prog [23, 24, 24] [y0.1, y1.1, y2.1], k ≤ reachBytes := fun k hk => hw k (by
    simp only [DataW.weights, Tryz.underlying33]
    exact hk)
  have e0' : DataW.trod enc Tryz.prog w 0 (fun _ => true) true m 23 [v0] = some y0 := e0
  have e1' : DataW.trod enc Tryz.prog w 0 (fun _ => true) true m 24 [v1] = some y1 := e1
  have e2' : DataW.trod enc Tryz.prog w 0 (fun _ => true) true m 24 [v2] = some y2 := e2
  obtain ⟨A, l, c, zs, rfl, r0⟩ := field_row e0' fun k hk => hw' k (DataW.weights_mem_each (j := 0) rfl rfl k hk)
  obtain ⟨A', l', c', zs', rfl, r1⟩ := field_bytes e1' fun k hk => hw' k (DataW.weights_mem_each (j := 1) rfl rfl k hk)
  obtain ⟨A2, l2, c2, zs2, rfl, r2⟩ := field_bytes e2' fun k hk => hw' k (DataW.weights_mem_each (j := 2) rfl rfl k hk)
  exact ⟨A, l, c, zs, A', l', c', zs', A2, l2, c2, zs2, rfl, r0, r1, r2⟩
end Go.Proofs.YtjalncdllegfoaaGreatDoor
