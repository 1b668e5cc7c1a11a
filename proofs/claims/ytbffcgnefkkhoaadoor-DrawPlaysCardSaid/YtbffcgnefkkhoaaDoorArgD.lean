/-
  A script of draws that came in: its cells, and that its numbers are rows of digits.
-/
import Derived.Test.YtbffcgnefkkhoaaDoorPkf
import Derived.Deep.Slices
import Derived.Deep.Fields
import Derived.SizedLaws
namespace Go.Proofs.YtbffcgnefkkhoaaDoor
open Go.RowKit Go.ChangeShapes Go.WideShapes Go.Deep
set_option linter.unusedVariables false
/-- One thing to draw, as it came in. -/
structure SOp where
  wh : Int
  nn : Int
  A : Option Addr
  n : Nat
  c : Nat
  xs : List Int
instance : Inhabited SOp := ⟨⟨0, 0, none, 0, 0, []⟩⟩
/-- A script that came in. -/
structure Scr (w : World) (a : Option Addr) (n c : Nat) (S : Nat → SOp) : Prop where
  nc : n ≤ c
  small : n ≤ 140737488351232
  cells : 0 < n → ∃ b off, a = some ⟨b, off, none⟩ ∧ b < w.heap.size ∧ ∀ i, i < n → w.cell? ⟨b, off + i * 3, none⟩ = some (.int .i64 (S i).wh) ∧ w.cell? ⟨b, off + i * 3 + 1, none⟩ = some (.int .i64 (S i).nn) ∧ w.cell? ⟨b, off + i * 3 + 2, none⟩ = some (.slice (S i).A (S i).n (S i).c)
  at_ : ∀ i, i < n → (-9223372036854775808 ≤ (S i).wh ∧ (S i).wh ≤ 9223372036854775807) ∧ (-9223372036854775808 ≤ (S i).nn ∧ (S i).nn ≤ 9223372036854775807) ∧ IsRow .u64 8 w (S i).A (S i).n (S i).c (S i).xs
section
variable {H : Type} {enc : TypeId × Value → H} {w : World}
theorem all_memD {P : Program} {e : TypeId} {d : DataW H} {l : List (DataW H)} (hd : d ∈ l) : ∀ n ∈ d.weights P e, n ∈ DataW.weightsAll P e l := by
  induction l with
  | nil => cases hd
  | cons x r ih =>
    intro n hn
    rw [DataW.weightsAll, List.mem_append]
    rcases List.mem_cons.1 hd with rfl | hd
    · exact .inl hn
    · exact .inr (ih hd n hn)
theorem byD8 : Tryd.prog.bytesOf 61 = 8 := by kernel_rfl
theorem field_rowD {n : Nat} {v : Value} {y : DataW H × List MemPlace} (hf : DataW.trod enc Tryd.prog w 0 (fun _ => true) true n 30 [v] = some y) (hw : ∀ k ∈ y.1.weights Tryd.prog 30, k ≤ reachBytes) :
    ∃ a len cap zs, v = .slice a len cap ∧ IsRow .u64 8 w a len cap zs := by
  rcases open_ints Tryd.underlying30 Tryd.underlying61 (by kernel_rfl) hf with ⟨hcs, _⟩ | ⟨x, l, c, zs, hcs, _, hl, hm, hz, hx, hcell, hwz⟩
  · injection hcs with hv
    exact ⟨none, 0, 0, [], hv, .inl ⟨rfl, rfl, rfl, rfl⟩⟩
  · injection hcs with hv
    refine ⟨some x, l, c, zs, hv, .inr ⟨x, rfl, hl, ?_, by simpa using hz, hcell, hwz⟩⟩
    have h1 := hw ((zs.take l).length * 8 + (zs.drop l).length * 8) (by
      rw [hx]
      simp only [DataW.weights, Tryd.underlying30, byD8]
      refine List.mem_cons.2 (.inl ?_)
      simp only [lits, List.length_map]
      omega)
    simp only [List.length_take, List.length_drop, reachBytes] at h1
    simp at hz
    omega
theorem list3D {α : Type} {l : List α} (h : l.length = 3) : ∃ a b c, l = [a, b, c] := by
  match l, h with
  | [a, b, c], _ => exact ⟨a, b, c, rfl⟩
/-- One thing of the script. -/
theorem op_row {n : Nat} {a : Addr} {fs : Array Field} {cs : List Value} {x : DataW H × List MemPlace} (he : Tryd.prog.underlying 32 = some (.struct fs)) (hone : oneCellFields Tryd.prog fs = true) (hmt : fs.toList.map (·.type) = [3, 3, 30])
    (hc : w.cells? 0 a 3 = some cs) (ht : DataW.trod enc Tryd.prog w 0 (fun _ => true) true n 32 cs = some x) (hw : ∀ k ∈ x.1.weights Tryd.prog 32, k ≤ reachBytes) :
    ∃ s : SOp, w.cell? (a.add 0) = some (.int .i64 s.wh) ∧ w.cell? (a.add 1) = some (.int .i64 s.nn) ∧ w.cell? (a.add 2) = some (.slice s.A s.n s.c) ∧
      (-9223372036854775808 ≤ s.wh ∧ s.wh ≤ 9223372036854775807) ∧ (-9223372036854775808 ≤ s.nn ∧ s.nn ≤ 9223372036854775807) ∧ IsRow .u64 8 w s.A s.n s.c s.xs := by
  obtain ⟨ys, n', -, hy, hlen, hyl, hf⟩ := DataW.trod_struct he ht
  obtain ⟨_, hcl, hat⟩ := World.cells?_some hc
  have hsz : fs.size = 3 := by have := congrArg List.length hmt; simpa using this
  have key : ∀ j t, [3, 3, 30][j]? = some t → DataW.trod enc Tryd.prog w 0 (fun _ => true) true n' t ((cs.drop j).take 1) = ys[j]? := by
    intro j t hjt
    have hj : j < 3 := by
      rcases Nat.lt_or_ge j 3 with g | g
      · exact g
      · rw [List.getElem?_eq_none (by simpa using g)] at hjt; cases hjt
    have hj' : j < fs.size := by omega
    have hfj : fs[j]? = some fs[j] := Array.getElem?_eq_getElem hj'
    obtain ⟨ho, hk⟩ := hone_of hone j _ hfj
    have hty : fs[j].type = t := by
      have h1 : (fs.toList.map (·.type))[j]? = some fs[j].type := by simp [hfj]
      rw [hmt, hjt] at h1
      exact (Option.some.inj h1).symm
    have h1 := hf j _ hfj
    rw [ho, hk, hty] at h1
    exact h1
  obtain ⟨v0, v1, v2, rfl⟩ := list3D hcl
  obtain ⟨y0, y1, y2, rfl⟩ := list3D (hyl.trans hsz)
  have e0 : DataW.trod enc Tryd.prog w 0 (fun _ => true) true n' 3 [v0] = some y0 := key 0 _ rfl
  have e1 : DataW.trod enc Tryd.prog w 0 (fun _ => true) true n' 3 [v1] = some y1 := key 1 _ rfl
  have e2 : DataW.trod enc Tryd.prog w 0 (fun _ => true) true n' 30 [v2] = some y2 := key 2 _ rfl
  have hw' : ∀ k ∈ DataW.weightsEach Tryd.prog [3, 3, 30] [y0.1, y1.1, y2.1], k ≤ reachBytes := by
    intro k hk
    refine hw k ?_
    rw [hy]
    simp only [DataW.weights, he, hmt]
    exact hk
  obtain ⟨i0, q0, -, k0⟩ := DataW.trod_int Tryd.underlying3 e0
  obtain ⟨i1, q1, -, k1⟩ := DataW.trod_int Tryd.underlying3 e1
  injection q0 with q0
  injection q1 with q1
  subst q0 q1
  obtain ⟨a2, l2, c2, z2, rfl, r2⟩ := field_rowD e2 fun k hk => hw' k (DataW.weights_mem_each (j := 2) rfl rfl k hk)
  exact ⟨⟨i0, i1, a2, l2, c2, z2⟩, hat 0 (by omega), hat 1 (by omega), hat 2 (by omega), bounds_i64 k0, bounds_i64 k1, r2⟩
theorem cellsD3 : Tryd.prog.cellsOf 32 = 3 := by kernel_rfl
theorem bytesD3 : Tryd.prog.bytesOf 32 = 40 := by kernel_rfl
theorem add_offD (b off j : Nat) : (⟨b, off, none⟩ : Addr).add j = ⟨b, off + j, none⟩ := by
  unfold Addr.add; split
  · rename_i h0; subst h0; rfl
  · rfl
/-- A script that came in. -/
theorem open_script {fuel : Nat} {v : Value} {x : DataW H × List MemPlace} (h : DataW.trod enc Tryd.prog w 0 (fun _ => true) true fuel 23 [v] = some x) (hw : ∀ k ∈ x.1.weights Tryd.prog 23, k ≤ reachBytes) :
    ∃ a len cap S, v = .slice a len cap ∧ Scr w a len cap S := by
  rcases open_slice Tryd.underlying23 h with ⟨hcs, _⟩ | ⟨a, len, cap, m, n, D, Pl, hcs, _, hl, hm, hmm, hx, hi⟩
  · injection hcs with hv
    exact ⟨none, 0, 0, fun _ => default, hv, Nat.le_refl _, by omega, fun h => absurd h (by omega), fun i h => absurd h (by omega)⟩
  · injection hcs with hv
    rw [cellsD3] at hi
    obtain rfl : m = cap := by simpa using hmm
    rw [hx] at hw
    simp only [DataW.weights, Tryd.underlying23, bytesD3] at hw
    have hcap : m * 40 ≤ reachBytes := by
      have := hw _ (List.mem_cons.2 (.inl rfl))
      simp only [List.length_map, List.length_range] at this
      omega
    have each : ∀ i, i < len → ∃ s : SOp, w.cell? ((a.add (i * 3)).add 0) = some (.int .i64 s.wh) ∧ w.cell? ((a.add (i * 3)).add 1) = some (.int .i64 s.nn) ∧ w.cell? ((a.add (i * 3)).add 2) = some (.slice s.A s.n s.c) ∧
        (-9223372036854775808 ≤ s.wh ∧ s.wh ≤ 9223372036854775807) ∧ (-9223372036854775808 ≤ s.nn ∧ s.nn ≤ 9223372036854775807) ∧ IsRow .u64 8 w s.A s.n s.c s.xs := by
      intro i hil
      obtain ⟨cs', h1, h2⟩ := hi i (by omega)
      refine op_row Tryd.underlying32 (by kernel_rfl) (by kernel_rfl) h1 h2 fun k hk => hw k (List.mem_cons.2 (.inr (List.mem_append.2 (.inl ?_))))
      exact all_memD (List.mem_map.2 ⟨i, List.mem_range.2 hil, rfl⟩) k hk
    obtain ⟨S, hS⟩ := choose_lt each
    refine ⟨some a, len, m, S, hv, hl, by simp only [reachBytes] at hcap; omega, fun hn => ?_, fun i hi => (hS i hi).2.2.2⟩
    obtain ⟨b, off, spot⟩ := a
    have hspot : spot = none := by simpa [Addr.add] using World.cell?_spot (hS 0 hn).1
    subst hspot
    simp only [add_offD] at hS
    exact ⟨b, off, rfl, block_lt_of_cell (hS 0 hn).1, fun i hi => ⟨(hS i hi).1, (hS i hi).2.1, (hS i hi).2.2.1⟩⟩
end
end Go.Proofs.YtbffcgnefkkhoaaDoor
