/-
  Several texts in one: ArgS, ArgL, ArgP, ArgK, ArgM.
-/
import Derived.Test.YtcnekfpgoceblaaPri
import Derived.Test.YtcnekfpgoceblaaPkf
import Derived.Deep.Slices
import Derived.Deep.Fields
import Derived.SizedLaws
import Derived.Lib.SmallJoins
import Derived.Test.YtcnekfpgoceblaaMxx
import Derived.Test.YtcnekfpgoceblaaPcj
/-
  A chain of steps that came in: its cells, and that its slices are numbers.
-/
namespace Go.Proofs.Ytcnekfpgoceblaa
open Go.RowKit Go.ChangeShapes Go.WideShapes Go.Deep
set_option linter.unusedVariables false
section
variable {H : Type} {enc : TypeId × Value → H} {w : World}
theorem all_mem {P : Program} {e : TypeId} {d : DataW H} {l : List (DataW H)} (hd : d ∈ l) : ∀ n ∈ d.weights P e, n ∈ DataW.weightsAll P e l := by
  induction l with
  | nil => cases hd
  | cons x r ih =>
    intro n hn
    rw [DataW.weightsAll, List.mem_append]
    rcases List.mem_cons.1 hd with rfl | hd
    · exact .inl hn
    · exact .inr (ih hd n hn)
theorem nat8 : Try.prog.bytesOf 41 = 8 := by kernel_rfl
/-- A slice of limbs that was read, and all that is weighed of it is within the reach. -/
theorem field_row {n : Nat} {v : Value} {y : DataW H × List MemPlace} (hf : DataW.trod enc Try.prog w 0 (fun _ => true) true n 26 [v] = some y) (hw : ∀ k ∈ y.1.weights Try.prog 26, k ≤ reachBytes) :
    ∃ a len cap zs, v = .slice a len cap ∧ IsRow .u64 8 w a len cap zs := by
  rcases open_ints Try.underlying26 Try.underlying41 (by kernel_rfl) hf with ⟨hcs, _⟩ | ⟨x, l, c, zs, hcs, _, hl, hm, hz, hx, hcell, hwz⟩
  · injection hcs with hv
    exact ⟨none, 0, 0, [], hv, .inl ⟨rfl, rfl, rfl, rfl⟩⟩
  · injection hcs with hv
    refine ⟨some x, l, c, zs, hv, .inr ⟨x, rfl, hl, ?_, by simpa using hz, hcell, hwz⟩⟩
    have h1 := hw ((zs.take l).length * 8 + (zs.drop l).length * 8) (by
      rw [hx]
      simp only [DataW.weights, Try.underlying26, nat8]
      refine List.mem_cons.2 (.inl ?_)
      simp only [lits, List.length_map]
      omega)
    simp only [List.length_take, List.length_drop, reachBytes] at h1
    simp at hz
    omega
theorem list3 {α : Type} {l : List α} (h : l.length = 3) : ∃ a b c, l = [a, b, c] := by
  match l, h with
  | [a, b, c], _ => exact ⟨a, b, c, rfl⟩
theorem three_same {a t : TypeId} {j : Nat} (h : [a, a, a][j]? = some t) : t = a := by
  match j, h with
  | 0, h => exact (Option.some.inj h).symm
  | 1, h => exact (Option.some.inj h).symm
  | 2, h => exact (Option.some.inj h).symm
  | j + 3, h => simp at h
instance : Inhabited Stp := ⟨⟨none, 0, 0, none, 0, 0, none, 0, 0, 0, 0, 0⟩⟩
theorem add_off (b off j : Nat) : (⟨b, off, none⟩ : Addr).add j = ⟨b, off + j, none⟩ := by
  unfold Addr.add; split
  · rename_i h0; subst h0; rfl
  · rfl
end
end Go.Proofs.Ytcnekfpgoceblaa
/-
  A sealed letter that came in, by value: a number, bytes, bytes.
-/
namespace Go.Proofs.Ytcnekfpgoceblaa
open Go.RowKit Go.ChangeShapes Go.WideShapes Go.Deep Go.Joins
set_option linter.unusedVariables false
theorem letE1 : Try.prog.bytesOf 5 = 1 := by kernel_rfl
theorem field_bytes {H : Type} {enc : TypeId × Value → H} {w : World} {n : Nat} {v : Value} {y : DataW H × List MemPlace} (hf : DataW.trod enc Try.prog w 0 (fun _ => true) true n 33 [v] = some y) (hw : ∀ k ∈ y.1.weights Try.prog 33, k ≤ reachBytes) :
    ∃ a len cap zs, v = .slice a len cap ∧ IsRow .u8 1 w a len cap zs := by
  rcases open_ints Try.underlying33 Try.underlying5 (by kernel_rfl) hf with ⟨hcs, _⟩ | ⟨x, l, c, zs, hcs, _, hl, hm, hz, hx, hcell, hwz⟩
  · injection hcs with hv
    exact ⟨none, 0, 0, [], hv, .inl ⟨rfl, rfl, rfl, rfl⟩⟩
  · injection hcs with hv
    refine ⟨some x, l, c, zs, hv, .inr ⟨x, rfl, hl, ?_, by simpa using hz, hcell, hwz⟩⟩
    have h1 := hw ((zs.take l).length * 1 + (zs.drop l).length * 1) (by
      rw [hx]
      simp only [DataW.weights, Try.underlying33, letE1]
      refine List.mem_cons.2 (.inl ?_)
      simp only [lits, List.length_map]
      omega)
    simp only [List.length_take, List.length_drop, reachBytes] at h1
    simp at hz
    omega
end Go.Proofs.Ytcnekfpgoceblaa
/-
  Letters, batches and lists of numbers that came in: their cells, and that their slices are numbers.
-/
namespace Go.Proofs.Ytcnekfpgoceblaa
open Go.RowKit Go.ChangeShapes Go.WideShapes Go.Deep
set_option linter.unusedVariables false
section
variable {H : Type} {enc : TypeId × Value → H} {w : World}
theorem cellsP3 : Try.prog.cellsOf 74 = 3 := by kernel_rfl
theorem bytesP3 : Try.prog.bytesOf 74 = 72 := by kernel_rfl
/-- One pair of a letter. -/
theorem pair_row {n : Nat} {a : Addr} {fs : Array Field} {cs : List Value} {x : DataW H × List MemPlace} (he : Try.prog.underlying 74 = some (.struct fs)) (hone : oneCellFields Try.prog fs = true) (hmt : fs.toList.map (·.type) = [26, 26, 26])
    (hc : w.cells? 0 a 3 = some cs) (ht : DataW.trod enc Try.prog w 0 (fun _ => true) true n 74 cs = some x) (hw : ∀ k ∈ x.1.weights Try.prog 74, k ≤ reachBytes) :
    ∃ s : Stp, w.cell? (a.add 0) = some (.slice s.A1 s.n1 s.c1) ∧ w.cell? (a.add 1) = some (.slice s.A2 s.n2 s.c2) ∧ w.cell? (a.add 2) = some (.slice s.A3 s.n3 s.c3) ∧ s.At w := by
  obtain ⟨ys, n', -, hy, hlen, hyl, hf⟩ := DataW.trod_struct he ht
  obtain ⟨_, hcl, hat⟩ := World.cells?_some hc
  have hsz : fs.size = 3 := by have := congrArg List.length hmt; simpa using this
  have key : ∀ j, j < 3 → DataW.trod enc Try.prog w 0 (fun _ => true) true n' 26 ((cs.drop j).take 1) = ys[j]? := by
    intro j hj
    have hj' : j < fs.size := by omega
    have hfj : fs[j]? = some fs[j] := Array.getElem?_eq_getElem hj'
    obtain ⟨ho, hk⟩ := hone_of hone j _ hfj
    have hty : fs[j].type = 26 := by
      have h1 : (fs.toList.map (·.type))[j]? = some fs[j].type := by simp [hfj]
      rw [hmt] at h1
      exact three_same h1
    have h1 := hf j _ hfj
    rw [ho, hk, hty] at h1
    exact h1
  obtain ⟨v0, v1, v2, rfl⟩ := list3 hcl
  obtain ⟨y0, y1, y2, rfl⟩ := list3 (hyl.trans hsz)
  have e0 : DataW.trod enc Try.prog w 0 (fun _ => true) true n' 26 [v0] = some y0 := key 0 (by omega)
  have e1 : DataW.trod enc Try.prog w 0 (fun _ => true) true n' 26 [v1] = some y1 := key 1 (by omega)
  have e2 : DataW.trod enc Try.prog w 0 (fun _ => true) true n' 26 [v2] = some y2 := key 2 (by omega)
  have hw' : ∀ k ∈ DataW.weightsEach Try.prog [26, 26, 26] [y0.1, y1.1, y2.1], k ≤ reachBytes := by
    intro k hk
    refine hw k ?_
    rw [hy]
    simp only [DataW.weights, he, hmt]
    exact hk
  obtain ⟨a0, l0, k0, z0, rfl, r0⟩ := field_row e0 fun k hk => hw' k (DataW.weights_mem_each (j := 0) rfl rfl k hk)
  obtain ⟨a1, l1, k1, z1, rfl, r1⟩ := field_row e1 fun k hk => hw' k (DataW.weights_mem_each (j := 1) rfl rfl k hk)
  obtain ⟨a2, l2, k2, z2, rfl, r2⟩ := field_row e2 fun k hk => hw' k (DataW.weights_mem_each (j := 2) rfl rfl k hk)
  exact ⟨⟨a0, l0, k0, a1, l1, k1, a2, l2, k2, _, _, _⟩, hat 0 (by omega), hat 1 (by omega), hat 2 (by omega), r0.told.nm, r1.told.nm, r2.told.nm⟩
/-- A letter that came in. -/
theorem open_letter {fuel : Nat} {v : Value} {x : DataW H × List MemPlace} (h : DataW.trod enc Try.prog w 0 (fun _ => true) true fuel 59 [v] = some x) (hw : ∀ k ∈ x.1.weights Try.prog 59, k ≤ reachBytes) :
    ∃ a len cap S, v = .slice a len cap ∧ Ch w a len cap S ∧ len * 72 ≤ reachBytes := by
  rcases open_slice Try.underlying59 h with ⟨hcs, _⟩ | ⟨a, len, cap, m, n, D, Pl, hcs, _, hl, hm, hmm, hx, hi⟩
  · injection hcs with hv
    exact ⟨none, 0, 0, fun _ => default, hv, ⟨Nat.le_refl _, by omega, fun h => absurd h (by omega), fun i h => absurd h (by omega)⟩, by simp [reachBytes]⟩
  · injection hcs with hv
    rw [cellsP3] at hi
    obtain rfl : m = cap := by simpa using hmm
    rw [hx] at hw
    simp only [DataW.weights, Try.underlying59, bytesP3] at hw
    have hcap : m * 72 ≤ reachBytes := by
      have := hw _ (List.mem_cons.2 (.inl rfl))
      simp only [List.length_map, List.length_range] at this
      omega
    have each : ∀ i, i < len → ∃ s : Stp, w.cell? ((a.add (i * 3)).add 0) = some (.slice s.A1 s.n1 s.c1) ∧ w.cell? ((a.add (i * 3)).add 1) = some (.slice s.A2 s.n2 s.c2) ∧ w.cell? ((a.add (i * 3)).add 2) = some (.slice s.A3 s.n3 s.c3) ∧ s.At w := by
      intro i hil
      obtain ⟨cs', h1, h2⟩ := hi i (by omega)
      refine pair_row Try.underlying74 (by kernel_rfl) (by kernel_rfl) h1 h2 fun k hk => hw k (List.mem_cons.2 (.inr (List.mem_append.2 (.inl ?_))))
      exact all_mem (List.mem_map.2 ⟨i, List.mem_range.2 hil, rfl⟩) k hk
    obtain ⟨S, hS⟩ := choose_lt each
    refine ⟨some a, len, m, S, hv, ⟨hl, by simp only [reachBytes] at hcap; omega, fun hn => ?_, fun i hi => (hS i hi).2.2.2⟩, Nat.le_trans (Nat.mul_le_mul_right 72 hl) hcap⟩
    obtain ⟨b, off, spot⟩ := a
    have hspot : spot = none := by simpa [Addr.add] using World.cell?_spot (hS 0 hn).1
    subst hspot
    simp only [add_off] at hS
    exact ⟨b, off, rfl, block_lt_of_cell (hS 0 hn).1, fun i hi => ⟨(hS i hi).1, (hS i hi).2.1, (hS i hi).2.2.1⟩⟩
instance : Inhabited Nsl := ⟨⟨none, 0, 0, 0⟩⟩
instance : Inhabited Lsl := ⟨⟨none, 0, 0, fun _ => default⟩⟩
instance : Inhabited Rsl := ⟨⟨none, 0, 0, fun _ => default⟩⟩
theorem cellN1 : Try.prog.cellsOf 26 = 1 := by kernel_rfl
theorem byteN24 : Try.prog.bytesOf 26 = 24 := by kernel_rfl
/-- A list of numbers that came in. -/
theorem open_nats {fuel : Nat} {v : Value} {x : DataW H × List MemPlace} (h : DataW.trod enc Try.prog w 0 (fun _ => true) true fuel 117 [v] = some x) (hw : ∀ k ∈ x.1.weights Try.prog 117, k ≤ reachBytes) :
    ∃ a len cap S, v = .slice a len cap ∧ Ns w a len cap S := by
  rcases open_slice1 Try.underlying117 cellN1 h with ⟨hcs, _⟩ | ⟨a, len, cap, m, n, V, D, Pl, hcs, _, hl, hm, hmm, hx, hi⟩
  · injection hcs with hv
    exact ⟨none, 0, 0, fun _ => default, hv, Nat.le_refl _, by omega, fun h => absurd h (by omega), fun i h => absurd h (by omega)⟩
  · injection hcs with hv
    obtain rfl : m = cap := by simpa using hmm
    rw [hx] at hw
    simp only [DataW.weights, Try.underlying117, byteN24] at hw
    have hcap : m * 24 ≤ reachBytes := by
      have := hw _ (List.mem_cons.2 (.inl rfl))
      simp only [List.length_map, List.length_range] at this
      omega
    have each : ∀ i, i < len → ∃ s : Nsl, w.cell? (a.add i) = some (.slice s.A s.n s.c) ∧ Nm w s.A s.n s.c s.N := by
      intro i hil
      obtain ⟨h1, h2⟩ := hi i (by omega)
      have hwi := fun k hk => hw k (List.mem_cons.2 (.inr (List.mem_append.2 (.inl (all_mem (List.mem_map.2 ⟨i, List.mem_range.2 hil, rfl⟩) k hk)))))
      obtain ⟨Ai, ni, ci, zs, hV, hr⟩ := field_row h2 hwi
      exact ⟨⟨Ai, ni, ci, _⟩, by rw [h1, hV], hr.told.nm⟩
    obtain ⟨S, hS⟩ := choose_lt each
    refine ⟨some a, len, m, S, hv, hl, by simp only [reachBytes] at hcap; omega, fun hn => ?_, fun i hi => (hS i hi).2⟩
    obtain ⟨b, off, spot⟩ := a
    have hspot : spot = none := by simpa [Addr.add] using World.cell?_spot (hS 0 hn).1
    subst hspot
    simp only [add_off] at hS
    exact ⟨b, off, rfl, block_lt_of_cell (hS 0 hn).1, fun i hi => (hS i hi).1⟩
theorem cellL1 : Try.prog.cellsOf 59 = 1 := by kernel_rfl
theorem byteL24 : Try.prog.bytesOf 59 = 24 := by kernel_rfl
/-- A batch that came in. -/
theorem open_batch {fuel : Nat} {v : Value} {x : DataW H × List MemPlace} (h : DataW.trod enc Try.prog w 0 (fun _ => true) true fuel 22 [v] = some x) (hw : ∀ k ∈ x.1.weights Try.prog 22, k ≤ reachBytes) :
    ∃ a len cap S, v = .slice a len cap ∧ Bat w a len cap S ∧ ∀ i, i < len → (S i).n * 72 ≤ reachBytes := by
  rcases open_slice1 Try.underlying22 cellL1 h with ⟨hcs, _⟩ | ⟨a, len, cap, m, n, V, D, Pl, hcs, _, hl, hm, hmm, hx, hi⟩
  · injection hcs with hv
    exact ⟨none, 0, 0, fun _ => default, hv, ⟨Nat.le_refl _, by omega, fun h => absurd h (by omega), fun i h => absurd h (by omega)⟩, fun i h => absurd h (by omega)⟩
  · injection hcs with hv
    obtain rfl : m = cap := by simpa using hmm
    rw [hx] at hw
    simp only [DataW.weights, Try.underlying22, byteL24] at hw
    have hcap : m * 24 ≤ reachBytes := by
      have := hw _ (List.mem_cons.2 (.inl rfl))
      simp only [List.length_map, List.length_range] at this
      omega
    have each : ∀ i, i < len → ∃ s : Lsl, w.cell? (a.add i) = some (.slice s.A s.n s.c) ∧ Ch w s.A s.n s.c s.S ∧ s.n * 72 ≤ reachBytes := by
      intro i hil
      obtain ⟨h1, h2⟩ := hi i (by omega)
      have hwi := fun k hk => hw k (List.mem_cons.2 (.inr (List.mem_append.2 (.inl (all_mem (List.mem_map.2 ⟨i, List.mem_range.2 hil, rfl⟩) k hk)))))
      obtain ⟨Ai, ni, ci, Si, hV, hr, hr2⟩ := open_letter h2 hwi
      exact ⟨⟨Ai, ni, ci, Si⟩, by rw [h1, hV], hr, hr2⟩
    obtain ⟨S, hS⟩ := choose_lt each
    refine ⟨some a, len, m, S, hv, ⟨hl, by simp only [reachBytes] at hcap; omega, fun hn => ?_, fun i hi => (hS i hi).2.1⟩, fun i hi => (hS i hi).2.2⟩
    obtain ⟨b, off, spot⟩ := a
    have hspot : spot = none := by simpa [Addr.add] using World.cell?_spot (hS 0 hn).1
    subst hspot
    simp only [add_off] at hS
    exact ⟨b, off, rfl, block_lt_of_cell (hS 0 hn).1, fun i hi => (hS i hi).1⟩
theorem cellR1 : Try.prog.cellsOf 117 = 1 := by kernel_rfl
theorem byteR24 : Try.prog.bytesOf 117 = 24 := by kernel_rfl
end
end Go.Proofs.Ytcnekfpgoceblaa
/-
  A packet that came in, by value.
-/
namespace Go.Proofs.Ytcnekfpgoceblaa
open Go.RowKit Go.ChangeShapes Go.WideShapes Go.Deep Go.Joins
set_option linter.unusedVariables false
theorem list5K {α : Type} {l : List α} (h : l.length = 5) : ∃ a b c d e, l = [a, b, c, d, e] := by
  match l, h with
  | [a, b, c, d, e], _ => exact ⟨a, b, c, d, e, rfl⟩
theorem cellK5 : Try.prog.cellsOf 43 = 5 := by kernel_rfl
theorem cellKi : Try.prog.cellsOf 3 = 1 := by kernel_rfl
theorem cellKu : Try.prog.cellsOf 41 = 1 := by kernel_rfl
theorem cellKb : Try.prog.cellsOf 4 = 1 := by kernel_rfl
theorem cellKs : Try.prog.cellsOf 33 = 1 := by kernel_rfl
/-- Bytes that came in. -/
theorem isRow_by {w : World} {a : Option Addr} {l c : Nat} {zs : List Int} (h : IsRow .u8 1 w a l c zs) : Rd .u8 w a (zs.take l).length (zs.take l) ∧ Dig 256 (zs.take l) ∧ (zs.take l).length = l ∧ l ≤ c ∧ l ≤ 140737488355328 := by
  have h1 := h.rd
  have h2 := h1.len
  exact ⟨by rw [h2]; exact h1, fun x hx => by have := bounds_u8 (h.wf x hx); omega, h2, h.nc.1, by have := h.nc.1; have := h.nc.2; omega⟩
set_option maxRecDepth 100000 in
theorem open_packet {H : Type} {enc : TypeId × Value → H} {w : World} {r : Reach} {b0 : Nat} {v : Value} {d : DataW H} {p : List MemPlace} (hv : Value.okWide Try.prog w r b0 43 v) (h : DataW.Trod enc Try.prog w 0 (fun _ => true) true 43 v d p) (hw : ∀ k ∈ d.weights Try.prog 43, k ≤ reachBytes) :
    ∃ m : Pkd, v = .agg #[.int .i64 m.f, .int .i64 m.t, .int .u64 m.q, .bool m.a, .slice m.A m.xs.length m.c] ∧ I64 m.f ∧ I64 m.t ∧ (0 ≤ m.q ∧ m.q < 18446744073709551616) ∧ Rd .u8 w m.A m.xs.length m.xs ∧ Dig 256 m.xs ∧ m.xs.length ≤ 140737488355328 := by
  obtain ⟨cs, rfl, hcs⟩ := okWide_struct Try.underlying43 hv
  rw [cellK5] at hcs
  obtain ⟨fuel, hf0⟩ := h
  have hf1 : DataW.trod enc Try.prog w 0 (fun _ => true) true fuel 43 cs.toList = some (d, p) := hf0
  obtain ⟨ys, n', -, hy, hlen, hyl, hf⟩ := DataW.trod_struct Try.underlying43 hf1
  obtain ⟨v0, v1, v2, v3, v4, hl⟩ := list5K (show cs.toList.length = 5 by simpa using hcs)
  obtain ⟨y0, y1, y2, y3, y4, rfl⟩ := list5K hyl
  rw [hl] at hf
  have e0 : DataW.trod enc Try.prog w 0 (fun _ => true) true n' 3 [v0] = some y0 := by
    have h1 : DataW.trod enc Try.prog w 0 (fun _ => true) true n' 3 (([v0, v1, v2, v3, v4].drop 0).take (Try.prog.cellsOf 3)) = some y0 := hf 0 _ rfl
    rw [cellKi] at h1
    exact h1
  have e1 : DataW.trod enc Try.prog w 0 (fun _ => true) true n' 3 [v1] = some y1 := by
    have h1 : DataW.trod enc Try.prog w 0 (fun _ => true) true n' 3 (([v0, v1, v2, v3, v4].drop 1).take (Try.prog.cellsOf 3)) = some y1 := hf 1 _ rfl
    rw [cellKi] at h1
    exact h1
  have e2 : DataW.trod enc Try.prog w 0 (fun _ => true) true n' 41 [v2] = some y2 := by
    have h1 : DataW.trod enc Try.prog w 0 (fun _ => true) true n' 41 (([v0, v1, v2, v3, v4].drop 2).take (Try.prog.cellsOf 41)) = some y2 := hf 2 _ rfl
    rw [cellKu] at h1
    exact h1
  have e3 : DataW.trod enc Try.prog w 0 (fun _ => true) true n' 4 [v3] = some y3 := by
    have h1 : DataW.trod enc Try.prog w 0 (fun _ => true) true n' 4 (([v0, v1, v2, v3, v4].drop 3).take (Try.prog.cellsOf 4)) = some y3 := hf 3 _ rfl
    rw [cellKb] at h1
    exact h1
  have e4 : DataW.trod enc Try.prog w 0 (fun _ => true) true n' 33 [v4] = some y4 := by
    have h1 : DataW.trod enc Try.prog w 0 (fun _ => true) true n' 33 (([v0, v1, v2, v3, v4].drop 4).take (Try.prog.cellsOf 33)) = some y4 := hf 4 _ rfl
    rw [cellKs] at h1
    exact h1
  have hd : d = .agg [y0.1, y1.1, y2.1, y3.1, y4.1] := by injection hy
  subst hd
  have hw' : ∀ k ∈ DataW.weightsEach Try.prog [3, 3, 41, 4, 33] [y0.1, y1.1, y2.1, y3.1, y4.1], k ≤ reachBytes := fun k hk => hw k (by
    simp only [DataW.weights, Try.underlying43]
    exact hk)
  obtain ⟨i0, q0, -, k0⟩ := DataW.trod_int Try.underlying3 e0
  obtain ⟨i1, q1, -, k1⟩ := DataW.trod_int Try.underlying3 e1
  obtain ⟨i2, q2, -, k2⟩ := DataW.trod_int Try.underlying41 e2
  obtain ⟨b3, q3, -⟩ := DataW.trod_bool Try.underlying4 e3
  injection q0 with q0
  injection q1 with q1
  injection q2 with q2
  injection q3 with q3
  subst q0 q1 q2 q3
  obtain ⟨A, l, c, zs, rfl, r4⟩ := field_bytes e4 fun k hk => hw' k (DataW.weights_mem_each (j := 4) rfl rfl k hk)
  obtain ⟨h1, h2, h3, h4, h5⟩ := isRow_by r4
  refine ⟨⟨i0, i1, i2, b3, A, c, zs.take l⟩, ?_, bounds_i64 k0, bounds_i64 k1, ⟨(bounds_u64 k2).1, Int.lt_of_le_of_lt (bounds_u64 k2).2 (by decide)⟩, h1, h2, by rw [h3]; exact h5⟩
  rw [h3]
  congr 1
  exact Array.toList_inj.1 hl
end Go.Proofs.Ytcnekfpgoceblaa
/-
  A message that came in, by value: its numbers, letters, proofs, texts, share. By program: genargm.py.
-/
namespace Go.Proofs.Ytcnekfpgoceblaa
open Go.RowKit Go.ChangeShapes Go.WideShapes Go.Deep Go.Joins
set_option linter.unusedVariables false
section
variable {H : Type} {enc : TypeId × Value → H} {w : World}
theorem cellsM2 : Try.prog.cellsOf 76 = 2 := by kernel_rfl
theorem bytesM2 : Try.prog.bytesOf 76 = 48 := by kernel_rfl
theorem cellMn : Try.prog.cellsOf 26 = 1 := by kernel_rfl
theorem list2M {α : Type} {l : List α} (h : l.length = 2) : ∃ a b, l = [a, b] := by
  match l, h with
  | [a, b], _ => exact ⟨a, b, rfl⟩
/-- One proof of a list. -/
theorem proof_row {n : Nat} {a : Addr} {cs : List Value} {x : DataW H × List MemPlace}
    (hc : w.cells? 0 a 2 = some cs) (ht : DataW.trod enc Try.prog w 0 (fun _ => true) true n 76 cs = some x) (hw : ∀ k ∈ x.1.weights Try.prog 76, k ≤ reachBytes) :
    ∃ s : Pf2, w.cell? (a.add 0) = some (.slice s.A1 s.n1 s.c1) ∧ w.cell? (a.add 1) = some (.slice s.A2 s.n2 s.c2) ∧ Nm w s.A1 s.n1 s.c1 s.E ∧ Nm w s.A2 s.n2 s.c2 s.Z := by
  obtain ⟨ys, n', -, hy, hlen, hyl, hf⟩ := DataW.trod_struct Try.underlying76 ht
  obtain ⟨_, hcl, hat⟩ := World.cells?_some hc
  obtain ⟨v0, v1, rfl⟩ := list2M hcl
  obtain ⟨y0, y1, rfl⟩ := list2M hyl
  have e0 : DataW.trod enc Try.prog w 0 (fun _ => true) true n' 26 [v0] = some y0 := by
    have h1 : DataW.trod enc Try.prog w 0 (fun _ => true) true n' 26 (([v0, v1].drop 0).take (Try.prog.cellsOf 26)) = some y0 := hf 0 _ rfl
    rw [cellMn] at h1
    exact h1
  have e1 : DataW.trod enc Try.prog w 0 (fun _ => true) true n' 26 [v1] = some y1 := by
    have h1 : DataW.trod enc Try.prog w 0 (fun _ => true) true n' 26 (([v0, v1].drop 1).take (Try.prog.cellsOf 26)) = some y1 := hf 1 _ rfl
    rw [cellMn] at h1
    exact h1
  have hw' : ∀ k ∈ DataW.weightsEach Try.prog [26, 26] [y0.1, y1.1], k ≤ reachBytes := fun k hk => hw k (by
    rw [hy]
    simp only [DataW.weights, Try.underlying76]
    exact hk)
  obtain ⟨a0, l0, k0, z0, rfl, r0⟩ := field_row e0 fun k hk => hw' k (DataW.weights_mem_each (j := 0) rfl rfl k hk)
  obtain ⟨a1, l1, k1, z1, rfl, r1⟩ := field_row e1 fun k hk => hw' k (DataW.weights_mem_each (j := 1) rfl rfl k hk)
  exact ⟨⟨a0, l0, k0, _, a1, l1, k1, _⟩, hat 0 (by omega), hat 1 (by omega), r0.told.nm, r1.told.nm⟩
instance : Inhabited Pf2 := ⟨⟨none, 0, 0, 0, none, 0, 0, 0⟩⟩
instance : Inhabited Psl := ⟨⟨none, 0, 0, fun _ => default⟩⟩
instance : Inhabited Txt := ⟨⟨none, 0, []⟩⟩
/-- A list of proofs that came in. -/
theorem open_pfl {fuel : Nat} {v : Value} {x : DataW H × List MemPlace} (h : DataW.trod enc Try.prog w 0 (fun _ => true) true fuel 60 [v] = some x) (hw : ∀ k ∈ x.1.weights Try.prog 60, k ≤ reachBytes) :
    ∃ a len cap S, v = .slice a len cap ∧ Pfs w a len cap S := by
  rcases open_slice Try.underlying60 h with ⟨hcs, _⟩ | ⟨a, len, cap, m, n, D, Pl, hcs, _, hl, hm, hmm, hx, hi⟩
  · injection hcs with hv
    exact ⟨none, 0, 0, fun _ => default, hv, ⟨Nat.le_refl _, by omega, fun h => absurd h (by omega), fun i h => absurd h (by omega)⟩⟩
  · injection hcs with hv
    rw [cellsM2] at hi
    obtain rfl : m = cap := by simpa using hmm
    rw [hx] at hw
    simp only [DataW.weights, Try.underlying60, bytesM2] at hw
    have hcap : m * 48 ≤ reachBytes := by
      have := hw _ (List.mem_cons.2 (.inl rfl))
      simp only [List.length_map, List.length_range] at this
      omega
    have each : ∀ i, i < len → ∃ s : Pf2, w.cell? ((a.add (i * 2)).add 0) = some (.slice s.A1 s.n1 s.c1) ∧ w.cell? ((a.add (i * 2)).add 1) = some (.slice s.A2 s.n2 s.c2) ∧ Nm w s.A1 s.n1 s.c1 s.E ∧ Nm w s.A2 s.n2 s.c2 s.Z := by
      intro i hil
      obtain ⟨cs', h1, h2⟩ := hi i (by omega)
      refine proof_row h1 h2 fun k hk => hw k (List.mem_cons.2 (.inr (List.mem_append.2 (.inl ?_))))
      exact all_mem (List.mem_map.2 ⟨i, List.mem_range.2 hil, rfl⟩) k hk
    obtain ⟨S, hS⟩ := choose_lt each
    refine ⟨some a, len, m, S, hv, ⟨hl, by simp only [reachBytes] at hcap; omega, fun hn => ?_, fun i hi => (hS i hi).2.2⟩⟩
    obtain ⟨b, off, spot⟩ := a
    have hspot : spot = none := by simpa [Addr.add] using World.cell?_spot (hS 0 hn).1
    subst hspot
    simp only [add_off] at hS
    exact ⟨b, off, rfl, block_lt_of_cell (hS 0 hn).1, fun i hi => ⟨(hS i hi).1, (hS i hi).2.1⟩⟩
theorem cellMl : Try.prog.cellsOf 60 = 1 := by kernel_rfl
theorem byteMl : Try.prog.bytesOf 60 = 24 := by kernel_rfl
theorem open_pba {fuel : Nat} {v : Value} {x : DataW H × List MemPlace} (h : DataW.trod enc Try.prog w 0 (fun _ => true) true fuel 23 [v] = some x) (hw : ∀ k ∈ x.1.weights Try.prog 23, k ≤ reachBytes) :
    ∃ a len cap S, v = .slice a len cap ∧ Pba w a len cap S := by
  rcases open_slice1 Try.underlying23 cellMl h with ⟨hcs, _⟩ | ⟨a, len, cap, m, n, V, D, Pl, hcs, _, hl, hm, hmm, hx, hi⟩
  · injection hcs with hv
    exact ⟨none, 0, 0, fun _ => default, hv, ⟨Nat.le_refl _, by omega, fun h => absurd h (by omega), fun i h => absurd h (by omega)⟩⟩
  · injection hcs with hv
    obtain rfl : m = cap := by simpa using hmm
    rw [hx] at hw
    simp only [DataW.weights, Try.underlying23, byteMl] at hw
    have hcap : m * 24 ≤ reachBytes := by
      have := hw _ (List.mem_cons.2 (.inl rfl))
      simp only [List.length_map, List.length_range] at this
      omega
    have each : ∀ i, i < len → ∃ s : Psl, w.cell? (a.add i) = some (.slice s.A s.n s.c) ∧ Pfs w s.A s.n s.c s.S := by
      intro i hil
      obtain ⟨h1, h2⟩ := hi i (by omega)
      have hwi := fun k hk => hw k (List.mem_cons.2 (.inr (List.mem_append.2 (.inl (all_mem (List.mem_map.2 ⟨i, List.mem_range.2 hil, rfl⟩) k hk)))))
      obtain ⟨Ai, ni, ci, Si, hV, hr⟩ := open_pfl h2 hwi
      exact ⟨⟨Ai, ni, ci, Si⟩, by rw [h1, hV], hr⟩
    obtain ⟨S, hS⟩ := choose_lt each
    refine ⟨some a, len, m, S, hv, ⟨hl, by simp only [reachBytes] at hcap; omega, fun hn => ?_, fun i hi => (hS i hi).2⟩⟩
    obtain ⟨b, off, spot⟩ := a
    have hspot : spot = none := by simpa [Addr.add] using World.cell?_spot (hS 0 hn).1
    subst hspot
    simp only [add_off] at hS
    exact ⟨b, off, rfl, block_lt_of_cell (hS 0 hn).1, fun i hi => (hS i hi).1⟩
theorem cellMt : Try.prog.cellsOf 33 = 1 := by kernel_rfl
theorem byteMt : Try.prog.bytesOf 33 = 24 := by kernel_rfl
/-- Texts that came in. -/
theorem open_texts {fuel : Nat} {v : Value} {x : DataW H × List MemPlace} (h : DataW.trod enc Try.prog w 0 (fun _ => true) true fuel 24 [v] = some x) (hw : ∀ k ∈ x.1.weights Try.prog 24, k ≤ reachBytes) :
    ∃ a len cap S, v = .slice a len cap ∧ Txs w a len cap S ∧ ∀ i, i < len → (S i).xs.length ≤ 140737488355328 := by
  rcases open_slice1 Try.underlying24 cellMt h with ⟨hcs, _⟩ | ⟨a, len, cap, m, n, V, D, Pl, hcs, _, hl, hm, hmm, hx, hi⟩
  · injection hcs with hv
    exact ⟨none, 0, 0, fun _ => default, hv, ⟨Nat.le_refl _, by omega, fun h => absurd h (by omega), fun i h => absurd h (by omega)⟩, fun i h => absurd h (by omega)⟩
  · injection hcs with hv
    obtain rfl : m = cap := by simpa using hmm
    rw [hx] at hw
    simp only [DataW.weights, Try.underlying24, byteMt] at hw
    have hcap : m * 24 ≤ reachBytes := by
      have := hw _ (List.mem_cons.2 (.inl rfl))
      simp only [List.length_map, List.length_range] at this
      omega
    have each : ∀ i, i < len → ∃ s : Txt, w.cell? (a.add i) = some (.slice s.A s.xs.length s.c) ∧ (Rd .u8 w s.A s.xs.length s.xs ∧ Dig 256 s.xs) ∧ s.xs.length ≤ 140737488355328 := by
      intro i hil
      obtain ⟨h1, h2⟩ := hi i (by omega)
      obtain ⟨Ai, ni, ci, zs, hV, hr⟩ := field_bytes h2 fun k hk => hw k (List.mem_cons.2 (.inr (List.mem_append.2 (.inl (all_mem (List.mem_map.2 ⟨i, List.mem_range.2 hil, rfl⟩) k hk)))))
      obtain ⟨k1, k2, k3, k4, k5⟩ := isRow_by hr
      exact ⟨⟨Ai, ci, zs.take ni⟩, by rw [h1, hV]; show some (Value.slice Ai ni ci) = some (Value.slice Ai (zs.take ni).length ci); rw [k3], ⟨k1, k2⟩, by show (zs.take ni).length ≤ _; rw [k3]; exact k5⟩
    obtain ⟨S, hS⟩ := choose_lt each
    refine ⟨some a, len, m, S, hv, ⟨hl, by simp only [reachBytes] at hcap; omega, fun hn => ?_, fun i hi => (hS i hi).2.1⟩, fun i hi => (hS i hi).2.2⟩
    obtain ⟨b, off, spot⟩ := a
    have hspot : spot = none := by simpa [Addr.add] using World.cell?_spot (hS 0 hn).1
    subst hspot
    simp only [add_off] at hS
    exact ⟨b, off, rfl, block_lt_of_cell (hS 0 hn).1, fun i hi => (hS i hi).1⟩
theorem list12M {α : Type} {l : List α} (h : l.length = 12) : ∃ a b c d e f g i j k m n, l = [a, b, c, d, e, f, g, i, j, k, m, n] := by
  match l, h with
  | [a, b, c, d, e, f, g, i, j, k, m, n], _ => exact ⟨a, b, c, d, e, f, g, i, j, k, m, n, rfl⟩
theorem list11M {α : Type} {l : List α} (h : l.length = 11) : ∃ a b c d e f g i j k m, l = [a, b, c, d, e, f, g, i, j, k, m] := by
  match l, h with
  | [a, b, c, d, e, f, g, i, j, k, m], _ => exact ⟨a, b, c, d, e, f, g, i, j, k, m, rfl⟩
theorem cellM12 : Try.prog.cellsOf 30 = 12 := by kernel_rfl
theorem cellMb : Try.prog.cellsOf 22 = 1 := by kernel_rfl
theorem cellMp : Try.prog.cellsOf 23 = 1 := by kernel_rfl
theorem cellMx : Try.prog.cellsOf 24 = 1 := by kernel_rfl
theorem cellMs : Try.prog.cellsOf 28 = 2 := by kernel_rfl
set_option maxRecDepth 100000 in
theorem open_msg {r : Reach} {b0 : Nat} {v : Value} {d : DataW H} {p : List MemPlace} (hv : Value.okWide Try.prog w r b0 30 v) (h : DataW.Trod enc Try.prog w 0 (fun _ => true) true 30 v d p) (hw : ∀ k ∈ d.weights Try.prog 30, k ≤ reachBytes) :
    ∃ m : Mgd, v = .agg #[.int .i64 m.k, .int .i64 m.g, .int .i64 m.l, .int .i64 m.p, .int .i64 m.s, .int .i64 m.u, .bool m.ok, .slice m.Ab m.nb m.cb, .slice m.Ap m.np m.cp, .slice m.At m.nt m.ct, .int .i64 m.i, .slice m.Av m.nv m.cv] ∧ Mg w m ∧ m.Int ∧ ∀ i, i < m.nt → (m.T i).xs.length ≤ 4611686018427387904 := by
  obtain ⟨cs, rfl, hcs⟩ := okWide_struct Try.underlying30 hv
  rw [cellM12] at hcs
  obtain ⟨fuel, hf0⟩ := h
  have hf1 : DataW.trod enc Try.prog w 0 (fun _ => true) true fuel 30 cs.toList = some (d, p) := hf0
  obtain ⟨ys, n', -, hy, hlen, hyl, hf⟩ := DataW.trod_struct Try.underlying30 hf1
  obtain ⟨v0, v1, v2, v3, v4, v5, v6, v7, v8, v9, v10, v11, hl⟩ := list12M (show cs.toList.length = 12 by simpa using hcs)
  obtain ⟨y0, y1, y2, y3, y4, y5, y6, y7, y8, y9, y10, rfl⟩ := list11M hyl
  rw [hl] at hf
  have e0 : DataW.trod enc Try.prog w 0 (fun _ => true) true n' 3 [v0] = some y0 := by
    have h1 : DataW.trod enc Try.prog w 0 (fun _ => true) true n' 3 (([v0, v1, v2, v3, v4, v5, v6, v7, v8, v9, v10, v11].drop 0).take (Try.prog.cellsOf 3)) = some y0 := hf 0 _ rfl
    rw [cellKi] at h1
    exact h1
  have e1 : DataW.trod enc Try.prog w 0 (fun _ => true) true n' 3 [v1] = some y1 := by
    have h1 : DataW.trod enc Try.prog w 0 (fun _ => true) true n' 3 (([v0, v1, v2, v3, v4, v5, v6, v7, v8, v9, v10, v11].drop 1).take (Try.prog.cellsOf 3)) = some y1 := hf 1 _ rfl
    rw [cellKi] at h1
    exact h1
  have e2 : DataW.trod enc Try.prog w 0 (fun _ => true) true n' 3 [v2] = some y2 := by
    have h1 : DataW.trod enc Try.prog w 0 (fun _ => true) true n' 3 (([v0, v1, v2, v3, v4, v5, v6, v7, v8, v9, v10, v11].drop 2).take (Try.prog.cellsOf 3)) = some y2 := hf 2 _ rfl
    rw [cellKi] at h1
    exact h1
  have e3 : DataW.trod enc Try.prog w 0 (fun _ => true) true n' 3 [v3] = some y3 := by
    have h1 : DataW.trod enc Try.prog w 0 (fun _ => true) true n' 3 (([v0, v1, v2, v3, v4, v5, v6, v7, v8, v9, v10, v11].drop 3).take (Try.prog.cellsOf 3)) = some y3 := hf 3 _ rfl
    rw [cellKi] at h1
    exact h1
  have e4 : DataW.trod enc Try.prog w 0 (fun _ => true) true n' 3 [v4] = some y4 := by
    have h1 : DataW.trod enc Try.prog w 0 (fun _ => true) true n' 3 (([v0, v1, v2, v3, v4, v5, v6, v7, v8, v9, v10, v11].drop 4).take (Try.prog.cellsOf 3)) = some y4 := hf 4 _ rfl
    rw [cellKi] at h1
    exact h1
  have e5 : DataW.trod enc Try.prog w 0 (fun _ => true) true n' 3 [v5] = some y5 := by
    have h1 : DataW.trod enc Try.prog w 0 (fun _ => true) true n' 3 (([v0, v1, v2, v3, v4, v5, v6, v7, v8, v9, v10, v11].drop 5).take (Try.prog.cellsOf 3)) = some y5 := hf 5 _ rfl
    rw [cellKi] at h1
    exact h1
  have e6 : DataW.trod enc Try.prog w 0 (fun _ => true) true n' 4 [v6] = some y6 := by
    have h1 : DataW.trod enc Try.prog w 0 (fun _ => true) true n' 4 (([v0, v1, v2, v3, v4, v5, v6, v7, v8, v9, v10, v11].drop 6).take (Try.prog.cellsOf 4)) = some y6 := hf 6 _ rfl
    rw [cellKb] at h1
    exact h1
  have e7 : DataW.trod enc Try.prog w 0 (fun _ => true) true n' 22 [v7] = some y7 := by
    have h1 : DataW.trod enc Try.prog w 0 (fun _ => true) true n' 22 (([v0, v1, v2, v3, v4, v5, v6, v7, v8, v9, v10, v11].drop 7).take (Try.prog.cellsOf 22)) = some y7 := hf 7 _ rfl
    rw [cellMb] at h1
    exact h1
  have e8 : DataW.trod enc Try.prog w 0 (fun _ => true) true n' 23 [v8] = some y8 := by
    have h1 : DataW.trod enc Try.prog w 0 (fun _ => true) true n' 23 (([v0, v1, v2, v3, v4, v5, v6, v7, v8, v9, v10, v11].drop 8).take (Try.prog.cellsOf 23)) = some y8 := hf 8 _ rfl
    rw [cellMp] at h1
    exact h1
  have e9 : DataW.trod enc Try.prog w 0 (fun _ => true) true n' 24 [v9] = some y9 := by
    have h1 : DataW.trod enc Try.prog w 0 (fun _ => true) true n' 24 (([v0, v1, v2, v3, v4, v5, v6, v7, v8, v9, v10, v11].drop 9).take (Try.prog.cellsOf 24)) = some y9 := hf 9 _ rfl
    rw [cellMx] at h1
    exact h1
  have e10 : DataW.trod enc Try.prog w 0 (fun _ => true) true n' 28 [v10, v11] = some y10 := by
    have h1 : DataW.trod enc Try.prog w 0 (fun _ => true) true n' 28 (([v0, v1, v2, v3, v4, v5, v6, v7, v8, v9, v10, v11].drop 10).take (Try.prog.cellsOf 28)) = some y10 := hf 10 _ rfl
    rw [cellMs] at h1
    exact h1
  have hd : d = .agg [y0.1, y1.1, y2.1, y3.1, y4.1, y5.1, y6.1, y7.1, y8.1, y9.1, y10.1] := by injection hy
  subst hd
  have hw' : ∀ k ∈ DataW.weightsEach Try.prog [3, 3, 3, 3, 3, 3, 4, 22, 23, 24, 28] [y0.1, y1.1, y2.1, y3.1, y4.1, y5.1, y6.1, y7.1, y8.1, y9.1, y10.1], k ≤ reachBytes := fun k hk => hw k (by
    simp only [DataW.weights, Try.underlying30]
    exact hk)
  obtain ⟨i0, q0, -, k0⟩ := DataW.trod_int Try.underlying3 e0
  injection q0 with q0
  subst q0
  obtain ⟨i1, q1, -, k1⟩ := DataW.trod_int Try.underlying3 e1
  injection q1 with q1
  subst q1
  obtain ⟨i2, q2, -, k2⟩ := DataW.trod_int Try.underlying3 e2
  injection q2 with q2
  subst q2
  obtain ⟨i3, q3, -, k3⟩ := DataW.trod_int Try.underlying3 e3
  injection q3 with q3
  subst q3
  obtain ⟨i4, q4, -, k4⟩ := DataW.trod_int Try.underlying3 e4
  injection q4 with q4
  subst q4
  obtain ⟨i5, q5, -, k5⟩ := DataW.trod_int Try.underlying3 e5
  injection q5 with q5
  subst q5
  obtain ⟨b6, q6, -⟩ := DataW.trod_bool Try.underlying4 e6
  injection q6 with q6
  subst q6
  obtain ⟨Ab, nb, cb, B, rfl, hB, -⟩ := open_batch e7 fun k hk => hw' k (DataW.weights_mem_each (j := 7) rfl rfl k hk)
  obtain ⟨Ap, np, cp, P, rfl, hP⟩ := open_pba e8 fun k hk => hw' k (DataW.weights_mem_each (j := 8) rfl rfl k hk)
  obtain ⟨At, nt, ct, T, rfl, hT, hTl⟩ := open_texts e9 fun k hk => hw' k (DataW.weights_mem_each (j := 9) rfl rfl k hk)
  obtain ⟨zs, n2, -, hz, -, hzl, hg⟩ := DataW.trod_struct Try.underlying28 e10
  obtain ⟨z0, z1, rfl⟩ := list2M hzl
  have g0 : DataW.trod enc Try.prog w 0 (fun _ => true) true n2 3 [v10] = some z0 := by
    have h1 : DataW.trod enc Try.prog w 0 (fun _ => true) true n2 3 (([v10, v11].drop 0).take (Try.prog.cellsOf 3)) = some z0 := hg 0 _ rfl
    rw [cellKi] at h1
    exact h1
  have g1 : DataW.trod enc Try.prog w 0 (fun _ => true) true n2 26 [v11] = some z1 := by
    have h1 : DataW.trod enc Try.prog w 0 (fun _ => true) true n2 26 (([v10, v11].drop 1).take (Try.prog.cellsOf 26)) = some z1 := hg 1 _ rfl
    rw [cellMn] at h1
    exact h1
  obtain ⟨i10, q10, -, k10⟩ := DataW.trod_int Try.underlying3 g0
  injection q10 with q10
  subst q10
  have hw2 : ∀ k ∈ DataW.weightsEach Try.prog [3, 26] [z0.1, z1.1], k ≤ reachBytes := fun k hk => hw' k (DataW.weights_mem_each (j := 10) (t := 28) (d := y10.1) rfl rfl k (by
    rw [hz]
    simp only [DataW.weights, Try.underlying28]
    exact hk))
  obtain ⟨Av, nv, cv, zv, rfl, rv⟩ := field_row g1 fun k hk => hw2 k (DataW.weights_mem_each (j := 1) rfl rfl k hk)
  refine ⟨⟨i0, i1, i2, i3, i4, i5, b6, Ab, nb, cb, B, Ap, np, cp, P, At, nt, ct, T, i10, Av, nv, cv, _⟩, ?_, ⟨hB, hP, hT, rv.told.nm⟩, ⟨bounds_i64 k0, bounds_i64 k1, bounds_i64 k2, bounds_i64 k3, bounds_i64 k4, bounds_i64 k5, bounds_i64 k10⟩, fun i hi => Nat.le_trans (hTl i hi) (by decide)⟩
  congr 1
  exact Array.toList_inj.1 hl
end
end Go.Proofs.Ytcnekfpgoceblaa
