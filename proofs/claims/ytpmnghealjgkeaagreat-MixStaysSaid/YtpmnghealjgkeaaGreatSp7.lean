/-
  What a sequence makes of a pair: pair, as it is.
-/
import Derived.Test.YtpmnghealjgkeaaGreatSo
import Derived.Test.YtpmnghealjgkeaaGreatMxx
namespace Go.Proofs.YtpmnghealjgkeaaGreat
open Go.RowKit
set_option linter.unusedVariables false
/-- A pair that was made: in new memory, told without noughts. -/
structure PrO (w : World) (base : Nat) (s : Stp) (T : Trp) : Prop where
  p : Cn w s.A1 s.n1 s.c1 s.P
  q : Cn w s.A2 s.n2 s.c2 s.Q
  a : Cn w s.A3 s.n3 s.c3 s.A
  tr : Trp.of s = T
  n1 : ∀ a, s.A1 = some a → base ≤ a.block
  n2 : ∀ a, s.A2 = some a → base ≤ a.block
  n3 : ∀ a, s.A3 = some a → base ≤ a.block
def agS (s : Stp) : Value := .agg #[.slice s.A1 s.n1 s.c1, .slice s.A2 s.n2 s.c2, .slice s.A3 s.n3 s.c3]
/-- What is made of a pair. -/
def PairP (r b : Nat) (q' : Bool) (T : Trp) (w : World) (e : Ending) (w' : World) : Prop :=
  ∃ s : Stp, e = .returned (.agg #[.slice s.A1 s.n1 s.c1, .slice s.A2 s.n2 s.c2, .slice s.A3 s.n3 s.c3]) ∧ (q' = false → PrO w' w.heap.size s T) ∧ Sq w' r b q' ∧ Bo r w w'
theorem ex_bool (p : Prop) : ∃ q : Bool, q = true ↔ p := by
  by_cases h : p
  · exact ⟨true, by simp [h]⟩
  · exact ⟨false, by simp [h]⟩
theorem PrO.bo {r : Nat} {w w' : World} {base : Nat} {s : Stp} {T : Trp} (h : PrO w base s T) (hb : Bo r w w') (hr : r < base) : PrO w' base s T :=
  ⟨hb.cn h.p (fun a ha => by have := h.n1 a ha; omega), hb.cn h.q (fun a ha => by have := h.n2 a ha; omega), hb.cn h.a (fun a ha => by have := h.n3 a ha; omega), h.tr, h.n1, h.n2, h.n3⟩
/-- Three cells of a block of their own. -/
theorem three_row {w : World} {g : Nat} {t : TypeId} {a b c x y z : Value} (hg : w.heap[g]? = some (.cells #[a, b, c] t (0, 0))) :
    (((w.setCell ⟨g, 0, none⟩ x).setCell ⟨g, 1, none⟩ y).setCell ⟨g, 2, none⟩ z).heap[g]? = some (.cells #[x, y, z] t (0, 0)) := by
  have h1 := heap_setCell_same w g 0 _ _ x hg
  have h2 := heap_setCell_same _ g 1 _ _ y h1
  have h3 := heap_setCell_same _ g 2 _ _ z h2
  exact h3
theorem three_cell {w : World} {g k o : Nat} {x y z : Value} (h : k ≠ g) : (((w.setCell ⟨g, 0, none⟩ x).setCell ⟨g, 1, none⟩ y).setCell ⟨g, 2, none⟩ z).cell? ⟨k, o, none⟩ = w.cell? ⟨k, o, none⟩ :=
  World.cell?_of_block (by rw [heap_setCell_other _ _ k _ h, heap_setCell_other _ _ k _ h, heap_setCell_other _ _ k _ h])
theorem Bo.set_new {r : Nat} {w w' : World} (h : Bo r w w') {g : Nat} (hg : w.heap.size ≤ g) (i : Nat) (v : Value) : Bo r w (w'.setCell ⟨g, i, none⟩ v) :=
  ⟨h.os, h.tape, h.output, by simpa using h.size, fun k hk hb => (heap_setCell_other w' _ k v (by show k ≠ g; omega)).trans (h.block k hk hb)⟩
theorem Bo.three {r : Nat} {w w' : World} (h : Bo r w w') {g : Nat} (hg : w.heap.size ≤ g) (x y z : Value) : Bo r w (((w'.setCell ⟨g, 0, none⟩ x).setCell ⟨g, 1, none⟩ y).setCell ⟨g, 2, none⟩ z) :=
  ((h.set_new hg 0 x).set_new hg 1 y).set_new hg 2 z
theorem Cn.other {w : World} {g i : Nat} {v : Value} {A : Option Addr} {n c : Nat} {N : Int} (h : Cn w A n c N) (hx : ∀ a, A = some a → a.block ≠ g) : Cn (w.setCell ⟨g, i, none⟩ v) A n c N := (Bo.set g i w v).cn h hx
theorem Cn.three {w : World} {g : Nat} {x y z : Value} {A : Option Addr} {n c : Nat} {N : Int} (h : Cn w A n c N) (hx : ∀ a, A = some a → a.block ≠ g) : Cn (((w.setCell ⟨g, 0, none⟩ x).setCell ⟨g, 1, none⟩ y).setCell ⟨g, 2, none⟩ z) A n c N := ((h.other hx).other hx).other hx
theorem Sq.three {w : World} {r b g : Nat} {q : Bool} {x y z : Value} (h : Sq w r b q) (hx : r ≠ g) : Sq (((w.setCell ⟨g, 0, none⟩ x).setCell ⟨g, 1, none⟩ y).setCell ⟨g, 2, none⟩ z) r b q :=
  ⟨by simpa using h.lt, by rw [heap_setCell_other _ _ r _ hx, heap_setCell_other _ _ r _ hx, heap_setCell_other _ _ r _ hx]; exact h.row⟩
theorem sizePair : (Tryz.prog.info? 61).map (·.size) = some 3 := by kernel_rfl
theorem pairP_end {w w5 : World} {r b g : Nat} {q' : Bool} {T : Trp} (s : Stp) (hB : Bo r w w5) (hg : w.heap.size ≤ g) (hr : r < g) (hS : Sq w5 r b q')
    (h : q' = false → Cn w5 s.A1 s.n1 s.c1 s.P ∧ Cn w5 s.A2 s.n2 s.c2 s.Q ∧ Cn w5 s.A3 s.n3 s.c3 s.A ∧ Trp.of s = T)
    (h1 : q' = false → ∀ a, s.A1 = some a → w.heap.size ≤ a.block ∧ a.block ≠ g) (h2 : q' = false → ∀ a, s.A2 = some a → w.heap.size ≤ a.block ∧ a.block ≠ g) (h3 : q' = false → ∀ a, s.A3 = some a → w.heap.size ≤ a.block ∧ a.block ≠ g) :
    PairP r b q' T w (.returned (.agg #[.slice s.A1 s.n1 s.c1, .slice s.A2 s.n2 s.c2, .slice s.A3 s.n3 s.c3])) (((w5.setCell ⟨g, 0, none⟩ (.slice s.A1 s.n1 s.c1)).setCell ⟨g, 1, none⟩ (.slice s.A2 s.n2 s.c2)).setCell ⟨g, 2, none⟩ (.slice s.A3 s.n3 s.c3)) :=
  ⟨s, rfl, fun e => by
    obtain ⟨e1, e2, e3, e4⟩ := h e
    exact ⟨e1.three (fun a ha => (h1 e a ha).2), e2.three (fun a ha => (h2 e a ha).2), e3.three (fun a ha => (h3 e a ha).2), e4, fun a ha => (h1 e a ha).1, fun a ha => (h2 e a ha).1, fun a ha => (h3 e a ha).1⟩, hS.three (by omega), hB.three hg _ _ _⟩
section
variable {w w0 : World} {b r : Nat} {d : Gd} {q q' : Bool} {A1 A2 A3 : Option Addr} {n1 c1 n2 c2 n3 c3 : Nat} {X Y Z : Int}
set_option maxHeartbeats 4000000 in
set_option maxRecDepth 100000 in
theorem pair_q (h : Sq w r b q) (hb : Below w0.heap.size w0 w) (h0 : w0.heap.size ≤ r) (hg : Gr w0 b d) (h1 : Nm w0 A1 n1 c1 X) (h2 : Nm w0 A2 n2 c2 Y) (h3 : Nm w0 A3 n3 c3 Z) (hq : q' = true ↔ q = true ∨ ¬ ElT d.P d.Q ⟨X, Y, Z⟩) :
    Calls Tryz.prog 67 #[.pointer (some ⟨r, 0, none⟩), .agg #[.slice A1 n1 c1, .slice A2 n2 c2, .slice A3 n3 c3]] w (PairP r b q' ⟨X, Y, Z⟩ w) := by
  obtain ⟨qa, ha⟩ := ex_bool (q = true ∨ ¬ El d.P d.Q X)
  obtain ⟨qb, hqb⟩ := ex_bool (qa = true ∨ ¬ El d.P d.Q Y)
  have hqc : q' = true ↔ qb = true ∨ ¬ El d.P d.Q Z := by
    rw [hq, hqb, ha]
    constructor
    · rintro (g | g)
      · exact .inl (.inl (.inl g))
      · by_cases g1 : El d.P d.Q X
        · by_cases g2 : El d.P d.Q Y
          · exact .inr fun g3 => g ⟨g1, g2, g3⟩
          · exact .inl (.inr g2)
        · exact .inl (.inl (.inr g1))
    · rintro (((g | g) | g) | g)
      · exact .inl g
      · exact .inr fun k => g k.a
      · exact .inr fun k => g k.b
      · exact .inr fun k => g k.c
  have hf1 : q' = false → qb = false := fun g => by cases qb with | false => rfl | true => rw [hqc.2 (.inl rfl)] at g; cases g
  have hf2 : qb = false → qa = false := fun g => by cases qa with | false => rfl | true => rw [hqb.2 (.inl rfl)] at g; cases g
  obtain ⟨s, hs⟩ : ∃ s, w.heap.size = s := ⟨_, rfl⟩
  obtain ⟨W2, hW⟩ : ∃ W2, W2 = (w.alloc (.cells #[.slice A1 n1 c1, .slice A2 n2 c2, .slice A3 n3 c3] 61)).alloc (.cells #[.slice none 0 0, .slice none 0 0, .slice none 0 0] 61) := ⟨_, rfl⟩
  have b2 : Below w.heap.size w W2 := by rw [hW]; exact ((Below.refl _ _).alloc (Nat.le_refl _) _).alloc (by simp) _
  have k0 : W2.cell? ⟨s, 0, none⟩ = some (.slice A1 n1 c1) := by rw [hW, ← hs, World.cell?_alloc_past _ _ _ (by simp), World.cell?_alloc_at _ _ _ _ rfl]; rfl
  have k1 : W2.cell? ⟨s, 1, none⟩ = some (.slice A2 n2 c2) := by rw [hW, ← hs, World.cell?_alloc_past _ _ _ (by simp), World.cell?_alloc_at _ _ _ _ rfl]; rfl
  have k2 : W2.cell? ⟨s, 2, none⟩ = some (.slice A3 n3 c3) := by rw [hW, ← hs, World.cell?_alloc_past _ _ _ (by simp), World.cell?_alloc_at _ _ _ _ rfl]; rfl
  have row : W2.heap[s + 1]? = some (.cells #[.slice none 0 0, .slice none 0 0, .slice none 0 0] 61 (0, 0)) := by rw [hW, ← hs]; exact heap_alloc2_new w _ _
  have sz2 : W2.heap.size = s + 2 := by rw [hW, ← hs]; simp
  have rl : r < s := by rw [← hs]; exact h.lt
  have hall : ∀ W', Bo r W2 W' → Below w0.heap.size w0 W' ∧ (W'.cell? ⟨s, 0, none⟩ = some (.slice A1 n1 c1) ∧ W'.cell? ⟨s, 1, none⟩ = some (.slice A2 n2 c2) ∧ W'.cell? ⟨s, 2, none⟩ = some (.slice A3 n3 c3)) ∧ W'.heap[s + 1]? = some (.cells #[.slice none 0 0, .slice none 0 0, .slice none 0 0] 61 (0, 0)) := fun W' k =>
    ⟨k.below (hb.trans (b2.mono hb.size)) h0, ⟨(k.cell (p := ⟨s, 0, none⟩) (show s < _ by omega) (show s ≠ r by omega)).trans k0, (k.cell (p := ⟨s, 1, none⟩) (show s < _ by omega) (show s ≠ r by omega)).trans k1, (k.cell (p := ⟨s, 2, none⟩) (show s < _ by omega) (show s ≠ r by omega)).trans k2⟩, (k.block (s + 1) (by omega) (by omega)).trans row⟩
  have HALL := Lib.hid hall
  have HS := Lib.hid ((h.below b2).below (Below.refl _ _).drew)
  have HG := Lib.hid hg
  have H1 := Lib.hid h1
  have H2 := Lib.hid h2
  have H3 := Lib.hid h3
  have HA := Lib.hid ha
  have HQB := Lib.hid hqb
  have HQC := Lib.hid hqc
  have HF1 := Lib.hid hf1
  have HF2 := Lib.hid hf2
  have BD := Lib.hid (Bo.of r (Below.refl W2.heap.size W2).drew)
  have B2 := Lib.hid (Bo.of r b2)
  have HSS := Lib.hid hs
  have HSZ := Lib.hid sz2
  have kA := (hall W2 (Bo.refl _ _)).2.1
  have e0 : W2.drew.heap.size = s + 2 := sz2
  have E0 := Lib.hid e0
  clear h hb h1 h2 h3 hg hq ha hqb hqc hf1 hf2 hall k0 k1 k2 row sz2 b2 e0
  go_enter Tryz.func67, Tryz.ntmps67
  go_wp2_with fail
  rw [← hW]
  try rw [hs]
  clear hW hs
  go_region_held3 (fun w' => w'.cell? ⟨s, 0, none⟩ = some (.slice A1 n1 c1) ∧ w'.cell? ⟨s, 1, none⟩ = some (.slice A2 n2 c2) ∧ w'.cell? ⟨s, 2, none⟩ = some (.slice A3 n3 c3)) (first | exact kA | exact kB | exact kC | exact kD | go_keep | assumption)
    (first
    | (go_at_call 90; (with_reducible refine (element_q HS.out (HG.out.below (HALL.out _ BD.out).1) (fun _ => H1.out.below (HALL.out _ BD.out).1) HA.out).mono ?_); rintro e w3 ⟨B1, m1, d1, rfl, hc1, hn1, hs1, hb1⟩; have BO3 := Lib.hid (BD.out.trans hb1); have kB := (HALL.out _ BO3.out).2.1; have C1 := Lib.hid hc1; have N1 := Lib.hid hn1; have HS3 := Lib.hid hs1; clear hc1 hn1 hs1 hb1)
    | (go_at_call 90; (with_reducible refine (element_q HS3.out (HG.out.below (HALL.out _ BO3.out).1) (fun _ => H2.out.below (HALL.out _ BO3.out).1) HQB.out).mono ?_); rintro e w4 ⟨B2', m2, d2, rfl, hc2, hn2, hs2, hb2⟩; have BO4 := Lib.hid (BO3.out.trans hb2); have kC := (HALL.out _ BO4.out).2.1; have C2 := Lib.hid hc2; have N2 := Lib.hid hn2; have HS4 := Lib.hid hs2; have HB34 := Lib.hid hb2; clear hc2 hn2 hs2 hb2)
    | (go_at_call 90; (with_reducible refine (element_q HS4.out (HG.out.below (HALL.out _ BO4.out).1) (fun _ => H3.out.below (HALL.out _ BO4.out).1) HQC.out).mono ?_); rintro e w5 ⟨B3', m3, d3, rfl, hc3, hn3, hs3, hb3⟩; have BO5 := Lib.hid (BO4.out.trans hb3); have kD := (HALL.out _ BO5.out).2.1; have C3 := Lib.hid hc3; have N3 := Lib.hid hn3; have HS5 := Lib.hid hs3; have HB45 := Lib.hid hb3; have R5 := Lib.hid (HALL.out _ BO5.out).2.2; have x0 := (cell_of_row w5 (s + 1) 0 _ _ _ R5.out); have x1 := (cell_of_row w5 (s + 1) 1 _ _ _ R5.out); have x2 := (cell_of_row w5 (s + 1) 2 _ _ _ R5.out); have f0 := frozen_of_row w5 (s + 1) 0 _ _ R5.out; have f1 := frozen_of_row w5 (s + 1) 1 _ _ R5.out; have f2 := frozen_of_row w5 (s + 1) 2 _ _ R5.out; clear hc3 hn3 hs3 hb3))
  all_goals
    go_wp2_with fail
    refine bodyPost_ret (v := .agg #[.slice B1 m1 d1, .slice B2' m2 d2, .slice B3' m3 d3]) (results_cell_row Tryz.results67 _ _ (s + 1) _ _ _ _ rfl (three_row R5.out) Tryz.underlying61 rfl sizePair) rfl ?_
    have e0 := E0.out
    have es := HSS.out
    have sz3 := BO3.out.size
    have sz4 := HB34.out.size
    have sz2 := HSZ.out
    refine pairP_end ⟨B1, m1, d1, B2', m2, d2, B3', m3, d3, X, Y, Z⟩ (B2.out.trans BO5.out) (by omega) (by omega) HS5.out (fun g => ?_) (fun _ a ha => by have := N1.out a ha; omega) (fun _ a ha => by have := N2.out a ha; omega) (fun _ a ha => by have := N3.out a ha; omega)
    have gb := HF1.out g
    have ga := HF2.out gb
    exact ⟨HB45.out.cn (HB34.out.cn (C1.out ga) (fun a ha => by have := N1.out a ha; omega)) (fun a ha => by have := N1.out a ha; omega), HB45.out.cn (C2.out gb) (fun a ha => by have := N2.out a ha; omega), C3.out g, rfl⟩
end
end Go.Proofs.YtpmnghealjgkeaaGreat
