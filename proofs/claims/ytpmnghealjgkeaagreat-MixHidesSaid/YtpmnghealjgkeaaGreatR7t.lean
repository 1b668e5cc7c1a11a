/-
  The document's layer 7: what told answers.
-/
import Derived.Test.YtpmnghealjgkeaaGreatR7b
import Derived.Test.YtpmnghealjgkeaaGreatDoc
import Derived.Deep.RegionLaw
import Derived.Laws.Tables
namespace Go.Proofs.YtpmnghealjgkeaaGreat
open Go.RowKit
set_option linter.unusedVariables false
/-- A number in new memory. -/
def AnsT (N : Int) (w : World) (e : Ending) (w' : World) : Prop := ∃ B m cap, e = .returned (.slice B m cap) ∧ Cn w' B m cap N ∧ (∀ a, B = some a → w.heap.size ≤ a.block) ∧ Below w.heap.size w w'
theorem to_new7 {A : Option Addr} {n c : Nat} {N : Int} {w : World} (h : Rn w A n c N) (hn : n ≤ 100000) : Calls Tryz.prog 93 #[.slice A n c] w (AnsT N w) :=
  (to_own h hn).mono fun e w' ⟨v, m, he, ho, hb⟩ => by
    obtain ⟨B, cap, rfl, h1, h2, h3⟩ := own_rd ho
    have hl := h1.len
    have hd : (dg W N).length = dl N := rfl
    have h4 := dl_dr h.pos
    have h5 := h.len_
    exact ⟨B, _, cap, he, ⟨h1, h2, by omega, h.pos⟩, h3, hb⟩
/-- What told answers. -/
def TldP (X Y Z : Int) (w : World) (e : Ending) (w' : World) : Prop :=
  ∃ s : Stp, e = .returned (.agg #[.slice s.A1 s.n1 s.c1, .slice s.A2 s.n2 s.c2, .slice s.A3 s.n3 s.c3]) ∧ Cn w' s.A1 s.n1 s.c1 X ∧ Cn w' s.A2 s.n2 s.c2 Y ∧ Cn w' s.A3 s.n3 s.c3 Z ∧
    (∀ a, s.A1 = some a → w.heap.size ≤ a.block) ∧ (∀ a, s.A2 = some a → w.heap.size ≤ a.block) ∧ (∀ a, s.A3 = some a → w.heap.size ≤ a.block) ∧ Below w.heap.size w w'
theorem sizeP3 : (Tryz.prog.info? 61).map (·.size) = some 3 := by kernel_rfl
theorem Cn.far {w : World} {A : Option Addr} {n c g i : Nat} {N : Int} (h : Cn w A n c N) (hA : ∀ a, A = some a → a.block ≠ g) (v : Value) : Cn (w.setCell ⟨g, i, none⟩ v) A n c N :=
  ⟨⟨h.rd.len, fun hn => by
    obtain ⟨b, off, e, hb, hc⟩ := h.rd.cells hn
    have hne : b ≠ g := hA _ e
    exact ⟨b, off, e, by simpa using hb, fun j x hj => (World.cell?_of_block (heap_setCell_other w ⟨g, i, none⟩ b v hne)).trans (hc j x hj)⟩⟩, h.nc, h.c60, h.pos⟩
set_option maxHeartbeats 8000000 in
set_option maxRecDepth 100000 in
theorem told7_any {w : World} {A1 A2 A3 : Option Addr} {n1 c1 n2 c2 n3 c3 : Nat} {X Y Z : Int} (h1 : Rn w A1 n1 c1 X) (h2 : Rn w A2 n2 c2 Y) (h3 : Rn w A3 n3 c3 Z) (l1 : n1 ≤ 100000) (l2 : n2 ≤ 100000) (l3 : n3 ≤ 100000) :
    Calls Tryz.prog 53 #[.agg #[.slice A1 n1 c1, .slice A2 n2 c2, .slice A3 n3 c3]] w (TldP X Y Z w) := by
  obtain ⟨s, hs⟩ : ∃ s, w.heap.size = s := ⟨_, rfl⟩
  have HS := Lib.hid hs
  have bx0 := below_al w (.cells #[.slice A1 n1 c1, .slice A2 n2 c2, .slice A3 n3 c3] 105)
  have bx1 := bx0.trans ((below_al (w.alloc (.cells #[.slice A1 n1 c1, .slice A2 n2 c2, .slice A3 n3 c3] 105)) (.cells #[.slice none 0 0, .slice none 0 0, .slice none 0 0] 61)).mono bx0.size)
  have R1 := Lib.hid (h1.below bx1)
  have R2 := Lib.hid (h2.below bx1)
  have R3 := Lib.hid (h3.below bx1)
  have BX := Lib.hid bx1
  clear bx0 bx1 h1 h2 h3 hs
  go_enter Tryz.func53, Tryz.ntmps53
  go_wp2_with fail
  obtain ⟨W0, hW0⟩ : ∃ W0, (w.alloc (.cells #[.slice A1 n1 c1, .slice A2 n2 c2, .slice A3 n3 c3] 105)).alloc (.cells #[.slice none 0 0, .slice none 0 0, .slice none 0 0] 61) = W0 := ⟨_, rfl⟩
  have r0 : W0.heap[s]? = some (.cells #[.slice A1 n1 c1, .slice A2 n2 c2, .slice A3 n3 c3] 105 (0, 0)) := by
    rw [← hW0, ← HS.out, heap_alloc_old _ _ (by simp)]; exact heap_alloc_new w _
  have r1 : W0.heap[s + 1]? = some (.cells #[.slice none 0 0, .slice none 0 0, .slice none 0 0] 61 (0, 0)) := by
    rw [← hW0, ← HS.out, show w.heap.size + 1 = (w.alloc (.cells #[.slice A1 n1 c1, .slice A2 n2 c2, .slice A3 n3 c3] 105)).heap.size by simp]; exact heap_alloc_new _ _
  rw [hW0, HS.out]
  rw [hW0] at R1 R2 R3 BX
  have lt0 : s + 1 < W0.heap.size := (Array.getElem?_eq_some_iff.1 r1).1
  have bd := below_dr W0
  have x0 : W0.drew.cell? ⟨s, 0, none⟩ = some (.slice A1 n1 c1) := cell_of_row W0 s 0 _ _ _ r0
  have x1 : W0.drew.cell? ⟨s, 1, none⟩ = some (.slice A2 n2 c2) := cell_of_row W0 s 1 _ _ _ r0
  have x2 : W0.drew.cell? ⟨s, 2, none⟩ = some (.slice A3 n3 c3) := cell_of_row W0 s 2 _ _ _ r0
  have RA := Lib.hid (R1.out.below bd)
  have RB := Lib.hid (R2.out.below bd)
  have RC := Lib.hid (R3.out.below bd)
  have Y0 := Lib.hid (show W0.drew.heap[s + 1]? = some (.cells #[.slice none 0 0, .slice none 0 0, .slice none 0 0] 61 (0, 0)) from r1)
  have BY := Lib.hid (BX.out.trans (bd.mono BX.out.size))
  have LT := Lib.hid (show s + 1 < W0.drew.heap.size from lt0)
  clear hW0 r0 r1 R1 R2 R3 BX bd lt0
  go_region_law (first
    | (go_simp; go_at_call 93; first
      | ((with_reducible refine (to_new7 RC2.out l3).mono ?_); rintro e u3 ⟨B3, m3, d3, rfl, k3, w3n, b3⟩; have K1c := Lib.hid (K1b.out.below b3); have K2c := Lib.hid (K2b.out.below b3); have K3c := Lib.hid k3; have N3 := Lib.hid w3n; have Y3 := Lib.hid ((b3.block (s + 1) LT2.out).trans Y2.out); have BY3 := Lib.hid (BY2.out.trans (b3.mono BY2.out.size)); have S3 := Lib.hid b3.size; have y0 : u3.cell? ⟨s + 1, 0, none⟩ = some (.slice none 0 0) := (cell_of_row u3 (s + 1) 0 _ _ _ Y3.out); have y1 : u3.cell? ⟨s + 1, 1, none⟩ = some (.slice none 0 0) := (cell_of_row u3 (s + 1) 1 _ _ _ Y3.out); have y2 : u3.cell? ⟨s + 1, 2, none⟩ = some (.slice none 0 0) := (cell_of_row u3 (s + 1) 2 _ _ _ Y3.out); have z0 := frozen_of_row u3 (s + 1) 0 _ _ Y3.out; have z1 := frozen_of_row u3 (s + 1) 1 _ _ Y3.out; have z2 := frozen_of_row u3 (s + 1) 2 _ _ Y3.out; clear k3 w3n b3)
      | ((with_reducible refine (to_new7 RB1.out l2).mono ?_); rintro e u2 ⟨B2, m2, d2, rfl, k2, w2n, b2⟩; have v2 := (b2.cell (p := ⟨s, 2, none⟩) (show s < _ by have := LT1.out; omega)).trans f2; have RC2 := Lib.hid (RC1.out.below b2); have K1b := Lib.hid (K1a.out.below b2); have K2b := Lib.hid k2; have N2 := Lib.hid w2n; have Y2 := Lib.hid ((b2.block (s + 1) LT1.out).trans Y1.out); have LT2 := Lib.hid (Nat.lt_of_lt_of_le LT1.out b2.size); have BY2 := Lib.hid (BY1.out.trans (b2.mono BY1.out.size)); have S2 := Lib.hid b2.size; clear k2 w2n b2)
      | ((with_reducible refine (to_new7 RA.out l1).mono ?_); rintro e u1 ⟨B1, m1, d1, rfl, k1, w1n, b1⟩; have f1 := (b1.cell (p := ⟨s, 1, none⟩) (show s < _ by have := LT.out; omega)).trans x1; have f2 := (b1.cell (p := ⟨s, 2, none⟩) (show s < _ by have := LT.out; omega)).trans x2; have RB1 := Lib.hid (RB.out.below b1); have RC1 := Lib.hid (RC.out.below b1); have K1a := Lib.hid k1; have N1 := Lib.hid w1n; have Y1 := Lib.hid ((b1.block (s + 1) LT.out).trans Y0.out); have LT1 := Lib.hid (Nat.lt_of_lt_of_le LT.out b1.size); have BY1 := Lib.hid (BY.out.trans (b1.mono BY.out.size)); have S1 := Lib.hid b1.size; clear k1 w1n b1)))
  all_goals
    have hS := HS.out
    have q1 : ∀ a, B1 = some a → s + 1 < a.block := fun a ha => Nat.lt_of_lt_of_le LT.out (N1.out a ha)
    have q2 : ∀ a, B2 = some a → s + 1 < a.block := fun a ha => Nat.lt_of_lt_of_le LT.out (Nat.le_trans S1.out (N2.out a ha))
    have q3 : ∀ a, B3 = some a → s + 1 < a.block := fun a ha => Nat.lt_of_lt_of_le LT.out (Nat.le_trans S1.out (Nat.le_trans S2.out (N3.out a ha)))
    have row := heap_setCell_same _ (s + 1) 2 _ _ (.slice B3 m3 d3) (heap_setCell_same _ (s + 1) 1 _ _ (.slice B2 m2 d2) (heap_setCell_same u3 (s + 1) 0 _ _ (.slice B1 m1 d1) Y3.out))
    have ROW := Lib.hid row
    have Q1 := Lib.hid q1
    have Q2 := Lib.hid q2
    have Q3 := Lib.hid q3
    clear row q1 q2 q3 y0 y1 y2 z0 z1 z2
    go_wp2_with fail
    refine bodyPost_ret (v := .agg #[.slice B1 m1 d1, .slice B2 m2 d2, .slice B3 m3 d3]) (results_cell_row Tryz.results53 _ _ (s + 1) _ _ _ _ rfl ROW.out Tryz.underlying61 rfl sizeP3) rfl ?_
    refine ⟨⟨B1, m1, d1, B2, m2, d2, B3, m3, d3, 0, 0, 0⟩, rfl, ?_, ?_, ?_, fun a ha => by have := Q1.out a ha; omega, fun a ha => by have := Q2.out a ha; omega, fun a ha => by have := Q3.out a ha; omega, ((BY3.out.setCell (by show w.heap.size ≤ s + 1; omega) _).setCell (by show w.heap.size ≤ s + 1; omega) _).setCell (by show w.heap.size ≤ s + 1; omega) _⟩
    · exact ((K1c.out.far (fun a ha => by have := Q1.out a ha; omega) _).far (fun a ha => by have := Q1.out a ha; omega) _).far (fun a ha => by have := Q1.out a ha; omega) _
    · exact ((K2c.out.far (fun a ha => by have := Q2.out a ha; omega) _).far (fun a ha => by have := Q2.out a ha; omega) _).far (fun a ha => by have := Q2.out a ha; omega) _
    · exact ((K3c.out.far (fun a ha => by have := Q3.out a ha; omega) _).far (fun a ha => by have := Q3.out a ha; omega) _).far (fun a ha => by have := Q3.out a ha; omega) _
end Go.Proofs.YtpmnghealjgkeaaGreat
