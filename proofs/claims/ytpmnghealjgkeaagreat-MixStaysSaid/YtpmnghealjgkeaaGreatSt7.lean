/-
  What a sequence makes of a pair: stripped of a share, sealed to the next key.
-/
import Derived.Test.YtpmnghealjgkeaaGreatSe7
namespace Go.Proofs.YtpmnghealjgkeaaGreat
open Go.RowKit
set_option linter.unusedVariables false
theorem cmb_strip {q q1 q2 q3 q4 q5 q' : Bool} {X Y Z K XS RE KR G : Prop} (hX : X → XS) (hR : X → Y → RE) (hK : K → KR) (hG : G) (h1 : q1 = true ↔ q = true ∨ ¬ X) (h2 : q2 = true ↔ q1 = true ∨ ¬ (Y ∧ XS)) (h3 : q3 = true ↔ q2 = true ∨ ¬ X) (h4 : q4 = true ↔ q3 = true ∨ ¬ K)
    (h5 : q5 = true ↔ q4 = true ∨ ¬ (RE ∧ KR)) (hq : q' = true ↔ q = true ∨ ¬ (K ∧ X ∧ Y ∧ Z)) : q' = true ↔ q5 = true ∨ ¬ (Z ∧ G) := by
  rw [hq, h5, h4, h3, h2, h1]
  by_cases X <;> by_cases Y <;> by_cases Z <;> by_cases K <;> simp_all
section
variable {w w0 : World} {b r : Nat} {d : Gd} {q q' : Bool} {A1 A2 A3 Ak Am Ar As : Option Addr} {n1 c1 n2 c2 n3 c3 nk ck nm cm nr cr ns cs : Nat} {X Y Z K M R V : Int}
set_option maxHeartbeats 16000000 in
set_option maxRecDepth 100000 in
theorem strip_q (h : Sq w r b q) (hb : Below w0.heap.size w0 w) (h0 : w0.heap.size ≤ r) (hg : Gr w0 b d) (hv : Nm w0 As ns cs V) (lv : dl V ≤ 64) (hk : Nm w0 Ak nk ck K) (h1 : Nm w0 A1 n1 c1 X) (h2 : Nm w0 A2 n2 c2 Y) (h3 : Nm w0 A3 n3 c3 Z) (hr : Nm w0 Ar nr cr R) (lr : dl R ≤ 64) (hq : q' = true ↔ q = true ∨ ¬ (El d.P d.Q K ∧ ElT d.P d.Q ⟨X, Y, Z⟩)) :
    Calls Tryz.prog 65 #[.pointer (some ⟨r, 0, none⟩), .slice As ns cs, .slice Ak nk ck, .agg #[.slice A1 n1 c1, .slice A2 n2 c2, .slice A3 n3 c3], .slice Ar nr cr] w (PairP r b q' (stripN d.P d.Q d.G V K ⟨X, Y, Z⟩ R) w) := by
  obtain ⟨T, hT⟩ : ∃ T, Y * iv d.P d.Q (gx d.P d.Q X V) % d.P = T := ⟨_, rfl⟩
  obtain ⟨qa, ha⟩ := ex_bool (q = true ∨ ¬ El d.P d.Q X)
  obtain ⟨qb, hqb⟩ := ex_bool (qa = true ∨ ¬ (El d.P d.Q Y ∧ El d.P d.Q (gx d.P d.Q X V)))
  obtain ⟨qc, hqc⟩ := ex_bool (qb = true ∨ ¬ El d.P d.Q X)
  obtain ⟨qd, hqd⟩ := ex_bool (qc = true ∨ ¬ El d.P d.Q K)
  obtain ⟨qe, hqe⟩ := ex_bool (qd = true ∨ ¬ (El d.P d.Q T ∧ El d.P d.Q (gx d.P d.Q K R)))
  rw [elt_iff] at hq
  have hqf : q' = true ↔ qe = true ∨ ¬ (El d.P d.Q Z ∧ El d.P d.Q (gx d.P d.Q d.G R)) :=
    cmb_strip (fun k => gx_el hg.safe.p2 hg.safe.q1 k V) (fun k1 k2 => by rw [← hT]; exact k2.mul hg.safe.p2 hg.safe.q1 ((gx_el hg.safe.p2 hg.safe.q1 k1 V).iv hg.safe.p2 hg.safe.q1)) (fun k => gx_el hg.safe.p2 hg.safe.q1 k R) (gx_el hg.safe.p2 hg.safe.q1 hg.el R) ha hqb hqc hqd hqe hq
  obtain ⟨s, hs⟩ : ∃ s, w.heap.size = s := ⟨_, rfl⟩
  obtain ⟨W2, hW⟩ : ∃ W2, W2 = (w.alloc (.cells #[.slice A1 n1 c1, .slice A2 n2 c2, .slice A3 n3 c3] 61)).alloc (.cells #[.slice none 0 0, .slice none 0 0, .slice none 0 0] 61) := ⟨_, rfl⟩
  have b2 : Below w.heap.size w W2 := by rw [hW]; exact ((Below.refl _ _).alloc (Nat.le_refl _) _).alloc (by simp) _
  have k0 : W2.cell? ⟨s, 0, none⟩ = some (.slice A1 n1 c1) := by rw [hW, ← hs, World.cell?_alloc_past _ _ _ (by simp), World.cell?_alloc_at _ _ _ _ rfl]; rfl
  have k1 : W2.cell? ⟨s, 1, none⟩ = some (.slice A2 n2 c2) := by rw [hW, ← hs, World.cell?_alloc_past _ _ _ (by simp), World.cell?_alloc_at _ _ _ _ rfl]; rfl
  have k2 : W2.cell? ⟨s, 2, none⟩ = some (.slice A3 n3 c3) := by rw [hW, ← hs, World.cell?_alloc_past _ _ _ (by simp), World.cell?_alloc_at _ _ _ _ rfl]; rfl
  have row : W2.heap[s + 1]? = some (.cells #[.slice none 0 0, .slice none 0 0, .slice none 0 0] 61 (0, 0)) := by rw [hW, ← hs]; exact heap_alloc2_new w _ _
  have sz2 : W2.heap.size = s + 2 := by rw [hW, ← hs]; simp
  have rl : r < s := by rw [← hs]; exact h.lt
  have hall : ∀ W', Bo r W2 W' → Below w0.heap.size w0 W' ∧ (W'.cell? ⟨s, 0, none⟩ = some (.slice A1 n1 c1) ∧ W'.cell? ⟨s, 1, none⟩ = some (.slice A2 n2 c2) ∧ W'.cell? ⟨s, 2, none⟩ = some (.slice A3 n3 c3)) ∧ W'.heap[s + 1]? = some (.cells #[.slice none 0 0, .slice none 0 0, .slice none 0 0] 61 (0, 0)) := fun W' k =>
    ⟨k.below (hb.trans (b2.mono hb.size)) h0, ⟨(k.cell (p := ⟨s, 0, none⟩) (show s < _ by omega) (show s ≠ r by omega)).trans k0, (k.cell (p := ⟨s, 1, none⟩) (show s < _ by omega) (show s ≠ r by omega)).trans k1, (k.cell (p := ⟨s, 2, none⟩) (show s < _ by omega) (show s ≠ r by omega)).trans k2⟩, (k.block (s + 1) (by omega) (by omega)).trans row⟩
  have HALL := Lib.hid hall
  have HS := Lib.hid ((h.below b2).below (Below.refl _ _).drew)
  have HG := Lib.hid hg
  have H1 := Lib.hid h1
  have H2 := Lib.hid h2
  have H3 := Lib.hid h3
  have HV := Lib.hid hv
  have HK := Lib.hid hk
  have HR := Lib.hid hr
  have HA := Lib.hid ha
  have HQB := Lib.hid hqb
  have HQC := Lib.hid hqc
  have HQD := Lib.hid hqd
  have HQE := Lib.hid hqe
  have HQF := Lib.hid hqf
  have HT := Lib.hid hT
  have BD := Lib.hid (Bo.of r (Below.refl W2.heap.size W2).drew)
  have B2 := Lib.hid (Bo.of r b2)
  have HSS := Lib.hid hs
  have HSZ := Lib.hid sz2
  have kA := (hall W2 (Bo.refl _ _)).2.1
  have e0 : W2.drew.heap.size = s + 2 := sz2
  have E0 := Lib.hid e0
  clear h hb hv h1 h2 h3 hg hq ha hqb hqc hqd hqe hqf hall k0 k1 k2 row sz2 b2 e0 hk hr hT
  go_enter Tryz.func65, Tryz.ntmps65
  go_wp2_with fail
  rw [← hW]
  try rw [hs]
  clear hW hs
  go_region_held3 (fun w' => w'.cell? ⟨s, 0, none⟩ = some (.slice A1 n1 c1) ∧ w'.cell? ⟨s, 1, none⟩ = some (.slice A2 n2 c2) ∧ w'.cell? ⟨s, 2, none⟩ = some (.slice A3 n3 c3)) (first | exact kA | exact k3 | exact k4 | go_keep | assumption)
    (first
    | (go_at_call 89; (with_reducible refine (power_q HS.out (HG.out.below (HALL.out _ BD.out).1) (fun _ => (H1.out.below (HALL.out _ BD.out).1)) (HV.out.below (HALL.out _ BD.out).1) lv HA.out).mono ?_); rintro e w3 ⟨D1, m1, d1, rfl, hc1, hn1, hs1, hb1⟩; have BO3 := Lib.hid (BD.out.trans hb1); have k3 := (HALL.out _ BO3.out).2.1; have C1 := Lib.hid hc1; have N1 := Lib.hid hn1; have HS3 := Lib.hid hs1; have HB3 := Lib.hid hb1; clear hc1 hn1 hs1 hb1)
    | (go_at_call 101; (with_reducible refine (quotient_q HS3.out (HG.out.below (HALL.out _ BO3.out).1) (fun _ => (H2.out.below (HALL.out _ BO3.out).1)) (fun g => (C1.out g).nm) HQB.out).mono ?_); rintro e w4 ⟨D2, m2, d2, rfl, hc2, hn2, hs2, hb2⟩; have BO4 := Lib.hid (BO3.out.trans hb2); have k4 := (HALL.out _ BO4.out).2.1; have C2 := Lib.hid hc2; have N2 := Lib.hid hn2; have HS4 := Lib.hid hs2; have HB4 := Lib.hid hb2; clear hc2 hn2 hs2 hb2))
  all_goals
    rw [HT.out] at C2
    have NC := Lib.hid (show ∀ a, D2 = some a → a.block ≠ r from fun a ha => by
      have := N2.out a ha
      have := BO3.out.size
      have := HSZ.out
      omega)
    have sz4 := HB4.out.size
    have BO4 := Lib.hid (BO4.out.trans (Bo.of r (Below.refl w4.heap.size w4).drew))
    have HS4 := Lib.hid (HS4.out.below (Below.refl _ _).drew)
    have C2 := Lib.hid (fun g => (Bo.of r (Below.refl w4.heap.size w4).drew).cn (C2.out g) NC.out)
    have k4d := (HALL.out _ BO4.out).2.1
    go_wp2_with fail
    go_region_held3 (fun w' => w'.cell? ⟨s, 0, none⟩ = some (.slice A1 n1 c1) ∧ w'.cell? ⟨s, 1, none⟩ = some (.slice A2 n2 c2) ∧ w'.cell? ⟨s, 2, none⟩ = some (.slice A3 n3 c3)) (first | exact k4d | exact k5 | exact k6 | exact k7 | exact k8 | exact k9 | go_keep | assumption)
      (first
      | (go_at_call 90; (with_reducible refine (element_q HS4.out (HG.out.below (HALL.out _ BO4.out).1) (fun _ => (H1.out.below (HALL.out _ BO4.out).1)) HQC.out).mono ?_); rintro e w5 ⟨D3, m3, d3, rfl, hc3, hn3, hs3, hb3⟩; have BO5 := Lib.hid (BO4.out.trans hb3); have k5 := (HALL.out _ BO5.out).2.1; have C3 := Lib.hid hc3; have N3 := Lib.hid hn3; have HS5 := Lib.hid hs3; have HB5 := Lib.hid hb3; clear hc3 hn3 hs3 hb3)
      | (go_at_call 89; (with_reducible refine (power_q HS5.out (HG.out.below (HALL.out _ BO5.out).1) (fun _ => (HK.out.below (HALL.out _ BO5.out).1)) (HR.out.below (HALL.out _ BO5.out).1) lr HQD.out).mono ?_); rintro e w6 ⟨D4, m4, d4, rfl, hc4, hn4, hs4, hb4⟩; have BO6 := Lib.hid (BO5.out.trans hb4); have k6 := (HALL.out _ BO6.out).2.1; have C4 := Lib.hid hc4; have N4 := Lib.hid hn4; have HS6 := Lib.hid hs4; have HB6 := Lib.hid hb4; clear hc4 hn4 hs4 hb4)
      | (go_at_call 88; (with_reducible refine (product_q HS6.out (HG.out.below (HALL.out _ BO6.out).1) (fun g => ((HB6.out.cn (HB5.out.cn (C2.out (bool_le HQC.out (bool_le HQD.out g))) (fun a ha => NC.out a ha)) (fun a ha => NC.out a ha))).nm) (fun g => (C4.out g).nm) HQE.out).mono ?_); rintro e w7 ⟨D5, m5, d5, rfl, hc5, hn5, hs5, hb5⟩; have BO7 := Lib.hid (BO6.out.trans hb5); have k7 := (HALL.out _ BO7.out).2.1; have C5 := Lib.hid hc5; have N5 := Lib.hid hn5; have HS7 := Lib.hid hs5; have HB7 := Lib.hid hb5; clear hc5 hn5 hs5 hb5)
      | (go_at_call 87; (with_reducible refine (base_q HS7.out (HG.out.below (HALL.out _ BO7.out).1) (HR.out.below (HALL.out _ BO7.out).1) lr).mono ?_); rintro e w8 ⟨D6, m6, d6, rfl, hc6, hn6, hs6, hb6⟩; have BO8 := Lib.hid (BO7.out.trans hb6); have k8 := (HALL.out _ BO8.out).2.1; have C6 := Lib.hid hc6; have N6 := Lib.hid hn6; have HS8 := Lib.hid hs6; have HB8 := Lib.hid hb6; clear hc6 hn6 hs6 hb6)
      | (go_at_call 88; (with_reducible refine (product_q HS8.out (HG.out.below (HALL.out _ BO8.out).1) (fun _ => (H3.out.below (HALL.out _ BO8.out).1)) (fun g => (C6.out g).nm) HQF.out).mono ?_); rintro e w9 ⟨D7, m7, d7, rfl, hc7, hn7, hs7, hb7⟩; have BO9 := Lib.hid (BO8.out.trans hb7); have k9 := (HALL.out _ BO9.out).2.1; have C7 := Lib.hid hc7; have N7 := Lib.hid hn7; have HS9 := Lib.hid hs7; have HB9 := Lib.hid hb7; have R9 := Lib.hid (HALL.out _ BO9.out).2.2; have x0 := (cell_of_row w9 (s + 1) 0 _ _ _ R9.out); have x1 := (cell_of_row w9 (s + 1) 1 _ _ _ R9.out); have x2 := (cell_of_row w9 (s + 1) 2 _ _ _ R9.out); have f0 := frozen_of_row w9 (s + 1) 0 _ _ R9.out; have f1 := frozen_of_row w9 (s + 1) 1 _ _ R9.out; have f2 := frozen_of_row w9 (s + 1) 2 _ _ R9.out; clear hc7 hn7 hs7 hb7))
    all_goals
      go_wp2_with fail
      refine bodyPost_ret (v := .agg #[.slice D3 m3 d3, .slice D5 m5 d5, .slice D7 m7 d7]) (results_cell_row Tryz.results65 _ _ (s + 1) _ _ _ _ rfl (three_row R9.out) Tryz.underlying61 rfl sizePair) rfl ?_
      have e0 := E0.out
      have es := HSS.out
      have sz3 := BO3.out.size
      have sz5 := HB5.out.size
      have sz6 := HB6.out.size
      have sz7 := HB7.out.size
      have sz8 := HB8.out.size
      have sz2 := HSZ.out
      have s4 : w4.drew.heap.size = w4.heap.size := rfl
      refine pairP_end ⟨D3, m3, d3, D5, m5, d5, D7, m7, d7, X, T * gx d.P d.Q K R % d.P, Z * gx d.P d.Q d.G R % d.P⟩ (B2.out.trans BO9.out) (by omega) (by omega) HS9.out (fun g => ?_) (fun _ a ha => by have := N3.out a ha; omega) (fun _ a ha => by have := N5.out a ha; omega) (fun _ a ha => by have := N7.out a ha; omega)
      have ge := bool_le HQF.out g
      have gd := bool_le HQE.out ge
      have gc := bool_le HQD.out gd
      exact ⟨HB9.out.cn (HB8.out.cn (HB7.out.cn (HB6.out.cn (C3.out gc) (fun a ha => by have := N3.out a ha; omega)) (fun a ha => by have := N3.out a ha; omega)) (fun a ha => by have := N3.out a ha; omega)) (fun a ha => by have := N3.out a ha; omega), HB9.out.cn (HB8.out.cn (C5.out ge) (fun a ha => by have := N5.out a ha; omega)) (fun a ha => by have := N5.out a ha; omega), C7.out g, by rw [← HT.out]; rfl⟩
end
end Go.Proofs.YtpmnghealjgkeaaGreat
