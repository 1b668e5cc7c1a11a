/-
  What a sequence makes of a pair: sealed, sealed anew, stripped.
-/
import Derived.Test.YtpmnghealjgkeaaGreatSp7
namespace Go.Proofs.YtpmnghealjgkeaaGreat
open Go.RowKit
set_option linter.unusedVariables false
theorem cn_lit1 (w : World) : Cn (w.alloc (.cells #[.int .u64 1] 78)) (some ⟨w.heap.size, 0, none⟩) 1 1 1 :=
  ⟨by rw [dg_one (by decide) (by decide)]; exact (show Row _ _ _ _ [1] from Row.new w 78 .u64 [1]).rd rfl (fun j y hy => by simpa using hy), Nat.le_refl _, by omega, by omega⟩
theorem bool_le {q q' : Bool} {p : Prop} (h : q' = true ↔ q = true ∨ p) : q' = false → q = false := fun g => by
  cases q with
  | false => rfl
  | true => rw [h.2 (.inl rfl)] at g; cases g
theorem bool_no {q q' : Bool} {p : Prop} (h : q' = true ↔ q = true ∨ p) (g : q' = false) : ¬ p := fun k => by rw [h.2 (.inr k)] at g; cases g
section
variable {w w0 : World} {b r : Nat} {d : Gd} {q q' : Bool} {A1 A2 A3 Ak Am Ar As : Option Addr} {n1 c1 n2 c2 n3 c3 nk ck nm cm nr cr ns cs : Nat} {X Y Z K M R s : Int}
set_option maxHeartbeats 4000000 in
set_option maxRecDepth 100000 in
theorem seal_q (h : Sq w r b q) (hb : Below w0.heap.size w0 w) (h0 : w0.heap.size ≤ r) (hg : Gr w0 b d) (hk : Nm w0 Ak nk ck K) (hm : Nm w0 Am nm cm M) (hr : Nm w0 Ar nr cr R) (lr : dl R ≤ 64) (hq : q' = true ↔ q = true ∨ ¬ (El d.P d.Q K ∧ El d.P d.Q M)) :
    Calls Tryz.prog 46 #[.pointer (some ⟨r, 0, none⟩), .slice Ak nk ck, .slice Am nm cm, .slice Ar nr cr] w (PairP r b q' (sealN d.P d.Q d.G K M R) w) := by
  obtain ⟨qa, ha⟩ := ex_bool (q = true ∨ ¬ El d.P d.Q K)
  have hqb : q' = true ↔ qa = true ∨ ¬ (El d.P d.Q M ∧ El d.P d.Q (gx d.P d.Q K R)) := by
    rw [hq, ha]
    constructor
    · rintro (g | g)
      · exact .inl (.inl g)
      · by_cases g1 : El d.P d.Q K
        · exact .inr fun k => g ⟨g1, k.1⟩
        · exact .inl (.inr g1)
    · rintro ((g | g) | g)
      · exact .inl g
      · exact .inr fun k => g k.1
      · exact .inr fun k => g ⟨k.2, gx_el hg.safe.p2 hg.safe.q1 k.1 R⟩
  have hf1 := bool_le hqb
  obtain ⟨s, hs⟩ : ∃ s, w.heap.size = s := ⟨_, rfl⟩
  obtain ⟨W2, hW⟩ : ∃ W2, W2 = w.alloc (.cells #[.slice none 0 0, .slice none 0 0, .slice none 0 0] 61) := ⟨_, rfl⟩
  have b2 : Below w.heap.size w W2 := by rw [hW]; exact (Below.refl _ _).alloc (Nat.le_refl _) _
  have row : W2.heap[s]? = some (.cells #[.slice none 0 0, .slice none 0 0, .slice none 0 0] 61 (0, 0)) := by rw [hW, ← hs]; exact heap_alloc_new w _
  have sz2 : W2.heap.size = s + 1 := by rw [hW, ← hs]; simp
  have rl : r < s := by rw [← hs]; exact h.lt
  have hall : ∀ W', Bo r W2 W' → Below w0.heap.size w0 W' ∧ W'.heap[s]? = some (.cells #[.slice none 0 0, .slice none 0 0, .slice none 0 0] 61 (0, 0)) := fun W' k =>
    ⟨k.below (hb.trans (b2.mono hb.size)) h0, (k.block s (by omega) (by omega)).trans row⟩
  have HALL := Lib.hid hall
  have HS := Lib.hid (h.below b2)
  have HG := Lib.hid hg
  have HK := Lib.hid hk
  have HM := Lib.hid hm
  have HR := Lib.hid hr
  have HA := Lib.hid ha
  have HQB := Lib.hid hqb
  have HF1 := Lib.hid hf1
  have BR := Lib.hid (Bo.refl r W2)
  have B2 := Lib.hid (Bo.of r b2)
  have HSS := Lib.hid hs
  have HSZ := Lib.hid sz2
  clear h hb hk hm hr hg hq ha hqb hf1 hall row sz2 b2
  go_enter Tryz.func46, Tryz.ntmps46
  go_wp2_with fail
  rw [← hW]
  try rw [hs]
  clear hW hs
  refine (base_q HS.out (HG.out.below (HALL.out _ BR.out).1) (HR.out.below (HALL.out _ BR.out).1) lr).mono ?_
  rintro e w3 ⟨B1, m1, d1, rfl, hc1, hn1, hs1, hb1⟩
  have BO3 := Lib.hid hb1
  have C1 := Lib.hid hc1
  have N1 := Lib.hid hn1
  have HS3 := Lib.hid hs1
  clear hc1 hn1 hs1 hb1
  go_wp2_with fail
  refine (power_q HS3.out (HG.out.below (HALL.out _ BO3.out).1) (fun _ => HK.out.below (HALL.out _ BO3.out).1) (HR.out.below (HALL.out _ BO3.out).1) lr HA.out).mono ?_
  rintro e w4 ⟨B2', m2, d2, rfl, hc2, hn2, hs2, hb2⟩
  have BO4 := Lib.hid (BO3.out.trans hb2)
  have C2 := Lib.hid hc2
  have N2 := Lib.hid hn2
  have HS4 := Lib.hid hs2
  have HB34 := Lib.hid hb2
  clear hc2 hn2 hs2 hb2
  go_wp2_with fail
  refine (product_q HS4.out (HG.out.below (HALL.out _ BO4.out).1) (fun _ => HM.out.below (HALL.out _ BO4.out).1) (fun g => (C2.out g).nm) HQB.out).mono ?_
  rintro e w5 ⟨B3', m3, d3, rfl, hc3, hn3, hs3, hb3⟩
  have BO5 := Lib.hid (BO4.out.trans hb3)
  have C3 := Lib.hid hc3
  have N3 := Lib.hid hn3
  have HB45 := Lib.hid hb3
  have bl : Below w5.heap.size w5 (w5.alloc (.cells #[.int .u64 1] 78)) := (Below.refl _ _).alloc (Nat.le_refl _) _
  have HS6 := Lib.hid (hs3.below bl)
  have BL := Lib.hid bl
  have C4 := Lib.hid (cn_lit1 w5)
  have R6 := Lib.hid (HALL.out _ (BO5.out.trans (Bo.of r bl))).2
  have x0 := cell_of_row (w5.alloc (.cells #[.int .u64 1] 78)) s 0 _ _ _ R6.out
  have x1 := cell_of_row (w5.alloc (.cells #[.int .u64 1] 78)) s 1 _ _ _ R6.out
  have x2 := cell_of_row (w5.alloc (.cells #[.int .u64 1] 78)) s 2 _ _ _ R6.out
  have f0 := frozen_of_row (w5.alloc (.cells #[.int .u64 1] 78)) s 0 _ _ R6.out
  have f1 := frozen_of_row (w5.alloc (.cells #[.int .u64 1] 78)) s 1 _ _ R6.out
  have f2 := frozen_of_row (w5.alloc (.cells #[.int .u64 1] 78)) s 2 _ _ R6.out
  clear hc3 hn3 hs3 hb3 bl
  go_wp2_with fail
  refine bodyPost_ret (v := .agg #[.slice B1 m1 d1, .slice B3' m3 d3, .slice (some ⟨w5.heap.size, 0, none⟩) 1 1]) (results_cell_row Tryz.results46 _ _ s _ _ _ _ rfl (three_row R6.out) Tryz.underlying61 rfl sizePair) rfl ?_
  have es := HSS.out
  have sz3 := BO3.out.size
  have sz4 := HB34.out.size
  have sz5 := HB45.out.size
  have sz2 := HSZ.out
  refine pairP_end ⟨B1, m1, d1, B3', m3, d3, some ⟨w5.heap.size, 0, none⟩, 1, 1, gx d.P d.Q d.G R, M * gx d.P d.Q K R % d.P, 1⟩ (B2.out.trans (BO5.out.trans (Bo.of r BL.out))) (by omega) (by omega) HS6.out (fun g => ?_) (fun _ a ha => by have := N1.out a ha; omega) (fun _ a ha => by have := N3.out a ha; omega) (fun _ a ha => by injection ha with ha; subst ha; constructor <;> (simp; omega))
  have ga := HF1.out g
  have hx := bool_le HA.out ga
  have b5 := Bo.of r BL.out
  exact ⟨b5.cn (HB45.out.cn (HB34.out.cn (C1.out hx) (fun a ha => by have := N1.out a ha; omega)) (fun a ha => by have := N1.out a ha; omega)) (fun a ha => by have := N1.out a ha; omega), b5.cn (C3.out g) (fun a ha => by have := N3.out a ha; omega), C4.out, rfl⟩
theorem cmb_anew {q q1 q2 q3 q' : Bool} {X Y Z K G KR : Prop} (hG : G) (hK : K → KR) (h1 : q1 = true ↔ q = true ∨ ¬ (X ∧ G)) (h2 : q2 = true ↔ q1 = true ∨ ¬ K) (h3 : q3 = true ↔ q2 = true ∨ ¬ (Y ∧ KR)) (hq : q' = true ↔ q = true ∨ ¬ (K ∧ X ∧ Y ∧ Z)) : q' = true ↔ q3 = true ∨ ¬ Z := by
  rw [hq, h3, h2, h1]
  by_cases X <;> by_cases Y <;> by_cases Z <;> by_cases K <;> simp_all
theorem elt_iff {P Q X Y Z : Int} : ElT P Q ⟨X, Y, Z⟩ ↔ El P Q X ∧ El P Q Y ∧ El P Q Z := ⟨fun h => ⟨h.a, h.b, h.c⟩, fun h => ⟨h.1, h.2.1, h.2.2⟩⟩
set_option maxHeartbeats 8000000 in
set_option maxRecDepth 100000 in
theorem anew_q (h : Sq w r b q) (hb : Below w0.heap.size w0 w) (h0 : w0.heap.size ≤ r) (hg : Gr w0 b d) (hk : Nm w0 Ak nk ck K) (h1 : Nm w0 A1 n1 c1 X) (h2 : Nm w0 A2 n2 c2 Y) (h3 : Nm w0 A3 n3 c3 Z) (hr : Nm w0 Ar nr cr R) (lr : dl R ≤ 64) (hq : q' = true ↔ q = true ∨ ¬ (El d.P d.Q K ∧ ElT d.P d.Q ⟨X, Y, Z⟩)) :
    Calls Tryz.prog 48 #[.pointer (some ⟨r, 0, none⟩), .slice Ak nk ck, .agg #[.slice A1 n1 c1, .slice A2 n2 c2, .slice A3 n3 c3], .slice Ar nr cr] w (PairP r b q' (anewN d.P d.Q d.G K ⟨X, Y, Z⟩ R) w) := by
  obtain ⟨qa, ha⟩ := ex_bool (q = true ∨ ¬ (El d.P d.Q X ∧ El d.P d.Q (gx d.P d.Q d.G R)))
  obtain ⟨qb, hqb⟩ := ex_bool (qa = true ∨ ¬ El d.P d.Q K)
  obtain ⟨qc, hqc⟩ := ex_bool (qb = true ∨ ¬ (El d.P d.Q Y ∧ El d.P d.Q (gx d.P d.Q K R)))
  rw [elt_iff] at hq
  have hqd := cmb_anew (gx_el hg.safe.p2 hg.safe.q1 hg.el R) (fun k => gx_el hg.safe.p2 hg.safe.q1 k R) ha hqb hqc hq
  obtain ⟨s, hs⟩ : ∃ s, w.heap.size = s := ⟨_, rfl⟩
  obtain ⟨W2, hW⟩ : ∃ W2, W2 = (w.alloc (.cells #[.slice A1 n1 c1, .slice A2 n2 c2, .slice A3 n3 c3] 61)).alloc (.cells #[.slice none 0 0, .slice none 0 0, .slice none 0 0] 61) := ⟨_, rfl⟩
  have b2 : Below w.heap.size w W2 := by rw [hW]; exact ((Below.refl _ _).alloc (Nat.le_refl _) _).alloc (by simp) _
  have k0 : W2.cell? ⟨s, 0, none⟩ = some (.slice A1 n1 c1) := by rw [hW, ← hs, World.cell?_alloc_past _ _ _ (by simp), World.cell?_alloc_at _ _ _ _ rfl]; rfl
  have k1 : W2.cell? ⟨s, 1, none⟩ = some (.slice A2 n2 c2) := by rw [hW, ← hs, World.cell?_alloc_past _ _ _ (by simp), World.cell?_alloc_at _ _ _ _ rfl]; rfl
  have k2 : W2.cell? ⟨s, 2, none⟩ = some (.slice A3 n3 c3) := by rw [hW, ← hs, World.cell?_alloc_past _ _ _ (by simp), World.cell?_alloc_at _ _ _ _ rfl]; rfl
  have row : W2.heap[s + 1]? = some (.cells #[.slice none 0 0, .slice none 0 0, .slice none 0 0] 61 (0, 0)) := by rw [hW, ← hs]; exact heap_alloc2_new w _ _
  have sz2 : W2.heap.size = s + 2 := by rw [hW, ← hs]; simp
  have rl : r < s := by rw [← hs]; exact h.lt
  have hall : ∀ W', Bo r W2 W' → Below w0.heap.size w0 W' ∧ (W'.cell? ⟨s, 0, none⟩ = some (.slice A1 n1 c1) ∧ W'.cell? ⟨s, 1, none⟩ = some (.slice A2 n2 c2) ∧ W'.cell? ⟨s, 2, none⟩ = some (.slice A3 n3 c3)) ∧ W'.heap[s + 1]? = some (.cells #[.slice none 0 0, .slice none 0 0, .slice none 0 0] 61 (0, 0)) := fun W' k =>
    ⟨k.below (hb.trans (b2.mono hb.size)) h0, ⟨(k.cell (p := ⟨s, 0, none⟩) (show s < _ by omega) (show s ≠ r by omega)).trans k0, (k.cell (p := ⟨s, 1, none⟩) (show s < _ by omega) (show s ≠ r by omega)).trans k1, (k.cell (p := ⟨s, 2, none⟩) (show s < _ by omega) (show s ≠ r by omega)).trans k2⟩, (k.block (s + 1) (by omega) (by omega)).trans row⟩
  have HALL := Lib.hid hall
  have HS := Lib.hid ((h.below b2).below (Below.refl _ _).drew)
  have HG := Lib.hid hg
  have H1 := Lib.hid h1
  have H2 := Lib.hid h2
  have H3 := Lib.hid h3
  have HK := Lib.hid hk
  have HR := Lib.hid hr
  have HA := Lib.hid ha
  have HQB := Lib.hid hqb
  have HQC := Lib.hid hqc
  have HQD := Lib.hid hqd
  have BD := Lib.hid (Bo.of r (Below.refl W2.heap.size W2).drew)
  have B2 := Lib.hid (Bo.of r b2)
  have HSS := Lib.hid hs
  have HSZ := Lib.hid sz2
  have kA := (hall W2 (Bo.refl _ _)).2.1
  have e0 : W2.drew.heap.size = s + 2 := sz2
  have E0 := Lib.hid e0
  clear h hb h1 h2 h3 hg hq ha hqb hqc hqd hall k0 k1 k2 row sz2 b2 e0 hk hr
  go_enter Tryz.func48, Tryz.ntmps48
  go_wp2_with fail
  rw [← hW]
  try rw [hs]
  clear hW hs
  go_region_held3 (fun w' => w'.cell? ⟨s, 0, none⟩ = some (.slice A1 n1 c1) ∧ w'.cell? ⟨s, 1, none⟩ = some (.slice A2 n2 c2) ∧ w'.cell? ⟨s, 2, none⟩ = some (.slice A3 n3 c3)) (first | exact kA | exact kB | exact kC | exact kD | exact kE | exact kF | go_keep | assumption)
    (first
    | (go_at_call 87; (with_reducible refine (base_q HS.out (HG.out.below (HALL.out _ BD.out).1) (HR.out.below (HALL.out _ BD.out).1) lr).mono ?_); rintro e w3 ⟨B1, m1, d1, rfl, hc1, hn1, hs1, hb1⟩; have BO3 := Lib.hid (BD.out.trans hb1); have kB := (HALL.out _ BO3.out).2.1; have C1 := Lib.hid hc1; have N1 := Lib.hid hn1; have HS3 := Lib.hid hs1; clear hc1 hn1 hs1 hb1)
    | (go_at_call 88; (with_reducible refine (product_q HS3.out (HG.out.below (HALL.out _ BO3.out).1) (fun _ => H1.out.below (HALL.out _ BO3.out).1) (fun g => (C1.out g).nm) HA.out).mono ?_); rintro e w4 ⟨B2', m2, d2, rfl, hc2, hn2, hs2, hb2⟩; have BO4 := Lib.hid (BO3.out.trans hb2); have kC := (HALL.out _ BO4.out).2.1; have C2 := Lib.hid hc2; have N2 := Lib.hid hn2; have HS4 := Lib.hid hs2; have HB34 := Lib.hid hb2; clear hc2 hn2 hs2 hb2)
    | (go_at_call 89; (with_reducible refine (power_q HS4.out (HG.out.below (HALL.out _ BO4.out).1) (fun _ => HK.out.below (HALL.out _ BO4.out).1) (HR.out.below (HALL.out _ BO4.out).1) lr HQB.out).mono ?_); rintro e w5 ⟨B3', m3, d3, rfl, hc3, hn3, hs3, hb3⟩; have BO5 := Lib.hid (BO4.out.trans hb3); have kD := (HALL.out _ BO5.out).2.1; have C3 := Lib.hid hc3; have N3 := Lib.hid hn3; have HS5 := Lib.hid hs3; have HB45 := Lib.hid hb3; clear hc3 hn3 hs3 hb3)
    | (go_at_call 88; (with_reducible refine (product_q HS5.out (HG.out.below (HALL.out _ BO5.out).1) (fun _ => H2.out.below (HALL.out _ BO5.out).1) (fun g => (C3.out g).nm) HQC.out).mono ?_); rintro e w6 ⟨B4', m4, d4, rfl, hc4, hn4, hs4, hb4⟩; have BO6 := Lib.hid (BO5.out.trans hb4); have kE := (HALL.out _ BO6.out).2.1; have C4 := Lib.hid hc4; have N4 := Lib.hid hn4; have HS6 := Lib.hid hs4; have HB56 := Lib.hid hb4; clear hc4 hn4 hs4 hb4)
    | (go_at_call 90; (with_reducible refine (element_q HS6.out (HG.out.below (HALL.out _ BO6.out).1) (fun _ => H3.out.below (HALL.out _ BO6.out).1) HQD.out).mono ?_); rintro e w7 ⟨B5', m5, d5, rfl, hc5, hn5, hs5, hb5⟩; have BO7 := Lib.hid (BO6.out.trans hb5); have kF := (HALL.out _ BO7.out).2.1; have C5 := Lib.hid hc5; have N5 := Lib.hid hn5; have HS7 := Lib.hid hs5; have HB67 := Lib.hid hb5; have R7 := Lib.hid (HALL.out _ BO7.out).2.2; have x0 := (cell_of_row w7 (s + 1) 0 _ _ _ R7.out); have x1 := (cell_of_row w7 (s + 1) 1 _ _ _ R7.out); have x2 := (cell_of_row w7 (s + 1) 2 _ _ _ R7.out); have f0 := frozen_of_row w7 (s + 1) 0 _ _ R7.out; have f1 := frozen_of_row w7 (s + 1) 1 _ _ R7.out; have f2 := frozen_of_row w7 (s + 1) 2 _ _ R7.out; clear hc5 hn5 hs5 hb5))
  all_goals
    go_wp2_with fail
    refine bodyPost_ret (v := .agg #[.slice B2' m2 d2, .slice B4' m4 d4, .slice B5' m5 d5]) (results_cell_row Tryz.results48 _ _ (s + 1) _ _ _ _ rfl (three_row R7.out) Tryz.underlying61 rfl sizePair) rfl ?_
    have e0 := E0.out
    have es := HSS.out
    have sz3 := BO3.out.size
    have sz4 := HB34.out.size
    have sz5 := HB45.out.size
    have sz6 := HB56.out.size
    have sz2 := HSZ.out
    refine pairP_end ⟨B2', m2, d2, B4', m4, d4, B5', m5, d5, X * gx d.P d.Q d.G R % d.P, Y * gx d.P d.Q K R % d.P, Z⟩ (B2.out.trans BO7.out) (by omega) (by omega) HS7.out (fun g => ?_) (fun _ a ha => by have := N2.out a ha; omega) (fun _ a ha => by have := N4.out a ha; omega) (fun _ a ha => by have := N5.out a ha; omega)
    have gc := bool_le HQD.out g
    have gb := bool_le HQC.out gc
    have ga := bool_le HQB.out gb
    exact ⟨HB67.out.cn (HB56.out.cn (HB45.out.cn (C2.out ga) (fun a ha => by have := N2.out a ha; omega)) (fun a ha => by have := N2.out a ha; omega)) (fun a ha => by have := N2.out a ha; omega), HB67.out.cn (C4.out gc) (fun a ha => by have := N4.out a ha; omega), C5.out g, rfl⟩
end
end Go.Proofs.YtpmnghealjgkeaaGreat
