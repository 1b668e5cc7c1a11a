/-
  The document's layer 8: what Equals answers.
-/
import Derived.Test.YtloibmemlkfkfaaGreatDoorR8q
namespace Go.Proofs.YtloibmemlkfkfaaGreatDoor
open Go.RowKit
set_option linter.unusedVariables false
section
variable {w : World} {b k : Nat} {r : Rgd} {A A' Ak Ac Ae Az Aa Ad : Option Addr} {n c n' c' nk ck nc cc ne ce nz cz na ca nd cd : Nat} {X Y E S K Z M : Int} {ctx : List Int}
theorem requals_long (he : Nm w Ae ne ce E) (hz : Nm w Az nz cz Z) (hl : 64 < dl E ∨ 64 < dl Z) :
    Calls Tryz.prog 22 #[.pointer (some ⟨b, 0, none⟩), .slice Ac nc cc, .slice A n c, .slice Aa na ca, .slice Ad nd cd, .agg #[.slice Ae ne ce, .slice Az nz cz]] w (fun e w' => e = .returned (.int .i64 2) ∧ B8 w w') := by
  have B0 := Lib.hid (B8.alloc w (.cells #[.slice Ae ne ce, .slice Az nz cz] 33))
  have px := pf_box w (.slice Ae ne ce) (.slice Az nz cz)
  obtain ⟨w0, hw0⟩ : ∃ w0, w.alloc (.cells #[.slice Ae ne ce, .slice Az nz cz] 33) = w0 := ⟨_, rfl⟩
  have SP := Lib.hid (show w.heap.size < w0.heap.size by rw [← hw0]; simp)
  rw [hw0] at B0 px
  have PX := Lib.hid px
  have x0 := px.1
  have x1 := px.2
  have HE := Lib.hid (B0.out.nm he)
  have HZ := Lib.hid (B0.out.nm hz)
  clear he hz px
  by_cases g : 64 < dl E
  · have E1 := Lib.hid (show decide (64 < dl E) = true by simp; omega)
    clear hl g
    go_enter Tryz.func22, Tryz.ntmps22
    go_wp2_with fail
    refine (rlong_any HE.out).mono ?_
    rintro e w1 ⟨rfl, rfl⟩
    rw [E1.out]
    go_wp2_with fail
    go_ret
    exact ⟨rfl, B0.out⟩
  · have E1 := Lib.hid (show decide (64 < dl E) = false by simp; omega)
    have E2 := Lib.hid (show decide (64 < dl Z) = true by simp; omega)
    clear hl g
    go_enter Tryz.func22, Tryz.ntmps22
    go_wp2_with fail
    refine (rlong_any HE.out).mono ?_
    rintro e w1 ⟨rfl, rfl⟩
    rw [E1.out]
    go_wp2_with fail
    refine (rlong_any HZ.out).mono ?_
    rintro e w1 ⟨rfl, rfl⟩
    rw [E2.out]
    go_wp2_with fail
    go_ret
    exact ⟨rfl, B0.out⟩
set_option maxHeartbeats 16000000 in
theorem requals_no (h : Rg8 w b k r) (hy : Nm w A n c Y) (ly : Li n Y) (ha : Nm w Aa na ca X) (la : Li na X) (hd : Nm w Ad nd cd M) (ld : Li nd M) (hX : ¬ (El r.P r.Q Y ∧ El r.P r.Q X ∧ El r.P r.Q M)) (he : Nm w Ae ne ce E) (le : ne ≤ 300) (dE : dl E ≤ 64) (hz : Nm w Az nz cz Z) (lz : nz ≤ 300) (dZ : dl Z ≤ 64) :
    Calls Tryz.prog 22 #[.pointer (some ⟨b, 0, none⟩), .slice Ac nc cc, .slice A n c, .slice Aa na ca, .slice Ad nd cd, .agg #[.slice Ae ne ce, .slice Az nz cz]] w (fun e w' => e = .returned (.int .i64 8) ∧ B8 w w') := by
  have B0 := Lib.hid (B8.alloc w (.cells #[.slice Ae ne ce, .slice Az nz cz] 33))
  have px := pf_box w (.slice Ae ne ce) (.slice Az nz cz)
  obtain ⟨w0, hw0⟩ : ∃ w0, w.alloc (.cells #[.slice Ae ne ce, .slice Az nz cz] 33) = w0 := ⟨_, rfl⟩
  have SP := Lib.hid (show w.heap.size < w0.heap.size by rw [← hw0]; simp)
  rw [hw0] at B0 px
  have PX := Lib.hid px
  have x0 := px.1
  have x1 := px.2
  have HE := Lib.hid (B0.out.nm he)
  have HZ := Lib.hid (B0.out.nm hz)
  have E1 := Lib.hid (show decide (64 < dl E) = false by simp; omega)
  have E2 := Lib.hid (show decide (64 < dl Z) = false by simp; omega)
  have HG := Lib.hid (h.bel B0.out)
  have HY := Lib.hid (B0.out.nm hy)
  have HA := Lib.hid (B0.out.nm ha)
  have HD := Lib.hid (B0.out.nm hd)
  clear h hy ha hd he hz px
  go_enter Tryz.func22, Tryz.ntmps22
  go_wp2_with fail
  refine (rlong_any HE.out).mono ?_
  rintro e w1 ⟨rfl, rfl⟩
  rw [E1.out]
  go_wp2_with fail
  refine (rlong_any HZ.out).mono ?_
  rintro e w1 ⟨rfl, rfl⟩
  rw [E2.out]
  go_wp2_with fail
  refine (of_nm8 HY.out (by have := ly.1; omega)).mono ?_
  rintro e u1 ⟨D1, m1, d1, rfl, k1, b1⟩
  have C1 := Lib.hid (show B8 w0 u1 from b1)
  have K1 := Lib.hid k1
  have N1 := Lib.hid (show m1 ≤ 10000 by have h1 := k1.len_; have h2 := li_dr ly HY.out; omega)
  clear k1 b1
  go_wp2_with fail
  refine (of_nm8 (C1.out.nm HA.out) (by have := la.1; omega)).mono ?_
  rintro e u2 ⟨D2, m2, d2, rfl, k2, b2⟩
  have C2 := Lib.hid (C1.out.trans (show B8 u1 u2 from b2))
  have K1b := Lib.hid (rn_bel K1.out (show B8 u1 u2 from b2))
  have K2 := Lib.hid k2
  have N2 := Lib.hid (show m2 ≤ 10000 by have h1 := k2.len_; have h2 := li_dr la HA.out; omega)
  clear k2 b2 K1
  go_wp2_with fail
  refine (of_nm8 (C2.out.nm HD.out) (by have := ld.1; omega)).mono ?_
  rintro e u3 ⟨D3, m3, d3, rfl, k3, b3⟩
  have C3 := Lib.hid (C2.out.trans (show B8 u2 u3 from b3))
  have K1c := Lib.hid (rn_bel K1b.out (show B8 u2 u3 from b3))
  have K2b := Lib.hid (rn_bel K2.out (show B8 u2 u3 from b3))
  have K3 := Lib.hid k3
  have N3 := Lib.hid (show m3 ≤ 10000 by have h1 := k3.len_; have h2 := li_dr ld HD.out; omega)
  clear k3 b3 K1b K2
  by_cases g1 : El r.P r.Q Y
  · have G1 := Lib.hid g1
    by_cases g2 : El r.P r.Q X
    · have G2 := Lib.hid g2
      have G3 := Lib.hid (show ¬ El r.P r.Q M from fun g3 => hX ⟨g1, g2, g3⟩)
      clear hX g1 g2
      go_wp2_with fail
      refine (is7_any (HG.out.bel C3.out).toRg7 ly K1c.out N1.out true ⟨fun _ => G1.out, fun _ => rfl⟩).mono ?_
      rintro e u4 ⟨rfl, b4⟩
      have E4 := Lib.hid (show B8 u3 u4 from b4)
      have C4 := Lib.hid (C3.out.trans E4.out)
      clear b4
      go_wp2_with fail
      refine (is7_any (HG.out.bel C4.out).toRg7 la (rn_bel K2b.out E4.out) N2.out true ⟨fun _ => G2.out, fun _ => rfl⟩).mono ?_
      rintro e u5 ⟨rfl, b5⟩
      have E5 := Lib.hid (show B8 u4 u5 from b5)
      have C5 := Lib.hid (C4.out.trans E5.out)
      clear b5
      go_wp2_with fail
      refine (is7_any (HG.out.bel C5.out).toRg7 ld (rn_bel (rn_bel K3.out E4.out) E5.out) N3.out false ⟨fun e => (by cases e), fun e => absurd e G3.out⟩).mono ?_
      rintro e u6 ⟨rfl, b6⟩
      have E6 := Lib.hid (show B8 u5 u6 from b6)
      have C6 := Lib.hid (C5.out.trans E6.out)
      clear b6
      go_wp2_with fail
      go_ret
      exact ⟨rfl, B0.out.trans C6.out⟩
    · have G2 := Lib.hid g2
      clear hX g1 g2
      go_wp2_with fail
      refine (is7_any (HG.out.bel C3.out).toRg7 ly K1c.out N1.out true ⟨fun _ => G1.out, fun _ => rfl⟩).mono ?_
      rintro e u4 ⟨rfl, b4⟩
      have E4 := Lib.hid (show B8 u3 u4 from b4)
      have C4 := Lib.hid (C3.out.trans E4.out)
      clear b4
      go_wp2_with fail
      refine (is7_any (HG.out.bel C4.out).toRg7 la (rn_bel K2b.out E4.out) N2.out false ⟨fun e => (by cases e), fun e => absurd e G2.out⟩).mono ?_
      rintro e u5 ⟨rfl, b5⟩
      have E5 := Lib.hid (show B8 u4 u5 from b5)
      have C5 := Lib.hid (C4.out.trans E5.out)
      clear b5
      go_wp2_with fail
      go_ret
      exact ⟨rfl, B0.out.trans C5.out⟩
  · have G1 := Lib.hid g1
    clear hX g1
    go_wp2_with fail
    refine (is7_any (HG.out.bel C3.out).toRg7 ly K1c.out N1.out false ⟨fun e => (by cases e), fun e => absurd e G1.out⟩).mono ?_
    rintro e u4 ⟨rfl, b4⟩
    have E4 := Lib.hid (show B8 u3 u4 from b4)
    have C4 := Lib.hid (C3.out.trans E4.out)
    clear b4
    go_wp2_with fail
    go_ret
    exact ⟨rfl, B0.out.trans C4.out⟩
set_option maxHeartbeats 16000000 in
set_option maxRecDepth 100000 in
theorem requals_ok (h : Rg8 w b k r) (hc : Bz w Ac nc ctx) (hnc : nc ≤ 500) (hy : Nm w A n c Y) (ly : Li n Y) (ha : Nm w Aa na ca X) (la : Li na X) (hd : Nm w Ad nd cd M) (ld : Li nd M) (hY : El r.P r.Q Y) (hX : El r.P r.Q X) (hM : El r.P r.Q M) (he : Nm w Ae ne ce E) (le : ne ≤ 300) (dE : dl E ≤ 64) (hz : Nm w Az nz cz Z) (lz : nz ≤ 300) (dZ : dl Z ≤ 64) :
    Calls Tryz.prog 22 #[.pointer (some ⟨b, 0, none⟩), .slice Ac nc cc, .slice A n c, .slice Aa na ca, .slice Ad nd cd, .agg #[.slice Ae ne ce, .slice Az nz cz]] w (DvP E (ceE r.P r.Q r.G ctx Y X M Z E) w) := by
  have B0 := Lib.hid (B8.alloc w (.cells #[.slice Ae ne ce, .slice Az nz cz] 33))
  have px := pf_box w (.slice Ae ne ce) (.slice Az nz cz)
  obtain ⟨w0, hw0⟩ : ∃ w0, w.alloc (.cells #[.slice Ae ne ce, .slice Az nz cz] 33) = w0 := ⟨_, rfl⟩
  have SP := Lib.hid (show w.heap.size < w0.heap.size by rw [← hw0]; simp)
  rw [hw0] at B0 px
  have PX := Lib.hid px
  have x0 := px.1
  have x1 := px.2
  have HE := Lib.hid (B0.out.nm he)
  have HZ := Lib.hid (B0.out.nm hz)
  have E1 := Lib.hid (show decide (64 < dl E) = false by simp; omega)
  have E2 := Lib.hid (show decide (64 < dl Z) = false by simp; omega)
  have HG := Lib.hid (h.bel B0.out)
  have HC := Lib.hid (B0.out.bz hc)
  have HY := Lib.hid (B0.out.nm hy)
  have HA := Lib.hid (B0.out.nm ha)
  have HD := Lib.hid (B0.out.nm hd)
  have G1 := Lib.hid hY
  have G2 := Lib.hid hX
  have G3 := Lib.hid hM
  have P0 := Lib.hid h.p0
  have Q0 := Lib.hid h.q0
  have DE := Lib.hid (show dr E ≤ 256 from dr_nm he.pos dE)
  clear h hc hy ha hd hY hX hM he hz px
  go_enter Tryz.func22, Tryz.ntmps22
  go_wp2_with fail
  refine (rlong_any HE.out).mono ?_
  rintro e w1 ⟨rfl, rfl⟩
  rw [E1.out]
  go_wp2_with fail
  refine (rlong_any HZ.out).mono ?_
  rintro e w1 ⟨rfl, rfl⟩
  rw [E2.out]
  go_wp2_with fail
  refine (of_nm8 HY.out (by have := ly.1; omega)).mono ?_
  rintro e u1 ⟨D1, m1, d1, rfl, k1, b1⟩
  have C1 := Lib.hid (show B8 w0 u1 from b1)
  have K1 := Lib.hid k1
  have N1 := Lib.hid (show m1 ≤ 10000 by have h1 := k1.len_; have h2 := li_dr ly HY.out; omega)
  clear k1 b1
  go_wp2_with fail
  refine (of_nm8 (C1.out.nm HA.out) (by have := la.1; omega)).mono ?_
  rintro e u2 ⟨D2, m2, d2, rfl, k2, b2⟩
  have C2 := Lib.hid (C1.out.trans (show B8 u1 u2 from b2))
  have K1b := Lib.hid (rn_bel K1.out (show B8 u1 u2 from b2))
  have K2 := Lib.hid k2
  have N2 := Lib.hid (show m2 ≤ 10000 by have h1 := k2.len_; have h2 := li_dr la HA.out; omega)
  clear k2 b2 K1
  go_wp2_with fail
  refine (of_nm8 (C2.out.nm HD.out) (by have := ld.1; omega)).mono ?_
  rintro e u3 ⟨D3, m3, d3, rfl, k3, b3⟩
  have C3 := Lib.hid (C2.out.trans (show B8 u2 u3 from b3))
  have K1c := Lib.hid (rn_bel K1b.out (show B8 u2 u3 from b3))
  have K2b := Lib.hid (rn_bel K2.out (show B8 u2 u3 from b3))
  have K3 := Lib.hid k3
  have N3 := Lib.hid (show m3 ≤ 10000 by have h1 := k3.len_; have h2 := li_dr ld HD.out; omega)
  clear k3 b3 K1b K2
  go_wp2_with fail
  refine (is7_any (HG.out.bel C3.out).toRg7 ly K1c.out N1.out true ⟨fun _ => G1.out, fun _ => rfl⟩).mono ?_
  rintro e u4 ⟨rfl, b4⟩
  have E4 := Lib.hid (show B8 u3 u4 from b4)
  have C4 := Lib.hid (C3.out.trans E4.out)
  clear b4
  go_wp2_with fail
  refine (is7_any (HG.out.bel C4.out).toRg7 la (rn_bel K2b.out E4.out) N2.out true ⟨fun _ => G2.out, fun _ => rfl⟩).mono ?_
  rintro e u5 ⟨rfl, b5⟩
  have E5 := Lib.hid (show B8 u4 u5 from b5)
  have C5 := Lib.hid (C4.out.trans E5.out)
  clear b5
  go_wp2_with fail
  refine (is7_any (HG.out.bel C5.out).toRg7 ld (rn_bel (rn_bel K3.out E4.out) E5.out) N3.out true ⟨fun _ => G3.out, fun _ => rfl⟩).mono ?_
  rintro e u6 ⟨rfl, b6⟩
  have E6 := Lib.hid (show B8 u5 u6 from b6)
  have C6 := Lib.hid (C5.out.trans E6.out)
  clear b6
  have bd := E4.out.trans (E5.out.trans (E6.out.trans (B8.drew u6)))
  have C7 := Lib.hid (C3.out.trans bd)
  have L1 := Lib.hid (rn_bel K1c.out bd)
  have L2 := Lib.hid (rn_bel K2b.out bd)
  have L3 := Lib.hid (rn_bel K3.out bd)
  have NY := Lib.hid (HG.out.toRg.n3 HG.out.lp K1c.out G1.out.2.1)
  have NX := Lib.hid (HG.out.toRg.n3 HG.out.lp K2b.out G2.out.2.1)
  have NM := Lib.hid (HG.out.toRg.n3 HG.out.lp K3.out G3.out.2.1)
  have v2 := (C7.out.cell (o := 2) HG.out.toRg.lt).trans HG.out.toRg.c2
  have p0 := (C7.out.cell (o := 0) SP.out).trans PX.out.1
  have p1 := (C7.out.cell (o := 1) SP.out).trans PX.out.2
  have NG := Lib.hid (HG.out.toRg.n3 HG.out.lp HG.out.toRg.g HG.out.gP)
  clear bd x0 x1 K1c K2b K3 E4 E5 E6 C4 C5 C6 C3
  go_wp2_with fail
  clear hw0
  go_region_law (first
    | (go_simp; go_at_call 45; first
      | ((with_reducible refine (rchal5 (HG.out.bel (C7.out.trans F9.out)) ⟨#[101, 113, 117, 97, 108]⟩ (by decide) ((C7.out.trans F9.out).bz HC.out) hnc (rn_bel L1.out F9.out) (by have := NY.out; omega) (rn_bel L2.out F9.out) (by have := NX.out; omega) (rn_bel L3.out F9.out) (by have := NM.out; omega) (rn_bel K8.out E89.out) (by have := N8.out; omega) K9.out (by have := N9.out; omega)).mono ?_); rintro e ua ⟨Da, ma, da, rfl, ka, ba⟩; have CA := Lib.hid ((C7.out.trans F9.out).trans ((B8.alloc _ _).trans (show B8 _ ua from ba))); have KA := Lib.hid ka; clear ka ba)
      | ((with_reducible refine (rchal5d (HG.out.bel (C7.out.trans F9.out)) ⟨#[101, 113, 117, 97, 108]⟩ (by decide) ((C7.out.trans F9.out).bz HC.out) hnc (rn_bel L1.out F9.out) (by have := NY.out; omega) (rn_bel L2.out F9.out) (by have := NX.out; omega) (rn_bel L3.out F9.out) (by have := NM.out; omega) (rn_bel K8.out E89.out) (by have := N8.out; omega) K9.out (by have := N9.out; omega)).mono ?_); rintro e ua ⟨Da, ma, da, rfl, ka, ba⟩; have CA := Lib.hid ((C7.out.trans F9.out).trans (((B8.alloc _ _).trans (B8.drew _)).trans (show B8 _ ua from ba))); have KA := Lib.hid ka; clear ka ba))
    | (go_simp; go_at_call 53; first
      | ((with_reducible refine (rback_any (HG.out.bel (C7.out.trans F8.out)) (rn_bel L2.out F8.out) NX.out (rn_bel L3.out F8.out) NM.out ((C7.out.trans F8.out).nm HE.out) le dE ((C7.out.trans F8.out).nm HZ.out) lz dZ).mono ?_); rintro e u9 ⟨D9, m9, d9, rfl, k9, b9⟩; have E89 := Lib.hid (show B8 _ u9 from b9); have F9 := Lib.hid (F8.out.trans E89.out); have K9 := Lib.hid k9; have N9 := Lib.hid (HG.out.toRg.n3 HG.out.lp k9 (back_ltP P0.out)); clear k9 b9)
      | ((with_reducible refine (rback_any (HG.out.bel C7.out) (HG.out.bel C7.out).toRg.g NG.out L1.out NY.out (C7.out.nm HE.out) le dE (C7.out.nm HZ.out) lz dZ).mono ?_); rintro e u8 ⟨D8, m8, d8, rfl, k8, b8⟩; have F8 := Lib.hid (show B8 _ u8 from b8); have K8 := Lib.hid k8; have N8 := Lib.hid (HG.out.toRg.n3 HG.out.lp k8 (back_ltP P0.out)); have s0 := ((C7.out.trans F8.out).cell (o := 0) SP.out).trans PX.out.1; have s1 := ((C7.out.trans F8.out).cell (o := 1) SP.out).trans PX.out.2; clear k8 b8)))
  all_goals
    have NE := Lib.hid (HG.out.toRg.q3 HG.out.lq KA.out (chl_nn Q0.out).2)
    have y0 := (CA.out.cell (o := 0) SP.out).trans PX.out.1
    clear v2 p0 p1 s0 s1
    go_wp2_with fail
    refine (of_nm8 (CA.out.nm HE.out) (by omega)).mono ?_
    rintro e ub ⟨Db, mb, db, rfl, kb, bb⟩
    have CB := Lib.hid (CA.out.trans (show B8 _ ub from bb))
    have KAb := Lib.hid (rn_bel KA.out (show B8 _ ub from bb))
    have KB := Lib.hid kb
    have NB := Lib.hid (show mb ≤ 256 by have h1 := kb.len_; have h2 := DE.out; omega)
    clear kb bb y0
    go_wp2_with fail
    refine (rcmp_any KAb.out KB.out (by have := NE.out; omega) (by have := NB.out; omega)).mono ?_
    rintro e uc ⟨rfl, q, rfl⟩
    obtain ⟨C, hC⟩ : ∃ C, chl r.P r.Q (strB ⟨#[101, 113, 117, 97, 108]⟩) ctx (lsI [Y, X, M, backE r.P r.Q r.G Y Z E, backE r.P r.Q X M Z E]) 5 = C := ⟨_, rfl⟩
    have HCC := Lib.hid (show ceE r.P r.Q r.G ctx Y X M Z E = C from hC)
    rw [hC]
    clear hC
    by_cases g : E = C
    · have G := Lib.hid g
      have t1 : (cmpI C E != 0) = false := by rw [cmp_eq8 g.symm]; rfl
      clear g
      go_wp2_with fail
      go_ret
      exact ⟨⟨0, rfl, .inl ⟨G.out.trans HCC.out.symm, rfl⟩⟩, B0.out.trans (CB.out.trans (B8.drewN _ _))⟩
    · have G := Lib.hid g
      have t1 : (cmpI C E != 0) = true := by simpa using cmp_ne8 (fun e => g e.symm)
      clear g
      go_wp2_with fail
      go_ret
      exact ⟨⟨7, rfl, .inr ⟨fun e => G.out (e.trans HCC.out), rfl⟩⟩, B0.out.trans (CB.out.trans (B8.drewN _ _))⟩
end
end Go.Proofs.YtloibmemlkfkfaaGreatDoor
