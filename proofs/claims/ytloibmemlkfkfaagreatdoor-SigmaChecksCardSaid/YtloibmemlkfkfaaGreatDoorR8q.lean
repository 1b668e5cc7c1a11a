/-
  Several texts in one: R8d, R8e.
-/
import Derived.Test.YtloibmemlkfkfaaGreatDoorR8p
/-
  The document's layer 8: what Know answers.
-/
namespace Go.Proofs.YtloibmemlkfkfaaGreatDoor
open Go.RowKit
set_option linter.unusedVariables false
section
variable {w : World} {b k : Nat} {r : Rgd} {A A' Ak Ac Ae Az Aa Ad : Option Addr} {n c n' c' nk ck nc cc ne ce nz cz na ca nd cd : Nat} {X Y E S K Z M : Int} {ctx : List Int}
set_option maxHeartbeats 8000000 in
set_option maxRecDepth 100000 in
theorem rknow_ok (h : Rg8 w b k r) (s : ByteArray) (hs : s.size ≤ 100) (hc : Bz w Ac nc ctx) (hnc : nc ≤ 500) (hS : Nm w A n c S) (ns : n ≤ 300) (lS : dl S ≤ 64) (hK : Nm w A' n' c' K) (nk' : n' ≤ 300) (lK : dl K ≤ 64) :
    Calls Tryz.prog 14 #[.pointer (some ⟨b, 0, none⟩), .string s, .slice Ac nc cc, .slice A n c, .slice A' n' c'] w (DocV 0 (knE r.P r.Q r.G (strB s) ctx S K) (respN r.Q (knE r.P r.Q r.G (strB s) ctx S K) S K) w) := by
  have P0 := Lib.hid h.p0
  have Q0 := Lib.hid h.q0
  have B0 := Lib.hid (B8.alloc w (.cells #[.slice none 0 0, .slice none 0 0] 33))
  have R0 := Lib.hid (res_row w)
  obtain ⟨w0, hw0⟩ : ∃ w0, w.alloc (.cells #[.slice none 0 0, .slice none 0 0] 33) = w0 := ⟨_, rfl⟩
  have LT := Lib.hid (show w.heap.size < w0.heap.size by rw [← hw0]; simp)
  rw [hw0] at B0 R0
  have HG := Lib.hid (h.bel B0.out)
  have HC := Lib.hid (B0.out.bz hc)
  have HS := Lib.hid (B0.out.nm hS)
  have HK := Lib.hid (B0.out.nm hK)
  have DS := Lib.hid (show dr S ≤ 256 from dr_nm hS.pos lS)
  have DK := Lib.hid (show dr K ≤ 256 from dr_nm hK.pos lK)
  have E1 := Lib.hid (show decide (64 < dl S) = false by simp; omega)
  have E2 := Lib.hid (show decide (64 < dl K) = false by simp; omega)
  clear h hc hS hK
  go_enter Tryz.func14, Tryz.ntmps14
  go_wp2_with fail
  refine (rlong_any HS.out).mono ?_
  rintro e w1 ⟨rfl, rfl⟩
  rw [E1.out]
  go_wp2_with fail
  refine (rlong_any HK.out).mono ?_
  rintro e w1 ⟨rfl, rfl⟩
  rw [E2.out]
  go_wp2_with fail
  refine (of_nm8 HS.out (by omega)).mono ?_
  rintro e u1 ⟨D1, m1, d1, rfl, k1, b1⟩
  have C1 := Lib.hid (show B8 w0 u1 from b1)
  have K1 := Lib.hid k1
  have N1 := Lib.hid (show m1 ≤ 256 by have h1 := k1.len_; have h2 := DS.out; omega)
  clear k1 b1
  go_wp2_with fail
  refine (of_nm8 (C1.out.nm HK.out) (by omega)).mono ?_
  rintro e u2 ⟨D2, m2, d2, rfl, k2, b2⟩
  have E12 := show B8 u1 u2 from b2
  have bd := E12.trans (B8.drew u2)
  have C2 := Lib.hid (C1.out.trans bd)
  have K1b := Lib.hid (rn_bel K1.out bd)
  have K2 := Lib.hid (rn_bel k2 (B8.drew u2))
  have N2 := Lib.hid (show m2 ≤ 256 by have h1 := k2.len_; have h2 := DK.out; omega)
  have v2 := (C2.out.cell (o := 2) HG.out.toRg.lt).trans HG.out.toRg.c2
  clear k2 b2 E12 bd
  go_wp2_with fail
  clear hw0
  go_region_law (first
    | (go_simp; go_at_call 45; first
      | ((with_reducible refine (rchal2 (HG.out.bel C4.out) s hs (C4.out.bz HC.out) hnc K3b.out (by have := N3.out; omega) K4.out (by have := N4.out; omega)).mono ?_); rintro e u5 ⟨D5, m5, d5, rfl, k5, b5⟩; have DD := Lib.hid (E23.out.trans (E34.out.trans ((B8.alloc _ _).trans (show B8 _ u5 from b5)))); have C5 := Lib.hid (C2.out.trans DD.out); have K5 := Lib.hid k5; clear k5 b5)
      | ((with_reducible refine (rchal2d (HG.out.bel C4.out) s hs (C4.out.bz HC.out) hnc K3b.out (by have := N3.out; omega) K4.out (by have := N4.out; omega)).mono ?_); rintro e u5 ⟨D5, m5, d5, rfl, k5, b5⟩; have DD := Lib.hid (E23.out.trans (E34.out.trans (((B8.alloc _ _).trans (B8.drew _)).trans (show B8 _ u5 from b5)))); have C5 := Lib.hid (C2.out.trans DD.out); have K5 := Lib.hid k5; clear k5 b5))
    | (go_simp; go_at_call 46; first
      | ((with_reducible refine (rgx_any (HG.out.bel C3.out).toRg HG.out.lp HG.out.lq P0.out Q0.out (HG.out.bel C3.out).toRg.g (rn_bel K2.out E23.out) NG.out (by have := N2.out; omega)).mono ?_); rintro e u4 ⟨D4, m4, d4, rfl, k4, b4⟩; have E34 := Lib.hid (show B8 _ u4 from b4); have C4 := Lib.hid (C3.out.trans E34.out); have K4 := Lib.hid k4; have K3b := Lib.hid (rn_bel K3.out E34.out); have N4 := Lib.hid (HG.out.toRg.n3 HG.out.lp k4 (gx_ltP P0.out)); clear k4 b4)
      | ((with_reducible refine (rgx_any (HG.out.bel C2.out).toRg HG.out.lp HG.out.lq P0.out Q0.out (HG.out.bel C2.out).toRg.g K1b.out (HG.out.toRg.n3 HG.out.lp HG.out.toRg.g HG.out.gP) (by have := N1.out; omega)).mono ?_); rintro e u3 ⟨D3, m3, d3, rfl, k3, b3⟩; have E23 := Lib.hid (show B8 _ u3 from b3); have C3 := Lib.hid (C2.out.trans E23.out); have K3 := Lib.hid k3; have NG := Lib.hid (HG.out.toRg.n3 HG.out.lp HG.out.toRg.g HG.out.gP); have N3 := Lib.hid (HG.out.toRg.n3 HG.out.lp k3 (gx_ltP P0.out)); have x2 := (C3.out.cell (o := 2) HG.out.toRg.lt).trans HG.out.toRg.c2; clear k3 b3)))
  all_goals
    have NE := Lib.hid (HG.out.toRg.q3 HG.out.lq K5.out (chl_nn Q0.out).2)
    clear v2 x2
    go_wp2_with fail
    refine (ranswer_new (HG.out.bel C5.out).toRg HG.out.lq Q0.out K5.out NE.out (rn_bel K1b.out DD.out) N1.out (rn_bel K2.out DD.out) N2.out).mono ?_
    rintro e u6 ⟨D6, m6, d6, D7, m7, d7, rfl, k6, k7, n6, n7, b6⟩
    have CF := Lib.hid (C5.out.trans b6)
    have K6 := Lib.hid k6
    have K7 := Lib.hid k7
    have z5 := C5.out.sz
    have N6 := Lib.hid (show ∀ a, D6 = some a → 0 < m6 → a.block ≠ w.heap.size from fun a ha _ => by have := n6 a ha; have := LT.out; omega)
    have N7 := Lib.hid (show ∀ a, D7 = some a → 0 < m7 → a.block ≠ w.heap.size from fun a ha _ => by have := n7 a ha; have := LT.out; omega)
    have ROW := Lib.hid ((CF.out.row LT.out).trans R0.out)
    clear k6 k7 n6 n7 b6 z5
    have y0 : u6.cell? ⟨w.heap.size, 0, none⟩ = some (.slice none 0 0) := cell_of_row u6 _ 0 _ _ _ ROW.out
    have y1 : u6.cell? ⟨w.heap.size, 1, none⟩ = some (.slice none 0 0) := cell_of_row u6 _ 1 _ _ _ ROW.out
    have z0 := frozen_of_row u6 w.heap.size 0 _ _ ROW.out
    have z1 := frozen_of_row u6 w.heap.size 1 _ _ ROW.out
    go_wp2_with fail
    refine bodyPost_ret (v := .tuple #[.agg #[.slice D6 m6 d6, .slice D7 m7 d7], .int .i64 0]) (results_pf Tryz.results14 _ _ _ w.heap.size _ rfl (load_pf (two_row ROW.out)) rfl) rfl ?_
    exact ⟨D6, m6, d6, D7, m7, d7, rfl, K6.out.set2 N6.out _ _, K7.out.set2 N7.out _ _, (B0.out.trans CF.out).set2 (Nat.le_refl _) _ _⟩
theorem rknow_long (s : ByteArray) (hS : Nm w A n c S) (hK : Nm w A' n' c' K) (hl : 64 < dl S ∨ 64 < dl K) :
    Calls Tryz.prog 14 #[.pointer (some ⟨b, 0, none⟩), .string s, .slice Ac nc cc, .slice A n c, .slice A' n' c'] w (DocV 2 E Z w) := by
  have B0 := Lib.hid (B8.alloc w (.cells #[.slice none 0 0, .slice none 0 0] 33))
  have R0 := Lib.hid (res_row w)
  obtain ⟨w0, hw0⟩ : ∃ w0, w.alloc (.cells #[.slice none 0 0, .slice none 0 0] 33) = w0 := ⟨_, rfl⟩
  have LT := Lib.hid (show w.heap.size < w0.heap.size by rw [← hw0]; simp)
  rw [hw0] at B0 R0
  have HS := Lib.hid (B0.out.nm hS)
  have HK := Lib.hid (B0.out.nm hK)
  have y0 : w0.cell? ⟨w.heap.size, 0, none⟩ = some (.slice none 0 0) := cell_of_row w0 _ 0 _ _ _ R0.out
  have y1 : w0.cell? ⟨w.heap.size, 1, none⟩ = some (.slice none 0 0) := cell_of_row w0 _ 1 _ _ _ R0.out
  have z0 := frozen_of_row w0 w.heap.size 0 _ _ R0.out
  have z1 := frozen_of_row w0 w.heap.size 1 _ _ R0.out
  clear hS hK
  by_cases g : 64 < dl S
  · have E1 := Lib.hid (show decide (64 < dl S) = true by simp; omega)
    clear hl g
    go_enter Tryz.func14, Tryz.ntmps14
    go_wp2_with fail
    refine (rlong_any HS.out).mono ?_
    rintro e w1 ⟨rfl, rfl⟩
    rw [E1.out]
    go_wp2_with fail
    refine bodyPost_ret (v := .tuple #[.agg #[.slice none 0 0, .slice none 0 0], .int .i64 2]) (results_pf Tryz.results14 _ _ _ w.heap.size _ rfl (load_pf (two_row R0.out)) rfl) rfl ?_
    exact doc_no (by decide) rfl (B0.out.set2 (Nat.le_refl _) _ _)
  · have E1 := Lib.hid (show decide (64 < dl S) = false by simp; omega)
    have E2 := Lib.hid (show decide (64 < dl K) = true by simp; omega)
    clear hl g
    go_enter Tryz.func14, Tryz.ntmps14
    go_wp2_with fail
    refine (rlong_any HS.out).mono ?_
    rintro e w1 ⟨rfl, rfl⟩
    rw [E1.out]
    go_wp2_with fail
    refine (rlong_any HK.out).mono ?_
    rintro e w1 ⟨rfl, rfl⟩
    rw [E2.out]
    go_wp2_with fail
    refine bodyPost_ret (v := .tuple #[.agg #[.slice none 0 0, .slice none 0 0], .int .i64 2]) (results_pf Tryz.results14 _ _ _ w.heap.size _ rfl (load_pf (two_row R0.out)) rfl) rfl ?_
    exact doc_no (by decide) rfl (B0.out.set2 (Nat.le_refl _) _ _)
end
end Go.Proofs.YtloibmemlkfkfaaGreatDoor
/-
  The document's layer 8: what Knows answers.
-/
namespace Go.Proofs.YtloibmemlkfkfaaGreatDoor
open Go.RowKit
set_option linter.unusedVariables false
section
variable {w : World} {b k : Nat} {r : Rgd} {A A' Ak Ac Ae Az Aa Ad : Option Addr} {n c n' c' nk ck nc cc ne ce nz cz na ca nd cd : Nat} {X Y E S K Z M : Int} {ctx : List Int}
theorem cmp_eq8 {N M : Int} (h : N = M) : cmpI N M = 0 := by subst h; simp [cmpI]
theorem cmp_ne8 {N M : Int} (h : N ≠ M) : cmpI N M ≠ 0 := by
  unfold cmpI
  split
  · decide
  · split
    · decide
    · omega
/-- The document's verdict. -/
def DvP (E C : Int) (w : World) (e : Ending) (w' : World) : Prop := (∃ v, e = .returned (.int .i64 v) ∧ (E = C ∧ v = 0 ∨ E ≠ C ∧ v = 7)) ∧ B8 w w'
theorem rknows_long (s : ByteArray) (he : Nm w Ae ne ce E) (hz : Nm w Az nz cz Z) (hl : 64 < dl E ∨ 64 < dl Z) :
    Calls Tryz.prog 21 #[.pointer (some ⟨b, 0, none⟩), .string s, .slice Ac nc cc, .slice A n c, .agg #[.slice Ae ne ce, .slice Az nz cz]] w (fun e w' => e = .returned (.int .i64 2) ∧ B8 w w') := by
  have B0 := Lib.hid (B8.alloc w (.cells #[.slice Ae ne ce, .slice Az nz cz] 33))
  have px := pf_box w (.slice Ae ne ce) (.slice Az nz cz)
  obtain ⟨w0, hw0⟩ : ∃ w0, w.alloc (.cells #[.slice Ae ne ce, .slice Az nz cz] 33) = w0 := ⟨_, rfl⟩
  have SP := Lib.hid (show w.heap.size < w0.heap.size by rw [← hw0]; simp)
  rw [hw0] at B0 px
  have PX := Lib.hid px
  have x0 := px.1
  have x1 := px.2
  have HE := Lib.hid (B0.out.nm he)
  have HZ := Lib.hid (B0.out.nm hz)
  clear he hz px
  by_cases g : 64 < dl E
  · have E1 := Lib.hid (show decide (64 < dl E) = true by simp; omega)
    clear hl g
    go_enter Tryz.func21, Tryz.ntmps21
    go_wp2_with fail
    refine (rlong_any HE.out).mono ?_
    rintro e w1 ⟨rfl, rfl⟩
    rw [E1.out]
    go_wp2_with fail
    go_ret
    exact ⟨rfl, B0.out⟩
  · have E1 := Lib.hid (show decide (64 < dl E) = false by simp; omega)
    have E2 := Lib.hid (show decide (64 < dl Z) = true by simp; omega)
    clear hl g
    go_enter Tryz.func21, Tryz.ntmps21
    go_wp2_with fail
    refine (rlong_any HE.out).mono ?_
    rintro e w1 ⟨rfl, rfl⟩
    rw [E1.out]
    go_wp2_with fail
    refine (rlong_any HZ.out).mono ?_
    rintro e w1 ⟨rfl, rfl⟩
    rw [E2.out]
    go_wp2_with fail
    go_ret
    exact ⟨rfl, B0.out⟩
set_option maxHeartbeats 8000000 in
set_option maxRecDepth 100000 in
theorem rknows_no (h : Rg8 w b k r) (s : ByteArray) (hy : Nm w A n c Y) (ly : Li n Y) (hY : ¬ El r.P r.Q Y) (he : Nm w Ae ne ce E) (le : ne ≤ 300) (dE : dl E ≤ 64) (hz : Nm w Az nz cz Z) (lz : nz ≤ 300) (dZ : dl Z ≤ 64) :
    Calls Tryz.prog 21 #[.pointer (some ⟨b, 0, none⟩), .string s, .slice Ac nc cc, .slice A n c, .agg #[.slice Ae ne ce, .slice Az nz cz]] w (fun e w' => e = .returned (.int .i64 8) ∧ B8 w w') := by
  have B0 := Lib.hid (B8.alloc w (.cells #[.slice Ae ne ce, .slice Az nz cz] 33))
  have px := pf_box w (.slice Ae ne ce) (.slice Az nz cz)
  obtain ⟨w0, hw0⟩ : ∃ w0, w.alloc (.cells #[.slice Ae ne ce, .slice Az nz cz] 33) = w0 := ⟨_, rfl⟩
  have SP := Lib.hid (show w.heap.size < w0.heap.size by rw [← hw0]; simp)
  rw [hw0] at B0 px
  have PX := Lib.hid px
  have x0 := px.1
  have x1 := px.2
  have HE := Lib.hid (B0.out.nm he)
  have HZ := Lib.hid (B0.out.nm hz)
  have E1 := Lib.hid (show decide (64 < dl E) = false by simp; omega)
  have E2 := Lib.hid (show decide (64 < dl Z) = false by simp; omega)
  have HG := Lib.hid (h.bel B0.out)
  have HY := Lib.hid (B0.out.nm hy)
  have EY := Lib.hid hY
  clear h hy hY he hz px
  go_enter Tryz.func21, Tryz.ntmps21
  go_wp2_with fail
  refine (rlong_any HE.out).mono ?_
  rintro e w1 ⟨rfl, rfl⟩
  rw [E1.out]
  go_wp2_with fail
  refine (rlong_any HZ.out).mono ?_
  rintro e w1 ⟨rfl, rfl⟩
  rw [E2.out]
  go_wp2_with fail
  refine (of_nm8 HY.out (by have := ly.1; omega)).mono ?_
  rintro e u1 ⟨D1, m1, d1, rfl, k1, b1⟩
  have C1 := Lib.hid (show B8 w0 u1 from b1)
  have K1 := Lib.hid k1
  have N1 := Lib.hid (show m1 ≤ 10000 by have h1 := k1.len_; have h2 := li_dr ly HY.out; omega)
  clear k1 b1
  go_wp2_with fail
  refine (is7_any (HG.out.bel C1.out).toRg7 ly K1.out N1.out false ⟨fun e => (by cases e), fun e => absurd e EY.out⟩).mono ?_
  rintro e u2 ⟨rfl, b2⟩
  have C2 := Lib.hid (C1.out.trans (show B8 u1 u2 from b2))
  clear b2
  go_wp2_with fail
  go_ret
  exact ⟨rfl, B0.out.trans C2.out⟩
set_option maxHeartbeats 8000000 in
set_option maxRecDepth 100000 in
theorem rknows_ok (h : Rg8 w b k r) (s : ByteArray) (hs : s.size ≤ 100) (hc : Bz w Ac nc ctx) (hnc : nc ≤ 500) (hy : Nm w A n c Y) (ly : Li n Y) (hY : El r.P r.Q Y) (he : Nm w Ae ne ce E) (le : ne ≤ 300) (dE : dl E ≤ 64) (hz : Nm w Az nz cz Z) (lz : nz ≤ 300) (dZ : dl Z ≤ 64) :
    Calls Tryz.prog 21 #[.pointer (some ⟨b, 0, none⟩), .string s, .slice Ac nc cc, .slice A n c, .agg #[.slice Ae ne ce, .slice Az nz cz]] w (DvP E (kcE r.P r.Q r.G (strB s) ctx Y Z E) w) := by
  have B0 := Lib.hid (B8.alloc w (.cells #[.slice Ae ne ce, .slice Az nz cz] 33))
  have px := pf_box w (.slice Ae ne ce) (.slice Az nz cz)
  obtain ⟨w0, hw0⟩ : ∃ w0, w.alloc (.cells #[.slice Ae ne ce, .slice Az nz cz] 33) = w0 := ⟨_, rfl⟩
  have SP := Lib.hid (show w.heap.size < w0.heap.size by rw [← hw0]; simp)
  rw [hw0] at B0 px
  have PX := Lib.hid px
  have x0 := px.1
  have x1 := px.2
  have HE := Lib.hid (B0.out.nm he)
  have HZ := Lib.hid (B0.out.nm hz)
  have E1 := Lib.hid (show decide (64 < dl E) = false by simp; omega)
  have E2 := Lib.hid (show decide (64 < dl Z) = false by simp; omega)
  have HG := Lib.hid (h.bel B0.out)
  have HC := Lib.hid (B0.out.bz hc)
  have HY := Lib.hid (B0.out.nm hy)
  have EY := Lib.hid hY
  have P0 := Lib.hid h.p0
  have Q0 := Lib.hid h.q0
  have DE := Lib.hid (show dr E ≤ 256 from dr_nm he.pos dE)
  clear h hc hy hY he hz px
  go_enter Tryz.func21, Tryz.ntmps21
  go_wp2_with fail
  refine (rlong_any HE.out).mono ?_
  rintro e w1 ⟨rfl, rfl⟩
  rw [E1.out]
  go_wp2_with fail
  refine (rlong_any HZ.out).mono ?_
  rintro e w1 ⟨rfl, rfl⟩
  rw [E2.out]
  go_wp2_with fail
  refine (of_nm8 HY.out (by have := ly.1; omega)).mono ?_
  rintro e u1 ⟨D1, m1, d1, rfl, k1, b1⟩
  have C1 := Lib.hid (show B8 w0 u1 from b1)
  have K1 := Lib.hid k1
  have N1 := Lib.hid (show m1 ≤ 10000 by have h1 := k1.len_; have h2 := li_dr ly HY.out; omega)
  clear k1 b1
  go_wp2_with fail
  refine (is7_any (HG.out.bel C1.out).toRg7 ly K1.out N1.out true ⟨fun _ => EY.out, fun _ => rfl⟩).mono ?_
  rintro e u2 ⟨rfl, b2⟩
  have bd := (show B8 u1 u2 from b2).trans (B8.drew u2)
  have C2 := Lib.hid (C1.out.trans bd)
  have K1b := Lib.hid (rn_bel K1.out bd)
  have NY := Lib.hid (HG.out.toRg.n3 HG.out.lp K1.out EY.out.2.1)
  have v2 := (C2.out.cell (o := 2) HG.out.toRg.lt).trans HG.out.toRg.c2
  have p0 := (C2.out.cell (o := 0) SP.out).trans PX.out.1
  have p1 := (C2.out.cell (o := 1) SP.out).trans PX.out.2
  have NG := Lib.hid (HG.out.toRg.n3 HG.out.lp HG.out.toRg.g HG.out.gP)
  clear b2 bd x0 x1
  go_wp2_with fail
  clear hw0
  go_region_law (first
    | (go_simp; go_at_call 45; first
      | ((with_reducible refine (rchal2 (HG.out.bel C3.out) s hs (C3.out.bz HC.out) hnc K1c.out (by have := NY.out; omega) K3.out (by have := N3.out; omega)).mono ?_); rintro e u5 ⟨D5, m5, d5, rfl, k5, b5⟩; have C5 := Lib.hid (C3.out.trans ((B8.alloc _ _).trans (show B8 _ u5 from b5))); have K5 := Lib.hid k5; clear k5 b5)
      | ((with_reducible refine (rchal2d (HG.out.bel C3.out) s hs (C3.out.bz HC.out) hnc K1c.out (by have := NY.out; omega) K3.out (by have := N3.out; omega)).mono ?_); rintro e u5 ⟨D5, m5, d5, rfl, k5, b5⟩; have C5 := Lib.hid (C3.out.trans (((B8.alloc _ _).trans (B8.drew _)).trans (show B8 _ u5 from b5))); have K5 := Lib.hid k5; clear k5 b5))
    | (go_simp; go_at_call 53; (with_reducible refine (rback_any (HG.out.bel C2.out) (HG.out.bel C2.out).toRg.g NG.out K1b.out NY.out (C2.out.nm HE.out) le dE (C2.out.nm HZ.out) lz dZ).mono ?_); rintro e u3 ⟨D3, m3, d3, rfl, k3, b3⟩; have E23 := Lib.hid (show B8 _ u3 from b3); have C3 := Lib.hid (C2.out.trans E23.out); have K3 := Lib.hid k3; have K1c := Lib.hid (rn_bel K1b.out E23.out); have N3 := Lib.hid (HG.out.toRg.n3 HG.out.lp k3 (back_ltP P0.out)); clear k3 b3))
  all_goals
    have NE := Lib.hid (HG.out.toRg.q3 HG.out.lq K5.out (chl_nn Q0.out).2)
    have y0 := (C5.out.cell (o := 0) SP.out).trans PX.out.1
    clear v2 p0 p1
    go_wp2_with fail
    refine (of_nm8 (C5.out.nm HE.out) (by omega)).mono ?_
    rintro e u6 ⟨D6, m6, d6, rfl, k6, b6⟩
    have C6 := Lib.hid (C5.out.trans (show B8 _ u6 from b6))
    have K5b := Lib.hid (rn_bel K5.out (show B8 _ u6 from b6))
    have K6 := Lib.hid k6
    have N6 := Lib.hid (show m6 ≤ 256 by have h1 := k6.len_; have h2 := DE.out; omega)
    clear k6 b6 y0
    go_wp2_with fail
    refine (rcmp_any K5b.out K6.out (by have := NE.out; omega) (by have := N6.out; omega)).mono ?_
    rintro e u7 ⟨rfl, q, rfl⟩
    by_cases g : E = kcE r.P r.Q r.G (strB s) ctx Y Z E
    · have G := Lib.hid g
      have t := cmp_eq8 g.symm
      have t1 : (cmpI (chl r.P r.Q (strB s) ctx (lsI [Y, backE r.P r.Q r.G Y Z E]) 2) E != 0) = false := by
        have h : cmpI (chl r.P r.Q (strB s) ctx (lsI [Y, backE r.P r.Q r.G Y Z E]) 2) E = 0 := t
        rw [h]; rfl
      clear g t
      go_wp2_with fail
      go_ret
      exact ⟨⟨0, rfl, .inl ⟨G.out, rfl⟩⟩, B0.out.trans (C6.out.trans (B8.drewN _ _))⟩
    · have G := Lib.hid g
      have t := cmp_ne8 (fun e => g e.symm)
      have t1 : (cmpI (chl r.P r.Q (strB s) ctx (lsI [Y, backE r.P r.Q r.G Y Z E]) 2) E != 0) = true := by
        have h : cmpI (chl r.P r.Q (strB s) ctx (lsI [Y, backE r.P r.Q r.G Y Z E]) 2) E ≠ 0 := t
        simpa using h
      clear g t
      go_wp2_with fail
      go_ret
      exact ⟨⟨7, rfl, .inr ⟨G.out, rfl⟩⟩, B0.out.trans (C6.out.trans (B8.drewN _ _))⟩
end
end Go.Proofs.YtloibmemlkfkfaaGreatDoor
