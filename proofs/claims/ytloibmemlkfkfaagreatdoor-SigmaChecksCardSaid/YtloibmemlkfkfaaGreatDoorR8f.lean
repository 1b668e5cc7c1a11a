/-
  The document's layer 8: what Equal answers.
-/
import Derived.Test.YtloibmemlkfkfaaGreatDoorR8q
namespace Go.Proofs.YtloibmemlkfkfaaGreatDoor
open Go.RowKit
set_option linter.unusedVariables false
section
variable {w : World} {b k : Nat} {r : Rgd} {A A' Ak Ac Ae Az Aa Ad : Option Addr} {n c n' c' nk ck nc cc ne ce nz cz na ca nd cd : Nat} {X Y E S K Z M : Int} {ctx : List Int}
theorem requal_long (hS : Nm w A n c S) (hK : Nm w A' n' c' K) (hl : 64 < dl S ∨ 64 < dl K) :
    Calls Tryz.prog 15 #[.pointer (some ⟨b, 0, none⟩), .slice Ac nc cc, .slice Aa na ca, .slice A n c, .slice A' n' c'] w (DocV 2 E Z w) := by
  have B0 := Lib.hid (B8.alloc w (.cells #[.slice none 0 0, .slice none 0 0] 33))
  have R0 := Lib.hid (res_row w)
  obtain ⟨w0, hw0⟩ : ∃ w0, w.alloc (.cells #[.slice none 0 0, .slice none 0 0] 33) = w0 := ⟨_, rfl⟩
  have LT := Lib.hid (show w.heap.size < w0.heap.size by rw [← hw0]; simp)
  rw [hw0] at B0 R0
  have HS := Lib.hid (B0.out.nm hS)
  have HK := Lib.hid (B0.out.nm hK)
  have y0 : w0.cell? ⟨w.heap.size, 0, none⟩ = some (.slice none 0 0) := cell_of_row w0 _ 0 _ _ _ R0.out
  have y1 : w0.cell? ⟨w.heap.size, 1, none⟩ = some (.slice none 0 0) := cell_of_row w0 _ 1 _ _ _ R0.out
  have z0 := frozen_of_row w0 w.heap.size 0 _ _ R0.out
  have z1 := frozen_of_row w0 w.heap.size 1 _ _ R0.out
  clear hS hK
  by_cases g : 64 < dl S
  · have E1 := Lib.hid (show decide (64 < dl S) = true by simp; omega)
    clear hl g
    go_enter Tryz.func15, Tryz.ntmps15
    go_wp2_with fail
    refine (rlong_any HS.out).mono ?_
    rintro e w1 ⟨rfl, rfl⟩
    rw [E1.out]
    go_wp2_with fail
    refine bodyPost_ret (v := .tuple #[.agg #[.slice none 0 0, .slice none 0 0], .int .i64 2]) (results_pf Tryz.results15 _ _ _ w.heap.size _ rfl (load_pf (two_row R0.out)) rfl) rfl ?_
    exact doc_no (by decide) rfl (B0.out.set2 (Nat.le_refl _) _ _)
  · have E1 := Lib.hid (show decide (64 < dl S) = false by simp; omega)
    have E2 := Lib.hid (show decide (64 < dl K) = true by simp; omega)
    clear hl g
    go_enter Tryz.func15, Tryz.ntmps15
    go_wp2_with fail
    refine (rlong_any HS.out).mono ?_
    rintro e w1 ⟨rfl, rfl⟩
    rw [E1.out]
    go_wp2_with fail
    refine (rlong_any HK.out).mono ?_
    rintro e w1 ⟨rfl, rfl⟩
    rw [E2.out]
    go_wp2_with fail
    refine bodyPost_ret (v := .tuple #[.agg #[.slice none 0 0, .slice none 0 0], .int .i64 2]) (results_pf Tryz.results15 _ _ _ w.heap.size _ rfl (load_pf (two_row R0.out)) rfl) rfl ?_
    exact doc_no (by decide) rfl (B0.out.set2 (Nat.le_refl _) _ _)
set_option maxHeartbeats 8000000 in
theorem requal_no (h : Rg8 w b k r) (ha : Nm w Aa na ca X) (la : Li na X) (hX : ¬ El r.P r.Q X) (hS : Nm w A n c S) (lS : dl S ≤ 64) (hK : Nm w A' n' c' K) (lK : dl K ≤ 64) :
    Calls Tryz.prog 15 #[.pointer (some ⟨b, 0, none⟩), .slice Ac nc cc, .slice Aa na ca, .slice A n c, .slice A' n' c'] w (DocV 8 E Z w) := by
  have B0 := Lib.hid (B8.alloc w (.cells #[.slice none 0 0, .slice none 0 0] 33))
  have R0 := Lib.hid (res_row w)
  obtain ⟨w0, hw0⟩ : ∃ w0, w.alloc (.cells #[.slice none 0 0, .slice none 0 0] 33) = w0 := ⟨_, rfl⟩
  have LT := Lib.hid (show w.heap.size < w0.heap.size by rw [← hw0]; simp)
  rw [hw0] at B0 R0
  have HG := Lib.hid (h.bel B0.out)
  have HA := Lib.hid (B0.out.nm ha)
  have EX := Lib.hid hX
  have HS := Lib.hid (B0.out.nm hS)
  have HK := Lib.hid (B0.out.nm hK)
  have DS := Lib.hid (show dr S ≤ 256 from dr_nm hS.pos lS)
  have DK := Lib.hid (show dr K ≤ 256 from dr_nm hK.pos lK)
  have E1 := Lib.hid (show decide (64 < dl S) = false by simp; omega)
  have E2 := Lib.hid (show decide (64 < dl K) = false by simp; omega)
  clear h ha hX hS hK
  go_enter Tryz.func15, Tryz.ntmps15
  go_wp2_with fail
  refine (rlong_any HS.out).mono ?_
  rintro e w1 ⟨rfl, rfl⟩
  rw [E1.out]
  go_wp2_with fail
  refine (rlong_any HK.out).mono ?_
  rintro e w1 ⟨rfl, rfl⟩
  rw [E2.out]
  go_wp2_with fail
  refine (of_nm8 HA.out (by have := la.1; omega)).mono ?_
  rintro e u1 ⟨D1, m1, d1, rfl, k1, b1⟩
  have C1 := Lib.hid (show B8 w0 u1 from b1)
  have K1 := Lib.hid k1
  have N1 := Lib.hid (show m1 ≤ 10000 by have h1 := k1.len_; have h2 := li_dr la HA.out; omega)
  clear k1 b1
  go_wp2_with fail
  refine (is7_any (HG.out.bel C1.out).toRg7 la K1.out N1.out false ⟨fun e => (by cases e), fun e => absurd e EX.out⟩).mono ?_
  rintro e u2 ⟨rfl, b2⟩
  have C2 := Lib.hid (C1.out.trans (show B8 u1 u2 from b2))
  have ROW := Lib.hid ((C2.out.row LT.out).trans R0.out)
  have y0 : u2.cell? ⟨w.heap.size, 0, none⟩ = some (.slice none 0 0) := cell_of_row u2 _ 0 _ _ _ ROW.out
  have y1 : u2.cell? ⟨w.heap.size, 1, none⟩ = some (.slice none 0 0) := cell_of_row u2 _ 1 _ _ _ ROW.out
  have z0 := frozen_of_row u2 w.heap.size 0 _ _ ROW.out
  have z1 := frozen_of_row u2 w.heap.size 1 _ _ ROW.out
  clear b2
  go_wp2_with fail
  refine bodyPost_ret (v := .tuple #[.agg #[.slice none 0 0, .slice none 0 0], .int .i64 8]) (results_pf Tryz.results15 _ _ _ w.heap.size _ rfl (load_pf (two_row ROW.out)) rfl) rfl ?_
  exact doc_no (by decide) rfl ((B0.out.trans C2.out).set2 (Nat.le_refl _) _ _)
set_option maxHeartbeats 16000000 in
set_option maxRecDepth 100000 in
theorem requal_ok (h : Rg8 w b k r) (hc : Bz w Ac nc ctx) (hnc : nc ≤ 500) (ha : Nm w Aa na ca X) (la : Li na X) (hX : El r.P r.Q X) (hS : Nm w A n c S) (ns : n ≤ 300) (lS : dl S ≤ 64) (hK : Nm w A' n' c' K) (nk' : n' ≤ 300) (lK : dl K ≤ 64) :
    Calls Tryz.prog 15 #[.pointer (some ⟨b, 0, none⟩), .slice Ac nc cc, .slice Aa na ca, .slice A n c, .slice A' n' c'] w (DocV 0 (eqE r.P r.Q r.G ctx X S K) (respN r.Q (eqE r.P r.Q r.G ctx X S K) S K) w) := by
  have P0 := Lib.hid h.p0
  have Q0 := Lib.hid h.q0
  have B0 := Lib.hid (B8.alloc w (.cells #[.slice none 0 0, .slice none 0 0] 33))
  have R0 := Lib.hid (res_row w)
  obtain ⟨w0, hw0⟩ : ∃ w0, w.alloc (.cells #[.slice none 0 0, .slice none 0 0] 33) = w0 := ⟨_, rfl⟩
  have LT := Lib.hid (show w.heap.size < w0.heap.size by rw [← hw0]; simp)
  rw [hw0] at B0 R0
  have HG := Lib.hid (h.bel B0.out)
  have HC := Lib.hid (B0.out.bz hc)
  have HA := Lib.hid (B0.out.nm ha)
  have EX := Lib.hid hX
  have HS := Lib.hid (B0.out.nm hS)
  have HK := Lib.hid (B0.out.nm hK)
  have DS := Lib.hid (show dr S ≤ 256 from dr_nm hS.pos lS)
  have DK := Lib.hid (show dr K ≤ 256 from dr_nm hK.pos lK)
  have E1 := Lib.hid (show decide (64 < dl S) = false by simp; omega)
  have E2 := Lib.hid (show decide (64 < dl K) = false by simp; omega)
  clear h hc ha hX hS hK
  go_enter Tryz.func15, Tryz.ntmps15
  go_wp2_with fail
  refine (rlong_any HS.out).mono ?_
  rintro e w1 ⟨rfl, rfl⟩
  rw [E1.out]
  go_wp2_with fail
  refine (rlong_any HK.out).mono ?_
  rintro e w1 ⟨rfl, rfl⟩
  rw [E2.out]
  go_wp2_with fail
  refine (of_nm8 HA.out (by have := la.1; omega)).mono ?_
  rintro e u1 ⟨D1, m1, d1, rfl, k1, b1⟩
  have C1 := Lib.hid (show B8 w0 u1 from b1)
  have K1 := Lib.hid k1
  have N1 := Lib.hid (show m1 ≤ 10000 by have h1 := k1.len_; have h2 := li_dr la HA.out; omega)
  clear k1 b1
  go_wp2_with fail
  refine (is7_any (HG.out.bel C1.out).toRg7 la K1.out N1.out true ⟨fun _ => EX.out, fun _ => rfl⟩).mono ?_
  rintro e u2 ⟨rfl, b2⟩
  have E2' := Lib.hid (show B8 u1 u2 from b2)
  have C2 := Lib.hid (C1.out.trans E2'.out)
  have K1b := Lib.hid (rn_bel K1.out E2'.out)
  have NX := Lib.hid (HG.out.toRg.n3 HG.out.lp K1.out EX.out.2.1)
  clear b2 E2' K1
  go_wp2_with fail
  refine (of_nm8 (C2.out.nm HS.out) (by omega)).mono ?_
  rintro e u3 ⟨D2, m2, d2, rfl, k2, b3⟩
  have E3' := Lib.hid (show B8 u2 u3 from b3)
  have C3 := Lib.hid (C2.out.trans E3'.out)
  have K1c := Lib.hid (rn_bel K1b.out E3'.out)
  have K2 := Lib.hid k2
  have N2 := Lib.hid (show m2 ≤ 256 by have h1 := k2.len_; have h2 := DS.out; omega)
  clear k2 b3 E3' K1b
  go_wp2_with fail
  refine (of_nm8 (C3.out.nm HK.out) (by omega)).mono ?_
  rintro e u4 ⟨D3, m3, d3, rfl, k3, b4⟩
  have bd := (show B8 u3 u4 from b4).trans (B8.drew u4)
  have C4 := Lib.hid (C3.out.trans bd)
  have K1d := Lib.hid (rn_bel K1c.out bd)
  have K2b := Lib.hid (rn_bel K2.out bd)
  have K3 := Lib.hid (rn_bel k3 (B8.drew u4))
  have N3 := Lib.hid (show m3 ≤ 256 by have h1 := k3.len_; have h2 := DK.out; omega)
  have v2 := (C4.out.cell (o := 2) HG.out.toRg.lt).trans HG.out.toRg.c2
  have NG := Lib.hid (HG.out.toRg.n3 HG.out.lp HG.out.toRg.g HG.out.gP)
  clear k3 b4 bd K1c K2
  go_wp2_with fail
  clear hw0
  go_region_law (first
    | (go_simp; go_at_call 45; first
      | ((with_reducible refine (rchal5 (HG.out.bel (C4.out.trans F8.out)) ⟨#[101, 113, 117, 97, 108]⟩ (by decide) ((C4.out.trans F8.out).bz HC.out) hnc (rn_bel K5.out E58.out) (by have := N5.out; omega) (rn_bel K1d.out F8.out) (by have := NX.out; omega) (rn_bel K6.out E68.out) (by have := N6.out; omega) (rn_bel K7.out E78.out) (by have := N7.out; omega) K8.out (by have := N8.out; omega)).mono ?_); rintro e u9 ⟨D9, m9, d9, rfl, k9, b9⟩; have DD := Lib.hid (F8.out.trans ((B8.alloc _ _).trans (show B8 _ u9 from b9))); have C5 := Lib.hid (C4.out.trans DD.out); have K9 := Lib.hid k9; clear k9 b9)
      | ((with_reducible refine (rchal5d (HG.out.bel (C4.out.trans F8.out)) ⟨#[101, 113, 117, 97, 108]⟩ (by decide) ((C4.out.trans F8.out).bz HC.out) hnc (rn_bel K5.out E58.out) (by have := N5.out; omega) (rn_bel K1d.out F8.out) (by have := NX.out; omega) (rn_bel K6.out E68.out) (by have := N6.out; omega) (rn_bel K7.out E78.out) (by have := N7.out; omega) K8.out (by have := N8.out; omega)).mono ?_); rintro e u9 ⟨D9, m9, d9, rfl, k9, b9⟩; have DD := Lib.hid (F8.out.trans (((B8.alloc _ _).trans (B8.drew _)).trans (show B8 _ u9 from b9))); have C5 := Lib.hid (C4.out.trans DD.out); have K9 := Lib.hid k9; clear k9 b9))
    | (go_simp; go_at_call 46; first
      | ((with_reducible refine (rgx_any (HG.out.bel (C4.out.trans F7.out)).toRg HG.out.lp HG.out.lq P0.out Q0.out (rn_bel K1d.out F7.out) (rn_bel K3.out F7.out) NX.out (by have := N3.out; omega)).mono ?_); rintro e u8 ⟨D8, m8, d8, rfl, k8, b8⟩; have E78 := Lib.hid (show B8 _ u8 from b8); have F8 := Lib.hid (F7.out.trans E78.out); have E68 := Lib.hid (E67.out.trans E78.out); have E58 := Lib.hid (E57.out.trans E78.out); have K8 := Lib.hid k8; have N8 := Lib.hid (HG.out.toRg.n3 HG.out.lp k8 (gx_ltP P0.out)); clear k8 b8)
      | ((with_reducible refine (rgx_any (HG.out.bel (C4.out.trans F6.out)).toRg HG.out.lp HG.out.lq P0.out Q0.out (HG.out.bel (C4.out.trans F6.out)).toRg.g (rn_bel K3.out F6.out) NG.out (by have := N3.out; omega)).mono ?_); rintro e u7 ⟨D7, m7, d7, rfl, k7, b7⟩; have E67 := Lib.hid (show B8 _ u7 from b7); have F7 := Lib.hid (F6.out.trans E67.out); have E57 := Lib.hid (E56.out.trans E67.out); have K7 := Lib.hid k7; have N7 := Lib.hid (HG.out.toRg.n3 HG.out.lp k7 (gx_ltP P0.out)); clear k7 b7)
      | ((with_reducible refine (rgx_any (HG.out.bel (C4.out.trans F5.out)).toRg HG.out.lp HG.out.lq P0.out Q0.out (rn_bel K1d.out F5.out) (rn_bel K2b.out F5.out) NX.out (by have := N2.out; omega)).mono ?_); rintro e u6 ⟨D6, m6, d6, rfl, k6, b6⟩; have E56 := Lib.hid (show B8 _ u6 from b6); have F6 := Lib.hid (F5.out.trans E56.out); have K6 := Lib.hid k6; have N6 := Lib.hid (HG.out.toRg.n3 HG.out.lp k6 (gx_ltP P0.out)); have x3 := ((C4.out.trans F6.out).cell (o := 2) HG.out.toRg.lt).trans HG.out.toRg.c2; clear k6 b6)
      | ((with_reducible refine (rgx_any (HG.out.bel C4.out).toRg HG.out.lp HG.out.lq P0.out Q0.out (HG.out.bel C4.out).toRg.g K2b.out NG.out (by have := N2.out; omega)).mono ?_); rintro e u5 ⟨D5, m5, d5, rfl, k5, b5⟩; have F5 := Lib.hid (show B8 _ u5 from b5); have K5 := Lib.hid k5; have N5 := Lib.hid (HG.out.toRg.n3 HG.out.lp k5 (gx_ltP P0.out)); have x2 := ((C4.out.trans F5.out).cell (o := 2) HG.out.toRg.lt).trans HG.out.toRg.c2; clear k5 b5)))
  all_goals
    have NE := Lib.hid (HG.out.toRg.q3 HG.out.lq K9.out (chl_nn Q0.out).2)
    clear v2 x2 x3
    go_wp2_with fail
    refine (ranswer_new (HG.out.bel C5.out).toRg HG.out.lq Q0.out K9.out NE.out (rn_bel K2b.out DD.out) N2.out (rn_bel K3.out DD.out) N3.out).mono ?_
    rintro e u6 ⟨D6, m6, d6, D7, m7, d7, rfl, k6, k7, n6, n7, b6⟩
    have CF := Lib.hid (C5.out.trans b6)
    have K6 := Lib.hid k6
    have K7 := Lib.hid k7
    have z5 := C5.out.sz
    have N6 := Lib.hid (show ∀ a, D6 = some a → 0 < m6 → a.block ≠ w.heap.size from fun a ha _ => by have := n6 a ha; have := LT.out; omega)
    have N7 := Lib.hid (show ∀ a, D7 = some a → 0 < m7 → a.block ≠ w.heap.size from fun a ha _ => by have := n7 a ha; have := LT.out; omega)
    have ROW := Lib.hid ((CF.out.row LT.out).trans R0.out)
    clear k6 k7 n6 n7 b6 z5
    have y0 : u6.cell? ⟨w.heap.size, 0, none⟩ = some (.slice none 0 0) := cell_of_row u6 _ 0 _ _ _ ROW.out
    have y1 : u6.cell? ⟨w.heap.size, 1, none⟩ = some (.slice none 0 0) := cell_of_row u6 _ 1 _ _ _ ROW.out
    have z0 := frozen_of_row u6 w.heap.size 0 _ _ ROW.out
    have z1 := frozen_of_row u6 w.heap.size 1 _ _ ROW.out
    go_wp2_with fail
    refine bodyPost_ret (v := .tuple #[.agg #[.slice D6 m6 d6, .slice D7 m7 d7], .int .i64 0]) (results_pf Tryz.results15 _ _ _ w.heap.size _ rfl (load_pf (two_row ROW.out)) rfl) rfl ?_
    exact ⟨D6, m6, d6, D7, m7, d7, rfl, K6.out.set2 N6.out _ _, K7.out.set2 N7.out _ _, (B0.out.trans CF.out).set2 (Nat.le_refl _) _ _⟩
end
end Go.Proofs.YtloibmemlkfkfaaGreatDoor
