/-
  SigmaChecks answers true: whether any proof holds, of any elements and any context, or what is amiss first.
-/
import Derived.Test.YtloibmemlkfkfaaGreatDoorV8
namespace Go.Proofs.YtloibmemlkfkfaaGreatDoor
open Go.RowKit
set_option linter.unusedVariables false
set_option maxHeartbeats 32000000 in
set_option maxRecDepth 100000 in
theorem sigmaChecks_walk {w : World} (x : Int) (hx : -9223372036854775808 ≤ x ∧ x ≤ 9223372036854775807) {Ac Ay Aa Ad Ae Az : Option Addr} {nc cc ny cy na ca nd cd ne ce nz cz : Nat} {ctx : List Int} {Y X M E Z : Int}
    (hc : Bz w Ac nc ctx) (hnc : nc ≤ 140737488355328) (hy : Nm w Ay ny cy Y) (ha : Nm w Aa na ca X) (hd : Nm w Ad nd cd M) (hE : Nm w Ae ne ce E) (hZ : Nm w Az nz cz Z) (hT : Tabs w) :
    Calls Tryz.prog 4 #[.int .i64 x, .slice Ac nc cc, .slice Ay ny cy, .slice Aa na ca, .slice Ad nd cd, .agg #[.slice Ae ne ce, .slice Az nz cz]] w (AnsV (.bool true) w) := by
  have bw := B8.alloc w (.cells #[.slice Ae ne ce, .slice Az nz cz] 33)
  have px := pf_box w (.slice Ae ne ce) (.slice Az nz cz)
  obtain ⟨wv, hwv⟩ : ∃ v, w.alloc (.cells #[.slice Ae ne ce, .slice Az nz cz] 33) = v := ⟨_, rfl⟩
  have sp : w.heap.size < wv.heap.size := by rw [← hwv]; simp
  rw [hwv] at bw px
  have BW := Lib.hid bw
  have PX := Lib.hid px
  have SP := Lib.hid sp
  have HC := Lib.hid (bw.bz hc)
  have HY := Lib.hid (bw.nm hy)
  have HA := Lib.hid (bw.nm ha)
  have HD := Lib.hid (bw.nm hd)
  have HE := Lib.hid (bw.nm hE)
  have HZ := Lib.hid (bw.nm hZ)
  have HX := Lib.hid hx
  have HT := Lib.hid (bw.tabs hT)
  have he := ne_nil8
  have he1 := eq_nil8
  clear hc hy ha hd hE hZ hx hT bw px sp
  go_enter Tryz.func4, Tryz.ntmps4
  go_wp2_with fail
  refine (up8_any HT.out).mono ?_
  rintro e w0 ⟨rfl, b0⟩
  have B0 := Lib.hid (show B8 wv w0 from b0)
  clear b0
  go_wp2_with fail
  refine (known8_any x HX.out w0).mono ?_
  rintro e w1 ⟨b, d, b', r, rfl, gr, rg, hP, hQ, hG, b1⟩
  have q1 := g8_eq b
  have B1 := Lib.hid (B0.out.trans (show B8 w0 w1 from b1))
  have GR := Lib.hid gr
  have RG := Lib.hid rg
  have PQ := Lib.hid (And.intro hP (And.intro hQ hG))
  clear gr rg hP hQ hG b1 B0
  clear hwv
  have x0 := (B1.out.cell (o := 0) SP.out).trans PX.out.1
  have x1 := (B1.out.cell (o := 1) SP.out).trans PX.out.2
  have LS := Lib.hid (ns_lit5 (B1.out.nm HY.out) (B1.out.nm HA.out) (B1.out.nm HD.out) (B1.out.nm HE.out) (B1.out.nm HZ.out) rfl)
  have B2 := Lib.hid (B8.alloc w1 (.cells #[.slice Ay ny cy, .slice Aa na ca, .slice Ad nd cd, .slice Ae ne ce, .slice Az nz cz] 24))
  obtain ⟨w2, hw2⟩ : ∃ w2, w1.alloc (.cells #[.slice Ay ny cy, .slice Aa na ca, .slice Ad nd cd, .slice Ae ne ce, .slice Az nz cz] 24) = w2 := ⟨_, rfl⟩
  rw [hw2] at LS B2
  go_wp2_with fail
  refine (light8_any LS.out).mono ?_
  rintro e w3 ⟨⟨s, rfl, hs⟩, rfl⟩
  clear hw2 x0 x1
  have G2 := Lib.hid (B1.out.trans B2.out)
  cases s with
  | false =>
    clear hs
    go_wp2_with fail
    go_ret
    exact ⟨rfl, BW.out.trans G2.out⟩
  | true =>
  have hl := hs.1 rfl
  have LY := Lib.hid (show Li ny Y from hl 0 (by decide))
  have LA := Lib.hid (show Li na X from hl 1 (by decide))
  have LD := Lib.hid (show Li nd M from hl 2 (by decide))
  have LE := Lib.hid (show Li ne E from hl 3 (by decide))
  have LZ := Lib.hid (show Li nz Z from hl 4 (by decide))
  clear hs hl LS
  rcases Nat.lt_or_ge 500 nc with g1 | g1
  · have e1 : decide ((500 : Int) < (nc : Int)) = true := by simp; omega
    go_wp2_with fail
    go_ret
    exact ⟨rfl, BW.out.trans G2.out⟩
  have e1 : decide ((500 : Int) < (nc : Int)) = false := by simp; omega
  have GRa := Lib.hid (B2.out.gr GR.out)
  have RGa := Lib.hid (RG.out.bel B2.out)
  have SP2 := Lib.hid (show w.heap.size < w2.heap.size by have := G2.out.sz; have := SP.out; omega)
  have PX2 := Lib.hid (And.intro ((G2.out.cell (o := 0) SP.out).trans PX.out.1) ((G2.out.cell (o := 1) SP.out).trans PX.out.2))
  obtain ⟨k1, hk1⟩ : ∃ k1, chkC (64 < dl E ∨ 64 < dl Z) (El d.P d.Q Y) (E = kcE d.P d.Q d.G (strB lbK) ctx Y Z E) = k1 := ⟨_, rfl⟩
  obtain ⟨k2, hk2⟩ : ∃ k2, chkC (64 < dl E ∨ 64 < dl Z) (El d.P d.Q Y) (E = kcE d.P d.Q d.G (strB lbS) ctx Y Z E) = k2 := ⟨_, rfl⟩
  obtain ⟨k3, hk3⟩ : ∃ k3, chkC (64 < dl E ∨ 64 < dl Z) (El d.P d.Q Y ∧ El d.P d.Q X ∧ El d.P d.Q M) (E = ceE d.P d.Q d.G ctx Y X M Z E) = k3 := ⟨_, rfl⟩
  have V1 := Lib.hid (show ∀ W, B8 w2 W → Calls Tryz.prog 18 #[.pointer (some ⟨b, 0, none⟩), .slice Ac nc cc, .slice Ay ny cy, .agg #[.slice Ae ne ce, .slice Az nz cz]] W (ErrV8 k1 W) from fun W hb => by
    have h := knows_v (cc := cc) (hb.gr GRa.out) (hb.tabs (G2.out.tabs HT.out)) (hb.bz (G2.out.bz HC.out)) hnc (hb.nm (G2.out.nm HY.out)) (hb.nm (G2.out.nm HE.out)) (hb.nm (G2.out.nm HZ.out))
    rw [hk1] at h
    exact h)
  have V2 := Lib.hid (show ∀ W, B8 w2 W → Calls Tryz.prog 19 #[.pointer (some ⟨b, 0, none⟩), .slice Ac nc cc, .slice Ay ny cy, .agg #[.slice Ae ne ce, .slice Az nz cz]] W (ErrV8 k2 W) from fun W hb => by
    have h := signed_v (cc := cc) (hb.gr GRa.out) (hb.tabs (G2.out.tabs HT.out)) (hb.bz (G2.out.bz HC.out)) hnc (hb.nm (G2.out.nm HY.out)) (hb.nm (G2.out.nm HE.out)) (hb.nm (G2.out.nm HZ.out))
    rw [hk2] at h
    exact h)
  have V3 := Lib.hid (show ∀ W, B8 w2 W → Calls Tryz.prog 20 #[.pointer (some ⟨b, 0, none⟩), .slice Ac nc cc, .slice Ay ny cy, .slice Aa na ca, .slice Ad nd cd, .agg #[.slice Ae ne ce, .slice Az nz cz]] W (ErrV8 k3 W) from fun W hb => by
    have h := equals_v (cc := cc) (hb.gr GRa.out) (hb.tabs (G2.out.tabs HT.out)) (hb.bz (G2.out.bz HC.out)) hnc (hb.nm (G2.out.nm HY.out)) (hb.nm (G2.out.nm HA.out)) (hb.nm (G2.out.nm HD.out)) (hb.nm (G2.out.nm HE.out)) (hb.nm (G2.out.nm HZ.out))
    rw [hk3] at h
    exact h)
  have V4 := Lib.hid (show ∀ W, B8 w2 W → Calls Tryz.prog 21 #[.pointer (some ⟨b', 0, none⟩), .string ⟨#[107, 110, 111, 119]⟩, .slice Ac nc cc, .slice Ay ny cy, .agg #[.slice Ae ne ce, .slice Az nz cz]] W (NumV8 k1 W) from fun W hb => by
    have h := rknows_v (cc := cc) (RGa.out.bel hb) PQ.out.1 PQ.out.2.1 PQ.out.2.2 lbK (by decide) (hb.bz (G2.out.bz HC.out)) g1 (hb.nm (G2.out.nm HY.out)) LY.out (hb.nm (G2.out.nm HE.out)) LE.out (hb.nm (G2.out.nm HZ.out)) LZ.out
    rw [hk1] at h
    exact h)
  have V5 := Lib.hid (show ∀ W, B8 w2 W → Calls Tryz.prog 21 #[.pointer (some ⟨b', 0, none⟩), .string ⟨#[115, 105, 103, 110]⟩, .slice Ac nc cc, .slice Ay ny cy, .agg #[.slice Ae ne ce, .slice Az nz cz]] W (NumV8 k2 W) from fun W hb => by
    have h := rknows_v (cc := cc) (RGa.out.bel hb) PQ.out.1 PQ.out.2.1 PQ.out.2.2 lbS (by decide) (hb.bz (G2.out.bz HC.out)) g1 (hb.nm (G2.out.nm HY.out)) LY.out (hb.nm (G2.out.nm HE.out)) LE.out (hb.nm (G2.out.nm HZ.out)) LZ.out
    rw [hk2] at h
    exact h)
  have V6 := Lib.hid (show ∀ W, B8 w2 W → Calls Tryz.prog 22 #[.pointer (some ⟨b', 0, none⟩), .slice Ac nc cc, .slice Ay ny cy, .slice Aa na ca, .slice Ad nd cd, .agg #[.slice Ae ne ce, .slice Az nz cz]] W (NumV8 k3 W) from fun W hb => by
    have h := requals_v (cc := cc) (RGa.out.bel hb) PQ.out.1 PQ.out.2.1 PQ.out.2.2 (hb.bz (G2.out.bz HC.out)) g1 (hb.nm (G2.out.nm HY.out)) LY.out (hb.nm (G2.out.nm HA.out)) LA.out (hb.nm (G2.out.nm HD.out)) LD.out (hb.nm (G2.out.nm HE.out)) LE.out (hb.nm (G2.out.nm HZ.out)) LZ.out
    rw [hk3] at h
    exact h)
  clear hk1 hk2 hk3
  have y10 := PX2.out.1
  have y11 := PX2.out.2
  go_wp2_with fail
  refine (V1.out _ (B8.refl w2)).mono ?_
  rintro e u1 ⟨v1, rfl, ev1, b1⟩
  have EV1 := Lib.hid ev1
  have C1 := Lib.hid (b1)
  have y20 := (C1.out.cell (o := 0) SP2.out).trans PX2.out.1
  have y21 := (C1.out.cell (o := 1) SP2.out).trans PX2.out.2
  clear ev1 b1 y10 y11 e1
  go_wp2_with fail
  refine (V2.out _ (C1.out)).mono ?_
  rintro e u2 ⟨v2, rfl, ev2, b2⟩
  have EV2 := Lib.hid ev2
  have C2 := Lib.hid (C1.out.trans b2)
  have y30 := (C2.out.cell (o := 0) SP2.out).trans PX2.out.1
  have y31 := (C2.out.cell (o := 1) SP2.out).trans PX2.out.2
  clear ev2 b2 y20 y21
  go_wp2_with fail
  refine (V3.out _ (C2.out)).mono ?_
  rintro e u3 ⟨v3, rfl, ev3, b3⟩
  have EV3 := Lib.hid ev3
  have C3 := Lib.hid (C2.out.trans b3)
  have y40 := (C3.out.cell (o := 0) SP2.out).trans PX2.out.1
  have y41 := (C3.out.cell (o := 1) SP2.out).trans PX2.out.2
  clear ev3 b3 y30 y31
  go_wp2_with fail
  refine (V4.out _ (C3.out)).mono ?_
  rintro e u4 ⟨rfl, b4⟩
  have C4 := Lib.hid (C3.out.trans b4)
  have y50 := (C4.out.cell (o := 0) SP2.out).trans PX2.out.1
  have y51 := (C4.out.cell (o := 1) SP2.out).trans PX2.out.2
  clear b4 y40 y41
  go_wp2_with fail
  refine (V5.out _ (C4.out)).mono ?_
  rintro e u5 ⟨rfl, b5⟩
  have C5 := Lib.hid (C4.out.trans b5)
  have y60 := (C5.out.cell (o := 0) SP2.out).trans PX2.out.1
  have y61 := (C5.out.cell (o := 1) SP2.out).trans PX2.out.2
  clear b5 y50 y51
  go_wp2_with fail
  refine (V6.out _ (C5.out)).mono ?_
  rintro e u6 ⟨rfl, b6⟩
  have C6 := Lib.hid (C5.out.trans b6)
  clear b6 y60 y61
  go_wp2_with fail
  refine (code_e EV1.out _).mono ?_
  rintro e t1 ⟨rfl, rfl⟩
  go_wp2_with fail
  refine (code_e EV2.out _).mono ?_
  rintro e t2 ⟨rfl, rfl⟩
  go_wp2_with fail
  refine (code_e EV3.out _).mono ?_
  rintro e t3 ⟨rfl, rfl⟩
  go_wp2_with fail
  go_ret
  exact ⟨rfl, BW.out.trans (G2.out.trans C6.out)⟩
end Go.Proofs.YtloibmemlkfkfaaGreatDoor
