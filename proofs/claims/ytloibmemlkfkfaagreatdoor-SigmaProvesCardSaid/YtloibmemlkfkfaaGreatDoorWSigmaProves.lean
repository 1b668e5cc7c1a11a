/-
  SigmaProves answers true: the proofs that a scalar is known, that two powers are of one scalar, and signatures, of any context, or what is amiss first.
-/
import Derived.Test.YtloibmemlkfkfaaGreatDoorV8
namespace Go.Proofs.YtloibmemlkfkfaaGreatDoor
open Go.RowKit
set_option linter.unusedVariables false
theorem ns_lit3 {w : World} {A1 A2 A3 : Option Addr} {n1 c1 n2 c2 n3 c3 : Nat} {X Y Z : Int} (h1 : Nm w A1 n1 c1 X) (h2 : Nm w A2 n2 c2 Y) (h3 : Nm w A3 n3 c3 Z) :
    Ns (w.alloc (.cells #[.slice A1 n1 c1, .slice A2 n2 c2, .slice A3 n3 c3] 24)) (some ⟨w.heap.size, 0, none⟩) 3 3 (lstN [⟨A1, n1, c1, X⟩, ⟨A2, n2, c2, Y⟩, ⟨A3, n3, c3, Z⟩]) :=
  ns_lit [⟨A1, n1, c1, X⟩, ⟨A2, n2, c2, Y⟩, ⟨A3, n3, c3, Z⟩] (fun s hs => by
    rcases List.mem_cons.1 hs with rfl | hs
    · exact h1
    rcases List.mem_cons.1 hs with rfl | hs
    · exact h2
    · rw [List.mem_singleton] at hs; subst hs; exact h3) (by simp) _ rfl rfl
set_option maxHeartbeats 32000000 in
set_option maxRecDepth 100000 in
theorem sigmaProves_walk {w : World} (x : Int) (hx : -9223372036854775808 ≤ x ∧ x ≤ 9223372036854775807) {Ac Aa As Ak : Option Addr} {nc cc na ca ns cs nk ck : Nat} {ctx : List Int} {X S K : Int}
    (hc : Bz w Ac nc ctx) (hnc : nc ≤ 140737488355328) (ha : Nm w Aa na ca X) (hs : Nm w As ns cs S) (hk : Nm w Ak nk ck K) (hT : Tabs w) :
    Calls Tryz.prog 3 #[.int .i64 x, .slice Ac nc cc, .slice Aa na ca, .slice As ns cs, .slice Ak nk ck] w (AnsV (.bool true) w) := by
  have HC := Lib.hid hc
  have HA := Lib.hid ha
  have HS := Lib.hid hs
  have HK := Lib.hid hk
  have HX := Lib.hid hx
  have HT := Lib.hid hT
  have he := ne_nil8
  have he1 := eq_nil8
  clear hc ha hs hk hx hT
  go_enter Tryz.func3, Tryz.ntmps3
  go_wp2_with fail
  refine (up8_any HT.out).mono ?_
  rintro e w0 ⟨rfl, b0⟩
  have B0 := Lib.hid (show B8 w w0 from b0)
  clear b0
  go_wp2_with fail
  refine (known8_any x HX.out w0).mono ?_
  rintro e w1 ⟨b, d, b', r, rfl, gr, rg, hP, hQ, hG, b1⟩
  have q1 := g8_eq b
  have B1 := Lib.hid (B0.out.trans (show B8 w0 w1 from b1))
  have GR := Lib.hid gr
  have RG := Lib.hid rg
  have PQ := Lib.hid (And.intro hP (And.intro hQ hG))
  clear gr rg hP hQ hG b1 B0
  have LS := Lib.hid (ns_lit3 (B1.out.nm HA.out) (B1.out.nm HS.out) (B1.out.nm HK.out))
  have B2 := Lib.hid (B8.alloc w1 (.cells #[.slice Aa na ca, .slice As ns cs, .slice Ak nk ck] 24))
  obtain ⟨w2, hw2⟩ : ∃ w2, w1.alloc (.cells #[.slice Aa na ca, .slice As ns cs, .slice Ak nk ck] 24) = w2 := ⟨_, rfl⟩
  rw [hw2] at LS B2
  go_wp2_with fail
  refine (light8_any LS.out).mono ?_
  rintro e w3 ⟨⟨s, rfl, hs⟩, rfl⟩
  clear hw2
  have G2 := Lib.hid (B1.out.trans B2.out)
  cases s with
  | false =>
    clear hs
    go_wp2_with fail
    go_ret
    exact ⟨rfl, G2.out⟩
  | true =>
  have hl := hs.1 rfl
  have LA := Lib.hid (show Li na X from hl 0 (by decide))
  have LSS := Lib.hid (show Li ns S from hl 1 (by decide))
  have LK := Lib.hid (show Li nk K from hl 2 (by decide))
  clear hs hl LS
  rcases Nat.lt_or_ge 500 nc with g1 | g1
  · have e1 : decide ((500 : Int) < (nc : Int)) = true := by simp; omega
    go_wp2_with fail
    go_ret
    exact ⟨rfl, G2.out⟩
  have e1 : decide ((500 : Int) < (nc : Int)) = false := by simp; omega
  have GRa := Lib.hid (B2.out.gr GR.out)
  have RGa := Lib.hid (RG.out.bel B2.out)
  obtain ⟨kc, hkc⟩ : ∃ kc, knwC (64 < dl S ∨ 64 < dl K) = kc := ⟨_, rfl⟩
  obtain ⟨ke, hke⟩ : ∃ ke, eqlC (64 < dl S ∨ 64 < dl K) (El d.P d.Q X) = ke := ⟨_, rfl⟩
  have HKC := Lib.hid hkc
  have HKE := Lib.hid hke
  have VK := Lib.hid (show ∀ W, B8 w2 W → Calls Tryz.prog 11 #[.pointer (some ⟨b, 0, none⟩), .slice Ac nc cc, .slice As ns cs, .slice Ak nk ck] W (PrfV kc (knE d.P d.Q d.G (strB lbK) ctx S K) (respN d.Q (knE d.P d.Q d.G (strB lbK) ctx S K) S K) W) from fun W hb => by
    have h := know_v (cc := cc) (hb.gr GRa.out) (hb.tabs (G2.out.tabs HT.out)) (hb.bz (G2.out.bz HC.out)) hnc (hb.nm (G2.out.nm HS.out)) (hb.nm (G2.out.nm HK.out))
    rwa [hkc] at h)
  have VS := Lib.hid (show ∀ W, B8 w2 W → Calls Tryz.prog 12 #[.pointer (some ⟨b, 0, none⟩), .slice Ac nc cc, .slice As ns cs, .slice Ak nk ck] W (PrfV kc (knE d.P d.Q d.G (strB lbS) ctx S K) (respN d.Q (knE d.P d.Q d.G (strB lbS) ctx S K) S K) W) from fun W hb => by
    have h := sign_v (cc := cc) (hb.gr GRa.out) (hb.tabs (G2.out.tabs HT.out)) (hb.bz (G2.out.bz HC.out)) hnc (hb.nm (G2.out.nm HS.out)) (hb.nm (G2.out.nm HK.out))
    rwa [hkc] at h)
  have VE := Lib.hid (show ∀ W, B8 w2 W → Calls Tryz.prog 13 #[.pointer (some ⟨b, 0, none⟩), .slice Ac nc cc, .slice Aa na ca, .slice As ns cs, .slice Ak nk ck] W (PrfV ke (eqE d.P d.Q d.G ctx X S K) (respN d.Q (eqE d.P d.Q d.G ctx X S K) S K) W) from fun W hb => by
    have h := equal_v (cc := cc) (hb.gr GRa.out) (hb.tabs (G2.out.tabs HT.out)) (hb.bz (G2.out.bz HC.out)) hnc (hb.nm (G2.out.nm HA.out)) (hb.nm (G2.out.nm HS.out)) (hb.nm (G2.out.nm HK.out))
    rwa [hke] at h)
  have DK := Lib.hid (show ∀ W, B8 w2 W → Calls Tryz.prog 14 #[.pointer (some ⟨b', 0, none⟩), .string ⟨#[107, 110, 111, 119]⟩, .slice Ac nc cc, .slice As ns cs, .slice Ak nk ck] W (DocV kc (knE d.P d.Q d.G (strB lbK) ctx S K) (respN d.Q (knE d.P d.Q d.G (strB lbK) ctx S K) S K) W) from fun W hb => by
    have h := rknow_v (cc := cc) (RGa.out.bel hb) PQ.out.1 PQ.out.2.1 PQ.out.2.2 lbK (by decide) (hb.bz (G2.out.bz HC.out)) g1 (hb.nm (G2.out.nm HS.out)) LSS.out (hb.nm (G2.out.nm HK.out)) LK.out
    rw [hkc] at h
    exact h)
  have DS := Lib.hid (show ∀ W, B8 w2 W → Calls Tryz.prog 14 #[.pointer (some ⟨b', 0, none⟩), .string ⟨#[115, 105, 103, 110]⟩, .slice Ac nc cc, .slice As ns cs, .slice Ak nk ck] W (DocV kc (knE d.P d.Q d.G (strB lbS) ctx S K) (respN d.Q (knE d.P d.Q d.G (strB lbS) ctx S K) S K) W) from fun W hb => by
    have h := rknow_v (cc := cc) (RGa.out.bel hb) PQ.out.1 PQ.out.2.1 PQ.out.2.2 lbS (by decide) (hb.bz (G2.out.bz HC.out)) g1 (hb.nm (G2.out.nm HS.out)) LSS.out (hb.nm (G2.out.nm HK.out)) LK.out
    rw [hkc] at h
    exact h)
  have DE := Lib.hid (show ∀ W, B8 w2 W → Calls Tryz.prog 15 #[.pointer (some ⟨b', 0, none⟩), .slice Ac nc cc, .slice Aa na ca, .slice As ns cs, .slice Ak nk ck] W (DocV ke (eqE d.P d.Q d.G ctx X S K) (respN d.Q (eqE d.P d.Q d.G ctx X S K) S K) W) from fun W hb => by
    have h := requal_v (cc := cc) (RGa.out.bel hb) PQ.out.1 PQ.out.2.1 PQ.out.2.2 (hb.bz (G2.out.bz HC.out)) g1 (hb.nm (G2.out.nm HA.out)) LA.out (hb.nm (G2.out.nm HS.out)) LSS.out (hb.nm (G2.out.nm HK.out)) LK.out
    rw [hke] at h
    exact h)
  clear hkc hke
  go_wp2_with fail
  clear e1
  refine (VK.out _ (B8.refl w2)).mono ?_
  rintro e u1 ⟨A1, n1, c1, B1', m1, d1, v1, rfl, ev1, k1, l1, b1⟩
  have EV1 := Lib.hid ev1
  have bp := B8.alloc u1 (.cells #[.slice A1 n1 c1, .slice B1' m1 d1] 33)
  have px := pf_box u1 (.slice A1 n1 c1) (.slice B1' m1 d1)
  obtain ⟨y1, hv1⟩ : ∃ v, u1.alloc (.cells #[.slice A1 n1 c1, .slice B1' m1 d1] 33) = v := ⟨_, rfl⟩
  have sp : u1.heap.size < y1.heap.size := by rw [← hv1]; simp
  rw [hv1] at bp px
  have P1 := Lib.hid px
  have SP1 := Lib.hid sp
  have F1 := Lib.hid (b1.trans bp)
  have C1 := Lib.hid (F1.out)
  have K1 := Lib.hid (bp.cn k1)
  have L1 := Lib.hid (bp.cn l1)
  clear ev1 k1 l1 b1 bp px sp
  go_wp2_with fail
  clear hv1
  refine (VS.out _ (C1.out)).mono ?_
  rintro e u2 ⟨A2, n2, c2, B2', m2, d2, v2, rfl, ev2, k2, l2, b2⟩
  have EV2 := Lib.hid ev2
  have bp := B8.alloc u2 (.cells #[.slice A2 n2 c2, .slice B2' m2 d2] 33)
  have px := pf_box u2 (.slice A2 n2 c2) (.slice B2' m2 d2)
  obtain ⟨y2, hv2⟩ : ∃ v, u2.alloc (.cells #[.slice A2 n2 c2, .slice B2' m2 d2] 33) = v := ⟨_, rfl⟩
  have sp : u2.heap.size < y2.heap.size := by rw [← hv2]; simp
  rw [hv2] at bp px
  have P2 := Lib.hid px
  have SP2 := Lib.hid sp
  have F2 := Lib.hid (b2.trans bp)
  have C2 := Lib.hid (C1.out.trans F2.out)
  have K2 := Lib.hid (bp.cn k2)
  have L2 := Lib.hid (bp.cn l2)
  clear ev2 k2 l2 b2 bp px sp
  go_wp2_with fail
  clear hv2
  refine (VE.out _ (C2.out)).mono ?_
  rintro e u3 ⟨A3, n3, c3, B3', m3, d3, v3, rfl, ev3, k3, l3, b3⟩
  have EV3 := Lib.hid ev3
  have bp := B8.alloc u3 (.cells #[.slice A3 n3 c3, .slice B3' m3 d3] 33)
  have px := pf_box u3 (.slice A3 n3 c3) (.slice B3' m3 d3)
  obtain ⟨y3, hv3⟩ : ∃ v, u3.alloc (.cells #[.slice A3 n3 c3, .slice B3' m3 d3] 33) = v := ⟨_, rfl⟩
  have sp : u3.heap.size < y3.heap.size := by rw [← hv3]; simp
  rw [hv3] at bp px
  have P3 := Lib.hid px
  have SP3 := Lib.hid sp
  have F3 := Lib.hid (b3.trans bp)
  have C3 := Lib.hid (C2.out.trans F3.out)
  have K3 := Lib.hid (bp.cn k3)
  have L3 := Lib.hid (bp.cn l3)
  clear ev3 k3 l3 b3 bp px sp
  go_wp2_with fail
  clear hv3
  refine (DK.out _ (C3.out)).mono ?_
  rintro e u4 ⟨A4, n4, c4, B4', m4, d4, rfl, k4, l4, b4⟩
  have bp := B8.alloc u4 (.cells #[.slice A4 n4 c4, .slice B4' m4 d4] 33)
  have px := pf_box u4 (.slice A4 n4 c4) (.slice B4' m4 d4)
  obtain ⟨y4, hv4⟩ : ∃ v, u4.alloc (.cells #[.slice A4 n4 c4, .slice B4' m4 d4] 33) = v := ⟨_, rfl⟩
  have sp : u4.heap.size < y4.heap.size := by rw [← hv4]; simp
  rw [hv4] at bp px
  have P4 := Lib.hid px
  have SP4 := Lib.hid sp
  have F4 := Lib.hid (b4.trans bp)
  have C4 := Lib.hid (C3.out.trans F4.out)
  have K4 := Lib.hid (bp.cn k4)
  have L4 := Lib.hid (bp.cn l4)
  clear k4 l4 b4 bp px sp
  go_wp2_with fail
  clear hv4
  refine (DS.out _ (C4.out)).mono ?_
  rintro e u5 ⟨A5, n5, c5, B5', m5, d5, rfl, k5, l5, b5⟩
  have bp := B8.alloc u5 (.cells #[.slice A5 n5 c5, .slice B5' m5 d5] 33)
  have px := pf_box u5 (.slice A5 n5 c5) (.slice B5' m5 d5)
  obtain ⟨y5, hv5⟩ : ∃ v, u5.alloc (.cells #[.slice A5 n5 c5, .slice B5' m5 d5] 33) = v := ⟨_, rfl⟩
  have sp : u5.heap.size < y5.heap.size := by rw [← hv5]; simp
  rw [hv5] at bp px
  have P5 := Lib.hid px
  have SP5 := Lib.hid sp
  have F5 := Lib.hid (b5.trans bp)
  have C5 := Lib.hid (C4.out.trans F5.out)
  have K5 := Lib.hid (bp.cn k5)
  have L5 := Lib.hid (bp.cn l5)
  clear k5 l5 b5 bp px sp
  go_wp2_with fail
  clear hv5
  refine (DE.out _ (C5.out)).mono ?_
  rintro e u6 ⟨A6, n6, c6, B6', m6, d6, rfl, k6, l6, b6⟩
  have bp := B8.alloc u6 (.cells #[.slice A6 n6 c6, .slice B6' m6 d6] 33)
  have px := pf_box u6 (.slice A6 n6 c6) (.slice B6' m6 d6)
  obtain ⟨y6, hv6⟩ : ∃ v, u6.alloc (.cells #[.slice A6 n6 c6, .slice B6' m6 d6] 33) = v := ⟨_, rfl⟩
  have sp : u6.heap.size < y6.heap.size := by rw [← hv6]; simp
  rw [hv6] at bp px
  have P6 := Lib.hid px
  have SP6 := Lib.hid sp
  have F6 := Lib.hid (b6.trans bp)
  have C6 := Lib.hid (C5.out.trans F6.out)
  have K6 := Lib.hid (bp.cn k6)
  have L6 := Lib.hid (bp.cn l6)
  clear k6 l6 b6 bp px sp
  have T5 := Lib.hid F6.out
  have T4 := Lib.hid (F5.out.trans T5.out)
  have T3 := Lib.hid (F4.out.trans T4.out)
  have T2 := Lib.hid (F3.out.trans T3.out)
  have T1 := Lib.hid (F2.out.trans T2.out)
  have Q1 := Lib.hid (And.intro ((T1.out.cell (o := 0) SP1.out).trans P1.out.1) ((T1.out.cell (o := 1) SP1.out).trans P1.out.2))
  have R1 := Lib.hid (show u1.heap.size < y6.heap.size by have := T1.out.sz; have := SP1.out; omega)
  have Q2 := Lib.hid (And.intro ((T2.out.cell (o := 0) SP2.out).trans P2.out.1) ((T2.out.cell (o := 1) SP2.out).trans P2.out.2))
  have R2 := Lib.hid (show u2.heap.size < y6.heap.size by have := T2.out.sz; have := SP2.out; omega)
  have Q3 := Lib.hid (And.intro ((T3.out.cell (o := 0) SP3.out).trans P3.out.1) ((T3.out.cell (o := 1) SP3.out).trans P3.out.2))
  have R3 := Lib.hid (show u3.heap.size < y6.heap.size by have := T3.out.sz; have := SP3.out; omega)
  have Q4 := Lib.hid (And.intro ((T4.out.cell (o := 0) SP4.out).trans P4.out.1) ((T4.out.cell (o := 1) SP4.out).trans P4.out.2))
  have R4 := Lib.hid (show u4.heap.size < y6.heap.size by have := T4.out.sz; have := SP4.out; omega)
  have Q5 := Lib.hid (And.intro ((T5.out.cell (o := 0) SP5.out).trans P5.out.1) ((T5.out.cell (o := 1) SP5.out).trans P5.out.2))
  have R5 := Lib.hid (show u5.heap.size < y6.heap.size by have := T5.out.sz; have := SP5.out; omega)
  have Q6 := Lib.hid P6.out
  have R6 := Lib.hid SP6.out
  have T6 := Lib.hid (B8.refl y6)
  have z0 := Q1.out.1
  have z1 := Q1.out.2
  have z2 := Q4.out.1
  have z3 := Q4.out.2
  go_wp2_with fail
  clear hv6
  refine (psame8 (T1.out.cn K1.out) (T1.out.cn L1.out) (T4.out.cn K4.out) (T4.out.cn L4.out) rfl rfl).mono ?_
  rintro e s1 ⟨rfl, t1⟩
  have S1 := Lib.hid (t1)
  clear t1 z0 z1 z2 z3
  have z0 := (S1.out.cell (o := 0) R2.out).trans Q2.out.1
  have z1 := (S1.out.cell (o := 1) R2.out).trans Q2.out.2
  have z2 := (S1.out.cell (o := 0) R5.out).trans Q5.out.1
  have z3 := (S1.out.cell (o := 1) R5.out).trans Q5.out.2
  go_wp2_with fail
  refine (psame8 (S1.out.cn (T2.out.cn K2.out)) (S1.out.cn (T2.out.cn L2.out)) (S1.out.cn (T5.out.cn K5.out)) (S1.out.cn (T5.out.cn L5.out)) rfl rfl).mono ?_
  rintro e s2 ⟨rfl, t2⟩
  have S2 := Lib.hid (S1.out.trans t2)
  clear t2 z0 z1 z2 z3
  have z0 := (S2.out.cell (o := 0) R3.out).trans Q3.out.1
  have z1 := (S2.out.cell (o := 1) R3.out).trans Q3.out.2
  have z2 := (S2.out.cell (o := 0) R6.out).trans Q6.out.1
  have z3 := (S2.out.cell (o := 1) R6.out).trans Q6.out.2
  go_wp2_with fail
  refine (psame8 (S2.out.cn (T3.out.cn K3.out)) (S2.out.cn (T3.out.cn L3.out)) (S2.out.cn (T6.out.cn K6.out)) (S2.out.cn (T6.out.cn L6.out)) rfl rfl).mono ?_
  rintro e s3 ⟨rfl, t3⟩
  have S3 := Lib.hid (S2.out.trans t3)
  clear t3 z0 z1 z2 z3
  go_wp2_with fail
  refine (code_e EV1.out _).mono ?_
  rintro e t1 ⟨rfl, rfl⟩
  go_wp2_with fail
  refine (code_e EV2.out _).mono ?_
  rintro e t2 ⟨rfl, rfl⟩
  go_wp2_with fail
  refine (code_e EV3.out _).mono ?_
  rintro e t3 ⟨rfl, rfl⟩
  go_wp2_with fail
  go_ret
  exact ⟨rfl, G2.out.trans (C6.out.trans S3.out)⟩
end Go.Proofs.YtloibmemlkfkfaaGreatDoor
