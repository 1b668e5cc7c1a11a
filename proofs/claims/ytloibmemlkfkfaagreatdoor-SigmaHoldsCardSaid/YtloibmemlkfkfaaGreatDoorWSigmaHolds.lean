/-
  SigmaHolds answers true: a proof that was made for a scalar holds for its powers and its context; so does one whose scalars are told with Qs more.
-/
import Derived.Test.YtloibmemlkfkfaaGreatDoorM8
namespace Go.Proofs.YtloibmemlkfkfaaGreatDoor
open Go.RowKit
set_option linter.unusedVariables false
set_option maxHeartbeats 32000000 in
set_option maxRecDepth 100000 in
theorem sigmaHolds_walk {w : World} (x : Int) (hx : -9223372036854775808 ≤ x ∧ x ≤ 9223372036854775807) {Ac Ab As Ak : Option Addr} {nc cc nb' cb ns cs nk ck : Nat} {ctx : List Int} {R S K : Int}
    (hc : Bz w Ac nc ctx) (hnc : nc ≤ 140737488355328) (hb : Nm w Ab nb' cb R) (hs : Nm w As ns cs S) (hk : Nm w Ak nk ck K) (hT : Tabs w) :
    Calls Tryz.prog 5 #[.int .i64 x, .slice Ac nc cc, .slice Ab nb' cb, .slice As ns cs, .slice Ak nk ck] w (AnsV (.bool true) w) := by
  have HC := Lib.hid hc
  have HB := Lib.hid hb
  have HS := Lib.hid hs
  have HK := Lib.hid hk
  have HX := Lib.hid hx
  have HT := Lib.hid hT
  have he := ne_nil8
  have he1 := eq_nil8
  clear hc hb hs hk hx hT
  go_enter Tryz.func5, Tryz.ntmps5
  go_wp2_with fail
  refine (up8_any HT.out).mono ?_
  rintro e w0 ⟨rfl, b0⟩
  have B0 := Lib.hid (show B8 w w0 from b0)
  clear b0
  go_wp2_with fail
  refine (known_any x HX.out w0).mono ?_
  rintro e w1 ⟨A, n, c, A', n', c', rfl, kg, b1⟩
  have B1 := Lib.hid (B0.out.trans (show B8 w0 w1 from b1))
  have KGG := Lib.hid kg
  clear b1 kg B0
  go_wp2_with fail
  refine (kg_new (kix_lt x) KGG.out).mono ?_
  rintro e w2 ⟨b, d, rfl, gr, -, -, -, b2, -, -⟩
  have q1 := g8_eq b
  have q2 := gne8 b
  have B2 := Lib.hid (B1.out.trans (show B8 w1 w2 from b2))
  have GR := Lib.hid gr
  have SF := Lib.hid gr.safe
  have EG := Lib.hid gr.el
  have Q0 := Lib.hid (show 0 < d.Q by have := gr.safe.q3; omega)
  have LQ := Lib.hid (show dl d.Q ≤ 32 from gr.lq)
  clear b2 gr KGG B1
  rcases Nat.lt_or_ge 30 nb' with g1 | g1
  · have e1 : decide ((30 : Int) < (nb' : Int)) = true := by simp; omega
    go_wp2_with fail
    go_ret
    exact ⟨rfl, B2.out⟩
  have e1 : decide ((30 : Int) < (nb' : Int)) = false := by simp; omega
  rcases Nat.lt_or_ge 30 ns with g2 | g2
  · have e2 : decide ((30 : Int) < (ns : Int)) = true := by simp; omega
    go_wp2_with fail
    go_ret
    exact ⟨rfl, B2.out⟩
  have e2 : decide ((30 : Int) < (ns : Int)) = false := by simp; omega
  rcases Nat.lt_or_ge 30 nk with g3 | g3
  · have e3 : decide ((30 : Int) < (nk : Int)) = true := by simp; omega
    go_wp2_with fail
    go_ret
    exact ⟨rfl, B2.out⟩
  have e3 : decide ((30 : Int) < (nk : Int)) = false := by simp; omega
  have lR : dl R ≤ 63 := by have := HB.out.dl_le; omega
  have lS : dl S ≤ 63 := by have := HS.out.dl_le; omega
  have lK : dl K ≤ 63 := by have := HK.out.dl_le; omega
  have s0 := Lib.hid HS.out.pos
  have k0 := Lib.hid HK.out.pos
  go_wp2_with fail
  clear e1 e2 e3 q2
  refine (gx_base GR.out (B2.out.nm HB.out) (Nat.le_trans lR (by decide))).mono ?_
  rintro e w3 ⟨Aa, na, ca, rfl, ka, b3, -⟩
  have C3 := Lib.hid (show B8 w2 w3 from b3)
  have KA := Lib.hid ka
  clear b3 ka
  go_wp2_with fail
  refine (gx_base (C3.out.gr GR.out) (C3.out.nm (B2.out.nm HS.out)) (Nat.le_trans lS (by decide))).mono ?_
  rintro e w4 ⟨Ay, ny, cy, rfl, ky, b4, -⟩
  have D4 := Lib.hid (show B8 w3 w4 from b4)
  have C4 := Lib.hid (C3.out.trans D4.out)
  have KA4 := Lib.hid (D4.out.cn KA.out)
  have KY := Lib.hid ky
  obtain ⟨a, ha⟩ : ∃ a, gx d.P d.Q d.G R = a := ⟨_, rfl⟩
  have EA := Lib.hid (show El d.P d.Q a by rw [← ha]; exact gx_el SF.out.p2 SF.out.q1 EG.out R)
  rw [ha] at KA4
  clear b4 ky C3 KA D4 ha
  go_wp2_with fail
  refine (gx_exp (C4.out.gr GR.out).toGr0 KA4.out.nm (C4.out.nm (B2.out.nm HS.out)) EA.out (Nat.le_trans lS (by decide))).mono ?_
  rintro e w5 ⟨Ad, nd, cd, rfl, kd, b5, -⟩
  have D5 := Lib.hid (show B8 w4 w5 from b5)
  have C5 := Lib.hid (C4.out.trans D5.out)
  have KA5 := Lib.hid (D5.out.cn KA4.out)
  have KY5 := Lib.hid (D5.out.cn KY.out)
  have KD5 := Lib.hid kd
  clear b5 kd C4 KA4 KY D5
  go_wp2_with fail
  refine (of_nm8 (C5.out.nm (B2.out.nm HS.out)) (by omega)).mono ?_
  rintro e w6 ⟨A6, n6, c6, rfl, k6, b6⟩
  have D6 := Lib.hid (show B8 w5 w6 from b6)
  have K6 := Lib.hid k6
  clear b6 k6
  go_wp2_with fail
  refine (gq_any (D6.out.gr (C5.out.gr GR.out)).toGr0).mono ?_
  rintro e w7 ⟨A7, n7, c7, rfl, k7, b7, -⟩
  have D7 := Lib.hid (show B8 w6 w7 from b7)
  have K7 := Lib.hid k7
  have l7 := Lib.hid (cn_len k7)
  have K6b := Lib.hid (K6.out.below D7.out)
  clear b7 k7 K6
  go_wp2_with fail
  refine (of_nm8 K7.out.nm (by have := LQ.out; have := l7.out; omega)).mono ?_
  rintro e w8 ⟨A8, n8, c8, rfl, k8, b8⟩
  have D8 := Lib.hid (show B8 w7 w8 from b8)
  have K8 := Lib.hid k8
  have K6c := Lib.hid (K6b.out.below D8.out)
  have m6 := K6b.out.len_
  have m8 := k8.len_
  have M6 := Lib.hid (show n6 ≤ 256 by have := dr_nm s0.out (Nat.le_trans lS (by decide)); omega)
  have M8 := Lib.hid (show n8 ≤ 256 by have := dr_nm (N := d.Q) (by have := Q0.out; omega) (Nat.le_trans LQ.out (by decide)); omega)
  clear b8 k8 K7 K6b l7 m6 m8
  go_wp2_with fail
  refine (radd_any K6c.out K8.out (by have := M6.out; omega) (by have := M8.out; omega)).mono ?_
  rintro e w9 ⟨A9, n9, c9, rfl, k9, b9⟩
  have D9 := Lib.hid (show B8 w8 w9 from b9)
  have K9 := Lib.hid k9
  have m9 := k9.len_
  have M9 := Lib.hid (show n9 ≤ 100000 by have := dr_sum s0.out (show 0 ≤ d.Q by have := Q0.out; omega) (Nat.le_trans lS (by decide)) (Nat.le_trans LQ.out (by decide)); omega)
  clear b9 k9 m9 K6c K8 M6 M8
  go_wp2_with fail
  refine (to_new8 K9.out M9.out).mono ?_
  rintro e w10 ⟨Am, nm, cm, rfl, km, -, b10⟩
  have C10 := Lib.hid (D6.out.trans (D7.out.trans (D8.out.trans (D9.out.trans b10))))
  have KM := Lib.hid km
  have LM := Lib.hid (show dl (S + d.Q) ≤ 64 from dl_sum s0.out (by have := Q0.out; omega) lS (Nat.le_trans LQ.out (by decide)))
  have G10 := Lib.hid (B2.out.trans (C5.out.trans C10.out))
  have GR10 := Lib.hid (C10.out.gr (C5.out.gr GR.out))
  have KA10 := Lib.hid (C10.out.cn KA5.out)
  have KY10 := Lib.hid (C10.out.cn KY5.out)
  have KD10 := Lib.hid (C10.out.cn KD5.out)
  clear km b10 K9 M9 D6 D7 D8 D9 GR C5 KA5 KY5 KD5 C10
  go_wp2_with fail
  -- Know
  refine (know_ok GR10.out (G10.out.tabs HT.out) (G10.out.bz HC.out) hnc (G10.out.nm HS.out) (Nat.le_trans lS (by decide)) (G10.out.nm HK.out) (Nat.le_trans lK (by decide))).mono ?_
  rintro e w11 ⟨A1, n1, c1, A2, n2, c2, rfl, k1, k2, b11, -, -⟩
  have bp := B8.alloc w11 (.cells #[.slice A1 n1 c1, .slice A2 n2 c2] 33)
  have px := pf_box w11 (.slice A1 n1 c1) (.slice A2 n2 c2)
  obtain ⟨v1, hv1⟩ : ∃ v, w11.alloc (.cells #[.slice A1 n1 c1, .slice A2 n2 c2] 33) = v := ⟨_, rfl⟩
  have sp : w11.heap.size < v1.heap.size := by rw [← hv1]; simp
  rw [hv1] at bp px
  have P1 := Lib.hid px
  have SP1 := Lib.hid sp
  have C11 := Lib.hid (b11.trans bp)
  have K1 := Lib.hid (bp.cn k1)
  have K2 := Lib.hid (bp.cn k2)
  clear k1 k2 b11 bp px sp
  go_wp2_with fail
  clear hv1
  -- Sign
  refine (sign_ok (C11.out.gr GR10.out) (C11.out.tabs (G10.out.tabs HT.out)) (C11.out.bz (G10.out.bz HC.out)) hnc (C11.out.nm (G10.out.nm HS.out)) (Nat.le_trans lS (by decide)) (C11.out.nm (G10.out.nm HK.out)) (Nat.le_trans lK (by decide))).mono ?_
  rintro e w12 ⟨A3, n3, c3, A4, n4, c4, rfl, k3, k4, b12, -, -⟩
  have bp := B8.alloc w12 (.cells #[.slice A3 n3 c3, .slice A4 n4 c4] 33)
  have px := pf_box w12 (.slice A3 n3 c3) (.slice A4 n4 c4)
  obtain ⟨v2, hv2⟩ : ∃ v, w12.alloc (.cells #[.slice A3 n3 c3, .slice A4 n4 c4] 33) = v := ⟨_, rfl⟩
  have sp : w12.heap.size < v2.heap.size := by rw [← hv2]; simp
  rw [hv2] at bp px
  have P2 := Lib.hid px
  have SP2 := Lib.hid sp
  have D12 := Lib.hid (b12.trans bp)
  have C12 := Lib.hid (C11.out.trans D12.out)
  have K3 := Lib.hid (bp.cn k3)
  have K4 := Lib.hid (bp.cn k4)
  clear k3 k4 b12 bp px sp C11
  go_wp2_with fail
  clear hv2
  -- Equal
  refine (equal_ok (C12.out.gr GR10.out) (C12.out.tabs (G10.out.tabs HT.out)) (C12.out.bz (G10.out.bz HC.out)) hnc (C12.out.cn KA10.out).nm EA.out (C12.out.nm (G10.out.nm HS.out)) (Nat.le_trans lS (by decide)) (C12.out.nm (G10.out.nm HK.out)) (Nat.le_trans lK (by decide))).mono ?_
  rintro e w13 ⟨A5, n5, c5, A6, n6, c6, rfl, k5, k6, b13, -, -⟩
  have bp := B8.alloc w13 (.cells #[.slice A5 n5 c5, .slice A6 n6 c6] 33)
  have rw13 : (w13.alloc (.cells #[.slice A5 n5 c5, .slice A6 n6 c6] 33)).heap[w13.heap.size]? = some (.cells #[.slice A5 n5 c5, .slice A6 n6 c6] 33 (0, 0)) := heap_alloc_new w13 _
  obtain ⟨v3, hv3⟩ : ∃ v, w13.alloc (.cells #[.slice A5 n5 c5, .slice A6 n6 c6] 33) = v := ⟨_, rfl⟩
  have sp : w13.heap.size < v3.heap.size := by rw [← hv3]; simp
  rw [hv3] at bp rw13
  have R3 := Lib.hid rw13
  have SP3 := Lib.hid sp
  have BP3 := Lib.hid bp
  have D13 := Lib.hid b13
  have C13 := Lib.hid (C12.out.trans b13)
  have K5 := Lib.hid k5
  have K6 := Lib.hid k6
  clear k5 k6 b13 bp sp rw13 C12
  go_wp2_with fail
  clear hv3
  -- Know, with a Q more
  have C3v := Lib.hid (C13.out.trans BP3.out)
  refine (know_ok (C3v.out.gr GR10.out) (C3v.out.tabs (G10.out.tabs HT.out)) (C3v.out.bz (G10.out.bz HC.out)) hnc (C3v.out.cn KM.out).nm LM.out (C3v.out.nm (G10.out.nm HK.out)) (Nat.le_trans lK (by decide))).mono ?_
  rintro e w14 ⟨A7, n7, c7, A8, n8, c8, rfl, k7, k8, b14, -, -⟩
  have bp := B8.alloc w14 (.cells #[.slice A7 n7 c7, .slice A8 n8 c8] 33)
  have px := pf_box w14 (.slice A7 n7 c7) (.slice A8 n8 c8)
  obtain ⟨v4, hv4⟩ : ∃ v, w14.alloc (.cells #[.slice A7 n7 c7, .slice A8 n8 c8] 33) = v := ⟨_, rfl⟩
  have sp : w14.heap.size < v4.heap.size := by rw [← hv4]; simp
  rw [hv4] at bp px
  have P4 := Lib.hid px
  have SP4 := Lib.hid sp
  have E34 := Lib.hid (b14.trans bp)
  have K7 := Lib.hid (bp.cn k7)
  have K8 := Lib.hid (bp.cn k8)
  clear k7 k8 b14 bp px sp C3v
  -- what is known at v4
  have D134 := Lib.hid (BP3.out.trans E34.out)
  have E24 := Lib.hid (D13.out.trans D134.out)
  have E14 := Lib.hid (D12.out.trans E24.out)
  have C4v := Lib.hid (C13.out.trans D134.out)
  have y10 := (E14.out.cell (o := 0) SP1.out).trans P1.out.1
  have y11 := (E14.out.cell (o := 1) SP1.out).trans P1.out.2
  have y20 := (E24.out.cell (o := 0) SP2.out).trans P2.out.1
  have y21 := (E24.out.cell (o := 1) SP2.out).trans P2.out.2
  have R4 := Lib.hid ((E34.out.row SP3.out).trans R3.out)
  have y30 : v4.cell? ⟨w13.heap.size, 0, none⟩ = some (.slice A5 n5 c5) := cell_of_row v4 _ 0 _ _ _ R4.out
  have y31 : v4.cell? ⟨w13.heap.size, 1, none⟩ = some (.slice A6 n6 c6) := cell_of_row v4 _ 1 _ _ _ R4.out
  have Y1 := Lib.hid (And.intro y10 y11)
  have Y2 := Lib.hid (And.intro y20 y21)
  have L1 := Lib.hid (show w11.heap.size < v4.heap.size by have := E14.out.sz; have := SP1.out; omega)
  have L2 := Lib.hid (show w12.heap.size < v4.heap.size by have := E24.out.sz; have := SP2.out; omega)
  have L3 := Lib.hid (show w13.heap.size < v4.heap.size by have := E34.out.sz; have := SP3.out; omega)
  clear y20 y21 y30 y31
  go_wp2_with fail
  clear hv4
  have LE := Lib.hid (show ∀ (w : World) (A : Option Addr) (n c : Nat) (N : Int), Cn w A n c N → N < d.Q → dl N ≤ 64 from fun _ _ _ _ _ h hq => h.d64 hq (Nat.le_trans LQ.out (by decide)))
  refine (knows_ok (C4v.out.gr GR10.out) (C4v.out.tabs (G10.out.tabs HT.out)) (C4v.out.bz (G10.out.bz HC.out)) hnc (C4v.out.cn KY10.out).nm (gx_el SF.out.p2 SF.out.q1 EG.out S) (E14.out.cn K1.out).nm (LE.out _ _ _ _ _ K1.out (chl_nn Q0.out).2) (E14.out.cn K2.out).nm (LE.out _ _ _ _ _ K2.out (Int.emod_lt_of_pos _ Q0.out))).mono ?_
  rintro e u1 hv
  obtain ⟨rfl, b15⟩ := hv.yes (kc_holds SF.out.p2 SF.out.q1 EG.out s0.out k0.out rfl)
  have F1 := Lib.hid b15
  have y20 := (F1.out.cell (o := 0) L2.out).trans Y2.out.1
  have y21 := (F1.out.cell (o := 1) L2.out).trans Y2.out.2
  clear hv b15 y10 y11
  go_wp2_with fail
  have I1 := Lib.hid (C4v.out.trans F1.out)
  refine (signed_ok (I1.out.gr GR10.out) (I1.out.tabs (G10.out.tabs HT.out)) (I1.out.bz (G10.out.bz HC.out)) hnc (I1.out.cn KY10.out).nm (gx_el SF.out.p2 SF.out.q1 EG.out S) (F1.out.cn (E24.out.cn K3.out)).nm (LE.out _ _ _ _ _ K3.out (chl_nn Q0.out).2) (F1.out.cn (E24.out.cn K4.out)).nm (LE.out _ _ _ _ _ K4.out (Int.emod_lt_of_pos _ Q0.out))).mono ?_
  rintro e u2 hv
  obtain ⟨rfl, b16⟩ := hv.yes (kc_holds SF.out.p2 SF.out.q1 EG.out s0.out k0.out rfl)
  have F2 := Lib.hid (F1.out.trans b16)
  have R5 := Lib.hid ((F2.out.row L3.out).trans R4.out)
  have y30 : u2.cell? ⟨w13.heap.size, 0, none⟩ = some (.slice A5 n5 c5) := cell_of_row u2 _ 0 _ _ _ R5.out
  have y31 : u2.cell? ⟨w13.heap.size, 1, none⟩ = some (.slice A6 n6 c6) := cell_of_row u2 _ 1 _ _ _ R5.out
  clear hv b16 y20 y21 I1 F1
  go_wp2_with fail
  have I2 := Lib.hid (C4v.out.trans F2.out)
  have J2 := Lib.hid (D134.out.trans F2.out)
  refine (equals_ok (I2.out.gr GR10.out) (I2.out.tabs (G10.out.tabs HT.out)) (I2.out.bz (G10.out.bz HC.out)) hnc (I2.out.cn KY10.out).nm (I2.out.cn KA10.out).nm (I2.out.cn KD10.out).nm (gx_el SF.out.p2 SF.out.q1 EG.out S) EA.out (gx_el SF.out.p2 SF.out.q1 EA.out S) (J2.out.cn K5.out).nm (LE.out _ _ _ _ _ K5.out (chl_nn Q0.out).2) (J2.out.cn K6.out).nm (LE.out _ _ _ _ _ K6.out (Int.emod_lt_of_pos _ Q0.out))).mono ?_
  rintro e u3 hv
  obtain ⟨rfl, b17⟩ := hv.yes (ce_holds SF.out.p2 SF.out.q1 EG.out EA.out s0.out k0.out rfl)
  have F3 := Lib.hid (F2.out.trans b17)
  have y10 := (F3.out.cell (o := 0) L1.out).trans Y1.out.1
  have y11 := (F3.out.cell (o := 1) L1.out).trans Y1.out.2
  have L4 := Lib.hid (show w14.heap.size < v4.heap.size from SP4.out)
  have y40 := (F3.out.cell (o := 0) L4.out).trans P4.out.1
  have y41 := (F3.out.cell (o := 1) L4.out).trans P4.out.2
  clear hv b17 y30 y31 I2 J2 F2
  go_wp2_with fail
  refine (psame8 (F3.out.cn (E14.out.cn K1.out)) (F3.out.cn (E14.out.cn K2.out)) (F3.out.cn K7.out) (F3.out.cn K8.out) (knE_more SF.out.q1).symm (by rw [knE_more SF.out.q1, resp_more])).mono ?_
  rintro e u4 ⟨rfl, b18⟩
  have F4 := Lib.hid (F3.out.trans b18)
  have R6 := Lib.hid ((F4.out.row L3.out).trans R4.out)
  have y31 : u4.cell? ⟨w13.heap.size, 1, none⟩ = some (.slice A6 n6 c6) := cell_of_row u4 _ 1 _ _ _ R6.out
  clear b18 y10 y11 y40 y41 F3
  go_wp2_with fail
  have J4 := Lib.hid (D134.out.trans F4.out)
  have m6 := cn_len K6.out
  have LZ := Lib.hid (show dl (respN d.Q (eqE d.P d.Q d.G ctx a S K) S K) ≤ 32 by
    have h1 := dl_mono K6.out.pos (Int.le_of_lt (Int.emod_lt_of_pos (K + eqE d.P d.Q d.G ctx a S K * S) Q0.out))
    have h2 := LQ.out
    exact Nat.le_trans h1 h2)
  refine (of_nm8 (J4.out.cn K6.out).nm (by have := LZ.out; omega)).mono ?_
  rintro e u5 ⟨B1, m1, d1, rfl, t1, b19⟩
  have F5 := Lib.hid (F4.out.trans (show B8 u4 u5 from b19))
  have T1 := Lib.hid t1
  clear b19 t1 y31 m6
  go_wp2_with fail
  refine (gq_any (F5.out.gr (C4v.out.gr GR10.out)).toGr0).mono ?_
  rintro e u6 ⟨B2', m2, d2, rfl, t2, b20, -⟩
  have F6 := Lib.hid (F5.out.trans (show B8 u5 u6 from b20))
  have T1b := Lib.hid (T1.out.below b20)
  have T2 := Lib.hid t2
  have l2 := Lib.hid (cn_len t2)
  clear b20 t2 T1
  go_wp2_with fail
  refine (of_nm8 T2.out.nm (by have := LQ.out; have := l2.out; omega)).mono ?_
  rintro e u7 ⟨B3, m3, d3, rfl, t3, b21⟩
  have F7 := Lib.hid (F6.out.trans (show B8 u6 u7 from b21))
  have T1c := Lib.hid (T1b.out.below b21)
  have T3 := Lib.hid t3
  have p1 := T1b.out.len_
  have p3 := t3.len_
  have z0 := Lib.hid K6.out.pos
  have M1 := Lib.hid (show m1 ≤ 256 by have := dr_nm z0.out (Nat.le_trans LZ.out (by decide)); omega)
  have M3 := Lib.hid (show m3 ≤ 256 by have := dr_nm (N := d.Q) (by have := Q0.out; omega) (Nat.le_trans LQ.out (by decide)); omega)
  clear b21 t3 T2 T1b l2 p1 p3
  go_wp2_with fail
  refine (radd_any T1c.out T3.out (by have := M1.out; omega) (by have := M3.out; omega)).mono ?_
  rintro e u8 ⟨B4, m4, d4, rfl, t4, b22⟩
  have F8 := Lib.hid (F7.out.trans (show B8 u7 u8 from b22))
  have T4 := Lib.hid t4
  have p4 := t4.len_
  have M4 := Lib.hid (show m4 ≤ 100000 by have := dr_sum z0.out (show 0 ≤ d.Q by have := Q0.out; omega) (Nat.le_trans LZ.out (by decide)) (Nat.le_trans LQ.out (by decide)); omega)
  clear b22 t4 p4 T1c T3 M1 M3
  go_wp2_with fail
  refine (to_new8 T4.out M4.out).mono ?_
  rintro e u9 ⟨B5, m5, d5, rfl, t5, n5, b23⟩
  have F9 := Lib.hid (F8.out.trans b23)
  have T5 := Lib.hid t5
  have s8 := F8.out.sz
  have N5 := Lib.hid (show ∀ a, B5 = some a → 0 < m5 → a.block ≠ w13.heap.size from fun a ha _ => by have := n5 a ha; have := L3.out; omega)
  have LZ2 := Lib.hid (show dl (respN d.Q (eqE d.P d.Q d.G ctx a S K) S K + d.Q) ≤ 64 from dl_sum z0.out (by have := Q0.out; omega) (Nat.le_trans LZ.out (by decide)) (Nat.le_trans LQ.out (by decide)))
  have R7 := Lib.hid ((F9.out.row L3.out).trans R4.out)
  have y31 : u9.cell? ⟨w13.heap.size, 1, none⟩ = some (.slice A6 n6 c6) := cell_of_row u9 _ 1 _ _ _ R7.out
  have f31 := frozen_of_row u9 w13.heap.size 1 _ _ R7.out
  clear b23 t5 n5 s8 T4 M4
  have R8 := Lib.hid (heap_setCell_same u9 w13.heap.size 1 _ _ (.slice B5 m5 d5) R7.out)
  have J9 := Lib.hid (show B8 w13 (u9.setCell ⟨w13.heap.size, 1, none⟩ (.slice B5 m5 d5)) from Below.setCell (D134.out.trans F9.out) (Nat.le_refl _) _)
  have T5b := Lib.hid (T5.out.far8 N5.out (.slice B5 m5 d5) (i := 1))
  obtain ⟨uz, huz⟩ : ∃ uz, u9.setCell ⟨w13.heap.size, 1, none⟩ (.slice B5 m5 d5) = uz := ⟨_, rfl⟩
  rw [huz] at R8 J9 T5b
  have y50 : uz.cell? ⟨w13.heap.size, 0, none⟩ = some (.slice A5 n5 c5) := cell_of_row uz _ 0 _ _ _ R8.out
  have y51 : uz.cell? ⟨w13.heap.size, 1, none⟩ = some (.slice B5 m5 d5) := cell_of_row uz _ 1 _ _ _ R8.out
  go_wp2_with fail
  have IZ := Lib.hid (C13.out.trans J9.out)
  refine (equals_ok (IZ.out.gr GR10.out) (IZ.out.tabs (G10.out.tabs HT.out)) (IZ.out.bz (G10.out.bz HC.out)) hnc (IZ.out.cn KY10.out).nm (IZ.out.cn KA10.out).nm (IZ.out.cn KD10.out).nm (gx_el SF.out.p2 SF.out.q1 EG.out S) EA.out (gx_el SF.out.p2 SF.out.q1 EA.out S) (J9.out.cn K5.out).nm (LE.out _ _ _ _ _ K5.out (chl_nn Q0.out).2) T5b.out.nm LZ2.out).mono ?_
  rintro e uy hv
  obtain ⟨rfl, b24⟩ := hv.yes (by rw [ce_more SF.out.q1]; exact ce_holds SF.out.p2 SF.out.q1 EG.out EA.out s0.out k0.out rfl)
  have FIN := Lib.hid (G10.out.trans (IZ.out.trans b24))
  clear hv b24 y50 y51 y31 f31 huz
  go_wp2_with fail
  go_ret
  exact ⟨rfl, FIN.out⟩
end Go.Proofs.YtloibmemlkfkfaaGreatDoor
