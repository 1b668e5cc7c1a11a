/-
  SigmaStays answers true: what is handed in stays as it is; asked again, the same is answered.
-/
import Derived.Test.YtloibmemlkfkfaaGreatDoorN8
namespace Go.Proofs.YtloibmemlkfkfaaGreatDoor
open Go.RowKit
set_option linter.unusedVariables false
set_option maxHeartbeats 32000000 in
set_option maxRecDepth 100000 in
theorem sigmaStays_walk {w : World} (x : Int) (hx : -9223372036854775808 ≤ x ∧ x ≤ 9223372036854775807) {Ac As Ak : Option Addr} {nc cc ns cs nk ck : Nat} {ctx : List Int} {S K : Int}
    (hc : Bz w Ac nc ctx) (hnc : nc ≤ 140737488355328) (hs : Nm w As ns cs S) (hk : Nm w Ak nk ck K) (hT : Tabs w) :
    Calls Tryz.prog 7 #[.int .i64 x, .slice Ac nc cc, .slice As ns cs, .slice Ak nk ck] w (AnsV (.bool true) w) := by
  have HC := Lib.hid hc
  have HS := Lib.hid hs
  have HK := Lib.hid hk
  have HX := Lib.hid hx
  have HT := Lib.hid hT
  obtain ⟨⟨sx, s1, s2, s3⟩, -, s5, -⟩ := id hs
  obtain ⟨⟨kx, k1, k2, k3⟩, -, k5, -⟩ := id hk
  have SX := Lib.hid (And.intro s1 (And.intro s2 s3))
  have KX := Lib.hid (And.intro k1 (And.intro k2 k3))
  have he := ne_nil8
  have he1 := eq_nil8
  clear hc hs hk hx hT s1 s2 s3 k1 k2 k3
  go_enter Tryz.func7, Tryz.ntmps7
  go_wp2_with fail
  refine (up8_any HT.out).mono ?_
  rintro e w0 ⟨rfl, b0⟩
  have B0 := Lib.hid (show B8 w w0 from b0)
  clear b0
  go_wp2_with fail
  refine (known_any x HX.out w0).mono ?_
  rintro e w1 ⟨A, n, c, A', n', c', rfl, kg, b1⟩
  have B1 := Lib.hid (B0.out.trans (show B8 w0 w1 from b1))
  have KGG := Lib.hid kg
  clear b1 kg B0
  go_wp2_with fail
  refine (kg_new (kix_lt x) KGG.out).mono ?_
  rintro e w2 ⟨b, d, rfl, gr, -, -, -, b2, -, -⟩
  have q1 := g8_eq b
  have q2 := gne8 b
  have B2 := Lib.hid (B1.out.trans (show B8 w1 w2 from b2))
  have GR := Lib.hid gr
  have SF := Lib.hid gr.safe
  have EG := Lib.hid gr.el
  have Q0 := Lib.hid (show 0 < d.Q by have := gr.safe.q3; omega)
  have LQ := Lib.hid (show dl d.Q ≤ 32 from gr.lq)
  clear b2 gr KGG B1
  rcases Nat.lt_or_ge 30 ns with g1 | g1
  · have e1 : decide ((30 : Int) < (ns : Int)) = true := by simp; omega
    go_wp2_with fail
    go_ret
    exact ⟨rfl, B2.out⟩
  have e1 : decide ((30 : Int) < (ns : Int)) = false := by simp; omega
  rcases Nat.lt_or_ge 30 nk with g2 | g2
  · have e2 : decide ((30 : Int) < (nk : Int)) = true := by simp; omega
    go_wp2_with fail
    go_ret
    exact ⟨rfl, B2.out⟩
  have e2 : decide ((30 : Int) < (nk : Int)) = false := by simp; omega
  rcases Nat.lt_or_ge 1000 nc with g3 | g3
  · have e3 : decide ((1000 : Int) < (nc : Int)) = true := by simp; omega
    go_wp2_with fail
    go_ret
    exact ⟨rfl, B2.out⟩
  have e3 : decide ((1000 : Int) < (nc : Int)) = false := by simp; omega
  have lS : dl S ≤ 64 := by have := HS.out.dl_le; omega
  have lK : dl K ≤ 64 := by have := HK.out.dl_le; omega
  -- own
  have O1 := Lib.hid (own_none8 w2 5 .u8 (base := w2.heap.size) (Nat.le_refl _))
  have R1 := Lib.hid ((B8.alloc w2 (.cells #[] 5)).bz (B2.out.bz HC.out)).rd
  have LC := Lib.hid HC.out.rd.len
  have B2a := B8.alloc w2 (.cells #[] 5)
  have z2 : w2.heap.size ≤ (w2.alloc (.cells #[] 5)).heap.size := by simp
  go_wp2_with (at_builtin; refine wpList_cat8 _ rfl (.tmp 60) (.tmp 61) 22 rfl w2.heap.size 5 .u8 Tryz.underlying22 info8u _ 0 [] rfl O1.out Ac nc cc ctx rfl R1.out (by omega) z2 ?_)
  rintro v1 w3 h1 hg1
  have b3 : B8 w2 w3 := own_below B2a O1.out hg1 z2 (Nat.le_refl _)
  have B3 := Lib.hid b3
  have sz3 := hg1.size
  obtain ⟨A1, c1, rfl, m1⟩ := mn_own (xs := ctx) (n := nc) (t := 5) (k := .u8) (w := w3) (base := w2.heap.size) (by simpa using h1)
  have M1 := Lib.hid m1
  have LT3 := Lib.hid (show w2.heap.size < w3.heap.size by simp at sz3; omega)
  obtain ⟨ga, ya1, ya2, ya3⟩ := mn_block m1 LT3.out
  have YA := Lib.hid (And.intro ya1 (And.intro ya2 ya3))
  clear h1 hg1 b3 m1 O1 R1 B2a z2 sz3 e1 e2 e3 q2 ya1 ya2 ya3
  -- a
  have O2 := Lib.hid (own_none8 w3 69 .u64 (base := w3.heap.size) (Nat.le_refl _))
  have R2 := Lib.hid (SX.out.1.below (B2.out.trans (B3.out.trans (B8.alloc w3 (.cells #[] 69)))))
  have B3a := B8.alloc w3 (.cells #[] 69)
  have z3 : w3.heap.size ≤ (w3.alloc (.cells #[] 69)).heap.size := by simp
  go_wp2_with (at_builtin; refine wpList_catK _ rfl (.tmp 63) (.tmp 64) 24 rfl w3.heap.size 8 69 .u64 Tryz.underlying24 info64_ (by decide) _ 0 [] rfl O2.out As ns cs sx rfl R2.out (by omega) z3 ?_)
  rintro v2 w4 h2 hg2
  have b4 : B8 w3 w4 := own_below B3a O2.out hg2 z3 (Nat.le_refl _)
  have B4 := Lib.hid b4
  have sz4 := hg2.size
  obtain ⟨A2, c2, rfl, m2⟩ := mn_own (xs := sx) (n := ns) (t := 69) (k := .u64) (w := w4) (base := w3.heap.size) (by simpa using h2)
  have M2 := Lib.hid m2
  have LT4 := Lib.hid (show w3.heap.size < w4.heap.size by simp at sz4; omega)
  obtain ⟨gb, yb1, yb2, yb3⟩ := mn_block m2 LT4.out
  have YB := Lib.hid (And.intro yb1 (And.intro yb2 yb3))
  clear h2 hg2 b4 m2 O2 R2 B3a z3 sz4 yb1 yb2 yb3
  -- b
  have O3 := Lib.hid (own_none8 w4 69 .u64 (base := w4.heap.size) (Nat.le_refl _))
  have R3 := Lib.hid (KX.out.1.below (B2.out.trans (B3.out.trans (B4.out.trans (B8.alloc w4 (.cells #[] 69))))))
  have B4a := B8.alloc w4 (.cells #[] 69)
  have z4 : w4.heap.size ≤ (w4.alloc (.cells #[] 69)).heap.size := by simp
  go_wp2_with (at_builtin; refine wpList_catK _ rfl (.tmp 66) (.tmp 67) 24 rfl w4.heap.size 8 69 .u64 Tryz.underlying24 info64_ (by decide) _ 0 [] rfl O3.out Ak nk ck kx rfl R3.out (by omega) z4 ?_)
  rintro v3 w5 h3 hg3
  have b5 : B8 w4 w5 := own_below B4a O3.out hg3 z4 (Nat.le_refl _)
  have B5 := Lib.hid (B4.out.trans b5)
  obtain ⟨A3, c3, rfl, m3⟩ := mn_own (xs := kx) (n := nk) (t := 69) (k := .u64) (w := w5) (base := w4.heap.size) (by simpa using h3)
  have M3 := Lib.hid m3
  have M2b := Lib.hid (M2.out.below b5)
  have M1b := Lib.hid (M1.out.below (B4.out.trans b5))
  have G5 := Lib.hid (B2.out.trans (B3.out.trans (B4.out.trans b5)))
  have GR5 := Lib.hid ((B3.out.trans (B4.out.trans b5)).gr GR.out)
  have S45 := Lib.hid b5.sz
  have S34 := Lib.hid B4.out.sz
  clear h3 hg3 b5 m3 O3 R3 B4a z4 M1 M2
  go_wp2_with fail
  -- Know
  have N1 : Bz w5 A1 nc ctx := ⟨M1b.out.rd, HC.out.dig_⟩
  have N2 : Nm w5 A2 ns c2 S := ⟨⟨sx, M2b.out.rd, SX.out.2⟩, M2b.out.nc, by omega, HS.out.pos⟩
  have N3 : Nm w5 A3 nk c3 K := ⟨⟨kx, M3.out.rd, KX.out.2⟩, M3.out.nc, by omega, HK.out.pos⟩
  refine (know_ok GR5.out (G5.out.tabs HT.out) N1 hnc N2 lS N3 lK).mono ?_
  rintro e w6 ⟨A4, n4, c4, A5, n5, c5, rfl, k4, k5, b6, h4, h5⟩
  have bp := B8.alloc w6 (.cells #[.slice A4 n4 c4, .slice A5 n5 c5] 33)
  have px := pf_box w6 (.slice A4 n4 c4) (.slice A5 n5 c5)
  obtain ⟨v1, hv1⟩ : ∃ v, w6.alloc (.cells #[.slice A4 n4 c4, .slice A5 n5 c5] 33) = v := ⟨_, rfl⟩
  have sp : w6.heap.size < v1.heap.size := by rw [← hv1]; simp
  rw [hv1] at bp px
  have P1 := Lib.hid px
  have SP1 := Lib.hid sp
  have C1 := Lib.hid (b6.trans bp)
  have K4 := Lib.hid (bp.cn k4)
  have K5 := Lib.hid (bp.cn k5)
  have H4 := Lib.hid h4
  have H5 := Lib.hid h5
  have S56 := Lib.hid b6.sz
  have MA := Lib.hid (M1b.out.below (b6.trans bp))
  have MB := Lib.hid (M2b.out.below (b6.trans bp))
  have MC := Lib.hid (M3.out.below (b6.trans bp))
  have CV1 := Lib.hid (conv_any (c := c1) MA.out.rd)
  have cv1 := CV1.out
  have cv2 := conv_any (c := cc) ((C1.out.bz (G5.out.bz HC.out)).rd)
  clear k4 k5 b6 h4 h5 bp px sp M1b M2b M3 N1 N2 N3 CV1
  go_wp2_with fail
  clear hv1
  refine (same8_rd MB.out.rd (SX.out.1.below (G5.out.trans C1.out)) (by omega)).mono ?_
  rintro e w7 ⟨rfl, r1, rfl⟩
  go_wp2_with fail
  refine (same8_rd ((MC.out.below (B8.drewN v1 r1)).rd) ((KX.out.1.below (G5.out.trans C1.out)).below (B8.drewN v1 r1)) (by omega)).mono ?_
  rintro e w8 ⟨rfl, r2, hr2⟩
  obtain ⟨wb, hwb⟩ : ∃ wb, (v1.drewN r1).drewN r2 = wb := ⟨_, rfl⟩
  have DB := Lib.hid (show B8 v1 wb by rw [← hwb]; exact (B8.drewN v1 r1).trans (B8.drewN _ r2))
  have hw8 : w8 = wb := hr2.trans hwb
  subst hw8
  clear hr2 hwb cv1 cv2
  have MA8 := Lib.hid (MA.out.below DB.out)
  have MB8 := Lib.hid (MB.out.below DB.out)
  have C8 := Lib.hid (C1.out.trans DB.out)
  have K48 := Lib.hid (DB.out.cn K4.out)
  have K58 := Lib.hid (DB.out.cn K5.out)
  have P8 := Lib.hid (And.intro ((DB.out.cell (o := 0) SP1.out).trans P1.out.1) ((DB.out.cell (o := 1) SP1.out).trans P1.out.2))
  have SP8 := Lib.hid (show w6.heap.size < w8.heap.size by have := DB.out.sz; have := SP1.out; omega)
  have DIF := Lib.hid (show ga ≠ gb ∧ ga < w5.heap.size ∧ gb < w5.heap.size ∧ w2.heap.size ≤ ga ∧ w2.heap.size ≤ gb by
    have := YA.out.2; have := YB.out.2; have := S45.out; have := S34.out; have := B3.out.sz
    refine ⟨?_, ?_, ?_, ?_, ?_⟩ <;> omega)
  have B28 := Lib.hid (B3.out.trans (B5.out.trans C8.out))
  clear DB MA MB MC K4 K5 P1 SP1 C1
  go_wp2_with fail
  go_loopw [18] (fun i wr => StR8 69 .u64 A2 ns c2 w3.heap.size (fun q => q = gb) w8 i wr) (fun i _ => ns - (intOf i).toNat)
  case atStart => exact ⟨0, _, Nat.zero_le _, rfl, MB8.out, Tn8.refl _ _⟩
  case round =>
    obtain ⟨q, ys, hq, rfl, hmn, hbx⟩ := hrel
    rcases Nat.lt_or_ge q ns with hlt | hge
    · obtain ⟨g, rfl, hg, ltg⟩ := hmn.at08 (by omega)
      have hgo : g = gb := YB.out.1 _ rfl
      subst hgo
      have hqi : (q : Int) < (ns : Int) := by omega
      have cc := hmn.cell8 hlt
      have ff := hmn.frozen8 hlt
      have MS := Lib.hid (fun y : Int => hmn.set8 hlt y)
      have BS := Lib.hid (fun y : Int => hbx.set (g := g) rfl q (.int .u64 y))
      clear hmn hbx
      go_wp2_with fail
      go_roundw
      case rel => exact ⟨q + 1, _, by omega, by go_num, MS.out _, BS.out _⟩
      case measure => simp [intOf]; omega
    · obtain rfl : q = ns := by omega
      have hqi : decide ((q : Int) < (q : Int)) = false := by simp
      obtain ⟨w9, rfl⟩ : ∃ w9, w9 = wr := ⟨_, rfl⟩
      have T9 := Lib.hid hbx
      have MA9 := Lib.hid (MA8.out.tn hbx (fun a ha => by rw [YA.out.1 a ha]; exact DIF.out.1))
      clear hmn hbx MB8 MA8
      go_wp2_with fail
      go_loopw [19] (fun i wr => StR8 5 .u8 A1 nc c1 w2.heap.size (fun q => q = ga) w9 i wr) (fun i _ => nc - (intOf i).toNat)
      case atStart => exact ⟨0, _, Nat.zero_le _, rfl, MA9.out, Tn8.refl _ _⟩
      case round =>
        obtain ⟨p, ys, hp, rfl, hmn, hbx⟩ := hrel
        rcases Nat.lt_or_ge p nc with hlt | hge
        · obtain ⟨g, rfl, hg, ltg⟩ := hmn.at08 (by omega)
          have hgo : g = ga := YA.out.1 _ rfl
          subst hgo
          have hpi : (p : Int) < (nc : Int) := by omega
          have cc := hmn.cell8 hlt
          have ff := hmn.frozen8 hlt
          have MS := Lib.hid (fun y : Int => hmn.set8 hlt y)
          have BS := Lib.hid (fun y : Int => hbx.set (g := g) rfl p (.int .u8 y))
          clear hmn hbx
          go_wp2_with fail
          go_roundw
          case rel => exact ⟨p + 1, _, by omega, by go_num, MS.out _, BS.out _⟩
          case measure => simp [intOf]; omega
        · obtain rfl : p = nc := by omega
          have hpi : decide ((p : Int) < (p : Int)) = false := by simp
          obtain ⟨wz, rfl⟩ : ∃ wz, wz = wr := ⟨_, rfl⟩
          have TZ := Lib.hid hbx
          have BZ := Lib.hid (show B8 w2 wz from hbx.b8 (T9.out.b8 B28.out (fun b hb => by have := DIF.out.2.2.2.2; show b ≠ gb; omega)) (fun b hb => by have := DIF.out.2.2.2.1; show b ≠ ga; omega))
          have z8 := C8.out.sz
          have z9 := T9.out.size
          have KZ4 := Lib.hid (hbx.cn (T9.out.cn K48.out (fun a ha => by have := H4.out a ha; have := DIF.out.2.2.1; show a.block ≠ gb; omega)) (fun a ha => by have := H4.out a ha; have := DIF.out.2.1; show a.block ≠ ga; omega))
          have KZ5 := Lib.hid (hbx.cn (T9.out.cn K58.out (fun a ha => by have := H5.out a ha; have := DIF.out.2.2.1; show a.block ≠ gb; omega)) (fun a ha => by have := H5.out a ha; have := DIF.out.2.1; show a.block ≠ ga; omega))
          have SPZ := Lib.hid (show w6.heap.size < wz.heap.size by have := hbx.size; have := SP8.out; omega)
          have n1 : w6.heap.size ≠ gb := by have := S56.out; have := DIF.out.2.2.1; omega
          have n2 : w6.heap.size ≠ ga := by have := S56.out; have := DIF.out.2.1; omega
          have PZ := Lib.hid (And.intro ((hbx.cell (o := 0) (show w6.heap.size < w9.heap.size by have := SP8.out; omega) n2).trans ((T9.out.cell (o := 0) SP8.out n1).trans P8.out.1)) ((hbx.cell (o := 1) (show w6.heap.size < w9.heap.size by have := SP8.out; omega) n2).trans ((T9.out.cell (o := 1) SP8.out n1).trans P8.out.2)))
          have GZ := Lib.hid (B2.out.trans BZ.out)
          have GRZ := Lib.hid (BZ.out.gr GR.out)
          clear hmn hbx MA9 T9 TZ z8 z9 n1 n2 K48 K58 P8 SP8 GR
          go_wp2_with fail
          refine (know_ok GRZ.out (GZ.out.tabs HT.out) (GZ.out.bz HC.out) hnc (GZ.out.nm HS.out) lS (GZ.out.nm HK.out) lK).mono ?_
          rintro e u1 ⟨A6, n6, c6, A7, n7, c7, rfl, k6, k7, b10, -, -⟩
          have bp := B8.alloc u1 (.cells #[.slice A6 n6 c6, .slice A7 n7 c7] 33)
          have px := pf_box u1 (.slice A6 n6 c6) (.slice A7 n7 c7)
          obtain ⟨v2, hv2⟩ : ∃ v, u1.alloc (.cells #[.slice A6 n6 c6, .slice A7 n7 c7] 33) = v := ⟨_, rfl⟩
          have sp : u1.heap.size < v2.heap.size := by rw [← hv2]; simp
          rw [hv2] at bp px
          have P2 := Lib.hid px
          have SP2 := Lib.hid sp
          have C2 := Lib.hid (b10.trans bp)
          have K6 := Lib.hid (bp.cn k6)
          have K7 := Lib.hid (bp.cn k7)
          clear k6 k7 b10 bp px sp
          go_wp2_with fail
          clear hv2
          refine (gx_base (C2.out.gr GRZ.out) (C2.out.nm (GZ.out.nm HS.out)) lS).mono ?_
          rintro e u2 ⟨Ay, ny, cy, rfl, ky, b11, -⟩
          have D2 := Lib.hid (show B8 v2 u2 from b11)
          have KY := Lib.hid ky
          have E2 := Lib.hid (C2.out.trans D2.out)
          have y0 := (E2.out.cell (o := 0) SPZ.out).trans PZ.out.1
          have y1 := (E2.out.cell (o := 1) SPZ.out).trans PZ.out.2
          clear b11 ky
          go_wp2_with fail
          have LE := Lib.hid (show ∀ (w : World) (A : Option Addr) (n c : Nat) (N : Int), Cn w A n c N → N < d.Q → dl N ≤ 64 from fun _ _ _ _ _ h hq => h.d64 hq (Nat.le_trans LQ.out (by decide)))
          refine (knows_ok (E2.out.gr GRZ.out) (E2.out.tabs (GZ.out.tabs HT.out)) (E2.out.bz (GZ.out.bz HC.out)) hnc KY.out.nm (gx_el SF.out.p2 SF.out.q1 EG.out S) (E2.out.cn KZ4.out).nm (LE.out _ _ _ _ _ KZ4.out (chl_nn Q0.out).2) (E2.out.cn KZ5.out).nm (LE.out _ _ _ _ _ KZ5.out (Int.emod_lt_of_pos _ Q0.out))).mono ?_
          rintro e u3 hv
          obtain ⟨rfl, b12⟩ := hv.yes (kc_holds SF.out.p2 SF.out.q1 EG.out HS.out.pos HK.out.pos rfl)
          have E3 := Lib.hid (E2.out.trans b12)
          have D3 := Lib.hid (D2.out.trans b12)
          have KY3 := Lib.hid (b12.cn KY.out)
          have y2 := (E3.out.cell (o := 0) SPZ.out).trans PZ.out.1
          have y3 := (E3.out.cell (o := 1) SPZ.out).trans PZ.out.2
          clear hv b12 y0 y1 E2 D2 KY
          go_wp2_with fail
          refine (knows_ok (E3.out.gr GRZ.out) (E3.out.tabs (GZ.out.tabs HT.out)) (E3.out.bz (GZ.out.bz HC.out)) hnc KY3.out.nm (gx_el SF.out.p2 SF.out.q1 EG.out S) (E3.out.cn KZ4.out).nm (LE.out _ _ _ _ _ KZ4.out (chl_nn Q0.out).2) (E3.out.cn KZ5.out).nm (LE.out _ _ _ _ _ KZ5.out (Int.emod_lt_of_pos _ Q0.out))).mono ?_
          rintro e u4 hv
          obtain ⟨rfl, b13⟩ := hv.yes (kc_holds SF.out.p2 SF.out.q1 EG.out HS.out.pos HK.out.pos rfl)
          have E4 := Lib.hid (E3.out.trans b13)
          have D4 := Lib.hid (D3.out.trans b13)
          have y4 := (E4.out.cell (o := 0) SPZ.out).trans PZ.out.1
          have y5 := (E4.out.cell (o := 1) SPZ.out).trans PZ.out.2
          have y6 := (D4.out.cell (o := 0) SP2.out).trans P2.out.1
          have y7 := (D4.out.cell (o := 1) SP2.out).trans P2.out.2
          clear hv b13 y2 y3 E3 D3
          go_wp2_with fail
          refine (psame8 (E4.out.cn KZ4.out) (E4.out.cn KZ5.out) (D4.out.cn K6.out) (D4.out.cn K7.out) rfl rfl).mono ?_
          rintro e u5 ⟨rfl, b14⟩
          have FIN := Lib.hid (GZ.out.trans (E4.out.trans b14))
          clear b14 y4 y5 y6 y7
          go_wp2_with fail
          go_ret
          exact ⟨rfl, FIN.out⟩
end Go.Proofs.YtloibmemlkfkfaaGreatDoor
