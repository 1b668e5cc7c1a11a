/-
  SealCloses answers true: any bytes, sealed to any key, or what is amiss first.
-/
import Derived.Test.YtjalncdllegfoaaGreatDoorSlq
import Derived.Test.YtjalncdllegfoaaGreatDoorU10
import Derived.Test.YtjalncdllegfoaaGreatDoorRft
namespace Go.Proofs.YtjalncdllegfoaaGreatDoor
open Go.RowKit
set_option linter.unusedVariables false
set_option maxHeartbeats 32000000 in
set_option maxRecDepth 100000 in
theorem sealCloses_walk {w : World} (x : Int) (hx : -9223372036854775808 ≤ x ∧ x ≤ 9223372036854775807) {Ak Ab Ar : Option Addr} {nk ck nb' cb nr cr : Nat} {K R : Int} {bs : List Int}
    (hk : Nm w Ak nk ck K) (hb : Bz w Ab nb' bs) (hnb : nb' ≤ 140737488355328) (hr : Nm w Ar nr cr R) (hT : Tabs w) :
    Calls Tryz.prog 3 #[.int .i64 x, .slice Ak nk ck, .slice Ab nb' cb, .slice Ar nr cr] w (AnsV (.bool true) w) := by
  have HK := Lib.hid hk
  have HB := Lib.hid hb
  have HR := Lib.hid hr
  have HX := Lib.hid hx
  have HT := Lib.hid hT
  clear hk hb hr hx hT
  go_enter Tryz.func3, Tryz.ntmps3
  go_wp2_with fail
  refine (up10_any HT.out).mono ?_
  rintro e w0 ⟨rfl, b0⟩
  have B0 := Lib.hid (show B8 w w0 from b0)
  clear b0
  go_wp2_with fail
  refine (known10_any x HX.out w0).mono ?_
  rintro e w1 ⟨b, d, b', r, rfl, gr, rg, hP, hQ, hG, b1⟩
  have q1 := g8_eq b
  have B1 := Lib.hid (B0.out.trans (show B8 w0 w1 from b1))
  have GR := Lib.hid gr
  have RG := Lib.hid rg
  have PQ := Lib.hid (And.intro hP (And.intro hQ hG))
  clear gr rg hP hQ hG b1 B0
  have LS := Lib.hid (ns_lit2 (B1.out.nm HK.out) (B1.out.nm HR.out) (g := w1.heap.size) rfl)
  have B2 := Lib.hid (B8.alloc w1 (.cells #[.slice Ak nk ck, .slice Ar nr cr] 23))
  obtain ⟨w2, hw2⟩ : ∃ w2, w1.alloc (.cells #[.slice Ak nk ck, .slice Ar nr cr] 23) = w2 := ⟨_, rfl⟩
  rw [hw2] at LS B2
  go_wp2_with fail
  refine (light10_any LS.out).mono ?_
  rintro e w3 ⟨⟨s, rfl, hs⟩, rfl⟩
  clear hw2
  have G2 := Lib.hid (B1.out.trans B2.out)
  cases s with
  | false =>
    clear hs
    go_wp2_with fail
    go_ret
    exact ⟨rfl, G2.out⟩
  | true =>
  have hl := hs.1 rfl
  have LK := Lib.hid (show Li nk K from hl 0 (by decide))
  have LR := Lib.hid (show Li nr R from hl 1 (by decide))
  clear hs hl LS
  by_cases g : 2000 < nb' ∧ nb' ≤ 1048576
  · have e1 : decide ((2000 : Int) < (nb' : Int)) = true := by simp; omega
    have e2 : decide ((nb' : Int) ≤ 1048576) = true := by simp; omega
    clear g
    go_wp2_with fail
    go_ret
    exact ⟨rfl, G2.out⟩
  have hn : nb' ≤ 10000 ∨ 1048576 < nb' := by omega
  have e12 : decide ((2000 : Int) < (nb' : Int)) = false ∨ (decide ((2000 : Int) < (nb' : Int)) = true ∧ decide ((nb' : Int) ≤ 1048576) = false) := by
    rcases Nat.lt_or_ge 2000 nb' with q | q
    · exact .inr ⟨by simp; omega, by simp; omega⟩
    · exact .inl (by simp; omega)
  clear g
  obtain ⟨kc, hkc⟩ : ∃ kc, clC nb' (64 < dl R) (El d.P d.Q K) = kc := ⟨_, rfl⟩
  obtain ⟨Y, hY⟩ : ∃ Y, gx d.P d.Q d.G R = Y := ⟨_, rfl⟩
  obtain ⟨X, hX⟩ : ∃ X, slX d.P (gx d.P d.Q K R) Y bs = X := ⟨_, rfl⟩
  obtain ⟨T, hTg⟩ : ∃ T, slG d.P (gx d.P d.Q K R) Y X = T := ⟨_, rfl⟩
  have VC := Lib.hid (show Calls Tryz.prog 8 #[.pointer (some ⟨b, 0, none⟩), .slice Ak nk ck, .slice Ab nb' cb, .slice Ar nr cr] w2 (ClV kc Y X T w2) from by
    have h := close_v (ck := ck) (cb := cb) (cr := cr) (B2.out.gr GR.out) (G2.out.tabs HT.out) (G2.out.nm HK.out) (G2.out.bz HB.out) (G2.out.nm HR.out)
    rwa [hkc, hY, hX, hTg] at h)
  have DC := Lib.hid (show ∀ W, B8 w2 W → Calls Tryz.prog 9 #[.pointer (some ⟨b', 0, none⟩), .slice Ak nk ck, .slice Ab nb' cb, .slice Ar nr cr] W (ClD kc Y X T W) from fun W hW => by
    have h := rclose_v (ck := ck) (cb := cb) (cr := cr) (RG.out.bel (B2.out.trans hW)) ((G2.out.trans hW).nm HK.out) LK.out ((G2.out.trans hW).bz HB.out) hn ((G2.out.trans hW).nm HR.out) LR.out
    rwa [PQ.out.1, PQ.out.2.1, PQ.out.2.2, hkc, hY, hX, hTg] at h)
  have E12 := Lib.hid e12
  clear hkc hY hX hTg hn e12
  rcases E12.out with e1 | ⟨e1, e2⟩
  all_goals
    go_wp2_with fail
    refine VC.out.mono ?_
    rintro e w4 ⟨v, ev, rfl, hev, ⟨A4, n4, c4, A5, n5, c5, A6, n6, c6, rfl, k4, k5, k6⟩, b4⟩
    have px := three_box w4 (.slice A4 n4 c4) (.slice A5 n5 c5) (.slice A6 n6 c6) 33
    have bp := B8.alloc w4 (.cells #[.slice A4 n4 c4, .slice A5 n5 c5, .slice A6 n6 c6] 33)
    obtain ⟨w5, hw5⟩ : ∃ w5, w4.alloc (.cells #[.slice A4 n4 c4, .slice A5 n5 c5, .slice A6 n6 c6] 33) = w5 := ⟨_, rfl⟩
    have S5 := Lib.hid (show w4.heap.size < w5.heap.size by rw [← hw5]; simp)
    rw [hw5] at px bp
    have PX := Lib.hid px
    have B5 := Lib.hid (b4.trans bp)
    have K4 := Lib.hid (bp.cn k4)
    have K5 := Lib.hid (bp.bz k5)
    have K6 := Lib.hid (bp.bz k6)
    have HEV := Lib.hid hev
    clear px bp k4 k5 k6 b4 hev
    go_wp2_with fail
    clear hw5
    refine (DC.out w5 B5.out).mono ?_
    rintro e w6 ⟨v2, rfl, ⟨A7, n7, c7, A8, n8, c8, A9, n9, c9, rfl, k7, k8, k9⟩, b6⟩
    have py := three_box w6 (.slice A7 n7 c7) (.slice A8 n8 c8) (.slice A9 n9 c9) 33
    have bq := B8.alloc w6 (.cells #[.slice A7 n7 c7, .slice A8 n8 c8, .slice A9 n9 c9] 33)
    obtain ⟨w7, hw7⟩ : ∃ w7, w6.alloc (.cells #[.slice A7 n7 c7, .slice A8 n8 c8, .slice A9 n9 c9] 33) = w7 := ⟨_, rfl⟩
    rw [hw7] at py bq
    have D7 := Lib.hid (b6.trans bq)
    have x0 := (D7.out.cell (o := 0) S5.out).trans PX.out.1
    have x1 := (D7.out.cell (o := 1) S5.out).trans PX.out.2.1
    have x2 := (D7.out.cell (o := 2) S5.out).trans PX.out.2.2
    have y0 := py.1
    have y1 := py.2.1
    have y2 := py.2.2
    have K7 := Lib.hid (bq.cn k7)
    have K8 := Lib.hid (bq.bz k8)
    have K9 := Lib.hid (bq.bz k9)
    have B7 := Lib.hid (G2.out.trans (B5.out.trans D7.out))
    clear py bq k7 k8 k9 b6
    go_wp2_with fail
    clear hw7
    refine (same10_any (D7.out.cn K4.out) K7.out (D7.out.bz K5.out) K8.out (D7.out.bz K6.out) K9.out).mono ?_
    rintro e w8 ⟨rfl, b8⟩
    have B8' := Lib.hid (B7.out.trans (show B8 w7 w8 from b8))
    clear b8 x0 x1 x2 y0 y1 y2
    go_wp2_with fail
    refine (code_e HEV.out w8).mono ?_
    rintro e w9 ⟨rfl, rfl⟩
    go_wp2_with fail
    go_ret
    exact ⟨by simp, B8'.out⟩
end Go.Proofs.YtjalncdllegfoaaGreatDoor
