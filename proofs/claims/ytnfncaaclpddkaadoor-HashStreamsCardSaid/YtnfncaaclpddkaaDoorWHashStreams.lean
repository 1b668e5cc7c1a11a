/-
  HashStreams, walked: it answers true, whatever comes in.
-/
import Derived.Test.YtnfncaaclpddkaaDoorFit1
import Derived.Test.YtnfncaaclpddkaaDoorRst
namespace Go.Proofs.YtnfncaaclpddkaaDoor
open Go.RowKit
set_option linter.unusedVariables false
theorem Rd.bw {kd : IntKind} {w w' : World} {A : Option Addr} {n : Nat} {xs : List Int} (h : Rd kd w A n xs) (hb : Bw w w') : Rd kd w' A n xs := h.below hb
theorem bw_drewN (w : World) (j : Nat) : Bw w (w.drewN j) := below_drewN (Below.refl _ _) j
theorem rstream_r {W : World} {AK AH : Option Addr} {cK cH : Nat} {A : Option Addr} {l c n : Nat} {key R : List Int} (hR : stream key n = R) (hK : Rd .u32 W AK 64 KT) (hH : Rd .u32 W AH 8 H0.l) (hk : Bs W A l c key) (hl : l ≤ 1000) (hn : n ≤ 10000) :
    Calls Tryd.prog 17 #[.agg #[.slice AK 64 cK, .slice AH 8 cH], .slice A l c, .int .i64 n] W fun e w' => ∃ A1 c1, e = .returned (.slice A1 n c1) ∧ Bs w' A1 n c1 R ∧ Bw W w' := by
  subst hR; exact rstream_any hK hH hk hl n hn
/-- The number of bytes to compare. -/
def KcR (q : Nat) (w : World) (v : Value) (wx : World) : Prop := v = .int .i64 ((min q 2000 : Nat) : Int) ∧ w = wx
set_option maxHeartbeats 8000000 in
set_option maxRecDepth 100000 in
theorem hashStreams_walk {a : Option Addr} {na ca : Nat} {zs : List Int} {w : World} (ha : IsRow .u8 1 w a na ca zs) (sa : ∀ x, a = some x → x.spot = none) (n : Int) (hn : -9223372036854775808 ≤ n ∧ n ≤ 9223372036854775807) (m : Int) (hm : -9223372036854775808 ≤ m ∧ m ≤ 9223372036854775807) (hT : Tabs w) :
    Calls Tryd.prog 5 #[.slice a na ca, .int .i64 n, .int .i64 m] w fun e w' => e = .returned (.bool true) ∧ Below w.heap.size w w' := by
  have hna := ha.nc
  have za := ha.none_len
  obtain ⟨k, hk⟩ : ∃ k, min na 300 = k := ⟨_, rfl⟩
  have bx := ha.bs_cut sa (m := 300) (by omega)
  rw [hk] at bx
  obtain ⟨x, hx⟩ : ∃ x, (zs.take na).take k = x := ⟨_, rfl⟩
  rw [hx] at bx
  have k3 : k ≤ 300 := by omega
  have HK := Lib.hid hk
  have NA := Lib.hid (show na ≤ 140737488351232 by omega)
  have CA := Lib.hid hna.1
  have ZA := Lib.hid za
  have BX := Lib.hid bx
  have HNN := Lib.hid hn
  have HMM := Lib.hid hm
  clear ha hna hk hx bx za sa hn hm
  go_enter Tryd.func5, Tryd.ntmps5
  go_wp2_with fail
  refine (up_any hT).mono ?_
  rintro e w1 ⟨rfl, b1⟩
  have b1 : Bw w w1 := b1
  have HT := Lib.hid (hT.bw b1)
  have HX := Lib.hid (BX.out.bw b1)
  have B01 := Lib.hid b1
  clear hT BX b1
  go_wp2_with fail
  refine (cut_lit rfl HK.out NA.out CA.out ZA.out _).mono ?_
  rintro e w2 ⟨rfl, rfl⟩
  clear HK NA CA ZA
  by_cases hbad : n < 0 ∨ 1048576 < n
  · --<BAD
    go_wp2_with fail
    refine (stream_bad a k ca n hbad _).mono ?_
    rintro e w3 ⟨rfl, rfl⟩
    have q1 := eql_code 1 1
    unfold argErr
    rcases Int.lt_or_le n 0 with hg | hg
    · go_wp2_with fail
      go_ret
      exact ⟨rfl, B01.out⟩
    · have t0 : decide (n < 0) = false := by simp; omega
      have t1 : (1048576 : Int) < n := by omega
      have t2 : ¬ n < 0 := by omega
      clear hbad hg
      go_wp2_with fail
      go_ret
      exact ⟨rfl, B01.out⟩
    --BAD>
  · obtain ⟨q, hq⟩ : ∃ q : Nat, n = q := ⟨n.toNat, by omega⟩
    subst hq
    have hq20 : q ≤ 1048576 := by omega
    clear hbad HNN
    go_wp2_with fail
    refine (stream_l HT.out HX.out hq20 (by omega)).mono ?_
    rintro e w3 ⟨A3, c3, rfl, bs3, b3⟩
    have X3 := Lib.hid (HX.out.bw b3)
    have T3 := Lib.hid (HT.out.bw b3)
    have B03 := Lib.hid (B01.out.trans b3)
    have S3 := Lib.hid bs3
    clear HX HT B01 bs3 b3
    have t0 : decide ((q : Int) < 0) = false := by simp
    have t1 : decide ((1048576 : Int) < (q : Int)) = false := by simp; omega
    have t2 : ¬ (q : Int) < 0 := by omega
    go_upto_if 50 with fail
    go_cut [10] (fun v wx => KcR q w3 v wx)
    case first =>
      clear X3 T3 B03 S3
      rcases Nat.lt_or_ge 2000 q with hlt | hge
      · have g1 : decide ((2000 : Int) < (q : Int)) = true := by simp; omega
        go_wp2_with fail
        go_meet
        exact ⟨by rw [Nat.min_eq_right (by omega)]; rfl, rfl⟩
      · have g1 : decide ((2000 : Int) < (q : Int)) = false := by simp; omega
        go_wp2_with fail
        go_meet
        exact ⟨by rw [Nat.min_eq_left (by omega)], rfl⟩
    case rest =>
      obtain ⟨rfl, rfl⟩ := hcut
      obtain ⟨p, hp⟩ : ∃ p, min q 2000 = p := ⟨_, rfl⟩
      rw [hp]
      have hpq : p ≤ q := by omega
      have hp2 : p ≤ 2000 := by omega
      have HP := Lib.hid hp
      clear hp
      go_wp2_with fail
      refine (made_walk _).mono ?_
      rintro e w5 ⟨AK, cK, AH, cH, rfl, hK, hH, b5⟩
      have b5 : Bw w3 w5 := b5
      have X5 := Lib.hid (X3.out.bw b5)
      have T5 := Lib.hid (T3.out.bw b5)
      have S5 := Lib.hid (S3.out.bw b5)
      have B05 := Lib.hid (B03.out.trans b5)
      have K5 := Lib.hid hK
      have H5 := Lib.hid hH
      clear X3 T3 S3 B03 hK hH b5
      go_upto_region 12 with fail
      generalize hw6 : w5.alloc (.cells #[.slice AK 64 cK, .slice AH 8 cH] 28) = w6
      have b6 : Bw w5 w6 := by rw [← hw6]; exact Bw.alloc _ _
      have c60 : w6.cell? ⟨w5.heap.size, 0, none⟩ = some (.slice AK 64 cK) := by rw [← hw6, cell_of_row _ _ 0 _ _ _ (heap_alloc_new w5 _)]; rfl
      have c61 : w6.cell? ⟨w5.heap.size, 1, none⟩ = some (.slice AH 8 cH) := by rw [← hw6, cell_of_row _ _ 1 _ _ _ (heap_alloc_new w5 _)]; rfl
      have X6 := Lib.hid (X5.out.bw b6)
      have T6 := Lib.hid (T5.out.bw b6)
      have S6 := Lib.hid (S5.out.bw b6)
      have K6 := Lib.hid (K5.out.bw b6)
      have H6 := Lib.hid (H5.out.bw b6)
      have B06 := Lib.hid (B05.out.trans b6)
      clear X5 T5 S5 K5 H5 B05 hw6 b6
      obtain ⟨R, hR⟩ : ∃ R, stream x p = R := ⟨_, rfl⟩
      have hS : Bs w6 A3 p c3 R := by
        have h := S6.out.take_ p
        rw [Nat.min_eq_right hpq, stream_take x hpq, hR] at h
        exact h
      have HR := Lib.hid hR
      have hcq := S6.out.nc
      have hpc : (p : Int) ≤ (c3 : Int) := by omega
      have hW := Bw.drew w6
      have sq := str_neq
      have d1 := conv_b (hS.bw hW)
      have d2 := conv_l hS
      have l1 : k ≤ 1000 := by omega
      have l2 : p ≤ 10000 := by omega
      clear hR hS hcq
      go_cut [61] (fun v wx => v = .bool false ∧ Bw w6 wx)
      case first =>
        --<R12
        clear S6 T6 B06
        go_region_with (first
          | (go_at_call 17; (with_reducible refine (rstream_r HR.out (K6.out.bw hW) (H6.out.bw hW) (X6.out.bw hW) l1 l2).mono ?_); rintro e wN ⟨AN, cN, rfl, hbN, hN⟩; have hW := hW.trans hN; have cN0 := conv_b hbN; have cN1 := conv_l hbN; clear hbN hN))
        all_goals
          go_wp2_with fail
          go_meet
          exact ⟨rfl, hW⟩
        --R12>
      case rest =>
        clear d1 d2 HR hpc l1 l2 c60 c61 sq hW
        obtain ⟨rfl, hW⟩ := hcut
        obtain ⟨w12, rfl⟩ : ∃ w12, w12 = wc := ⟨_, rfl⟩
        have X12 := Lib.hid (X6.out.bw hW)
        have T12 := Lib.hid (T6.out.bw hW)
        have S12 := Lib.hid (S6.out.bw hW)
        have B012 := Lib.hid (B06.out.trans hW)
        clear X6 T6 S6 B06 K6 H6 hW
        by_cases hbad : m < 0 ∨ (q : Int) < m
        · rcases Int.lt_or_le m 0 with hg | hg
          · go_wp2_with fail
            go_ret
            exact ⟨rfl, B012.out⟩
          · have t3 : decide (m < 0) = false := by simp; omega
            have t4 : (q : Int) < m := by omega
            have t5 : ¬ m < 0 := by omega
            clear hbad hg
            go_wp2_with fail
            go_ret
            exact ⟨rfl, B012.out⟩
        · obtain ⟨r, hr⟩ : ∃ r : Nat, m = r := ⟨m.toNat, by omega⟩
          subst hr
          have hrq : r ≤ q := by omega
          have t3 : decide ((r : Int) < 0) = false := by simp
          have t4 : decide ((q : Int) < (r : Int)) = false := by simp; omega
          have t5 : ¬ (r : Int) < 0 := by omega
          clear hbad HMM
          go_wp2_with fail
          refine (stream_l T12.out X12.out (by omega) (by omega)).mono ?_
          rintro e w13 ⟨A4, c4, rfl, bs4, b13⟩
          obtain ⟨R, hR⟩ : ∃ R, stream x r = R := ⟨_, rfl⟩
          rw [hR] at bs4
          have hS : Bs w13 A3 r c3 R := by
            have h := (S12.out.bw b13).take_ r
            rw [Nat.min_eq_right hrq, stream_take x hrq, hR] at h
            exact h
          have hcq := S12.out.nc
          have hrc : (r : Int) ≤ (c3 : Int) := by omega
          have B013 := Lib.hid (B012.out.trans b13)
          have d1 := fun j => conv_b (bs4.bw (bw_drewN w13 j))
          have d2 := fun j => conv_b (hS.bw (bw_drewN w13 j))
          have sq := str_eql
          clear hS bs4 b13 X12 T12 S12 B012 hR hcq
          go_wp2_with fail
          go_quiet (fail)
          go_wp2_with fail
          go_ret
          exact ⟨rfl, B013.out.trans (bw_drewN w13 _)⟩
end Go.Proofs.YtnfncaaclpddkaaDoor
