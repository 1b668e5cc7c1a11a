/-
  The walk of NatTold: however many noughts a number is told with behind its digits, all calls answer the same.
-/
import Derived.Test.YtejggejpafpahaaDoorZeros
import Derived.Test.YtejggejpafpahaaDoorSameE
namespace Go.Proofs.YtejggejpafpahaaDoor
open Go.RowKit
set_option linter.unusedVariables false
theorem Et.below {w w' : World} (h : Et w) (hb : Below w.heap.size w w') : Et w' := by
  have := h.pos
  unfold Et at *
  exact (hb.cell (p := ⟨_, 0, none⟩) this).trans h

set_option maxHeartbeats 16000000 in
set_option maxRecDepth 100000 in
theorem told_pp {A A' : Option Addr} {n c n' c' : Nat} {xs ys : List Int} {N M : Int} {w : World} (ha : Ar w A n c xs N) (hb : Ar w A' n' c' ys M) (h1 : n ≤ 60) (h2 : n' ≤ 60) (i : Int) (hi : -9223372036854775808 ≤ i ∧ i ≤ 9223372036854775807) (hs : 0 ≤ i) (hN : 0 < N) (hg : Et w) :
    Calls Tryd.prog 3 #[.slice A n c, .slice A' n' c', .int .i64 i] w fun e w' => e = .returned (.bool true) ∧ Below w.heap.size w w' := by
  obtain ⟨m, hm⟩ : ∃ m : Nat, Int.tmod i 9 = m := ⟨(Int.tmod i 9).toNat, by rw [Int.tmod_eq_emod_of_nonneg (by omega)]; omega⟩
  have hm9 : m ≤ 8 := by rw [Int.tmod_eq_emod_of_nonneg (by omega)] at hm; omega
  have i0 := hi.1
  have i1 := hi.2
  have n0 := ha.nm.pos
  have m0 := hb.nm.pos
  have l0 : dl N ≤ 60 := by have := ha.nm.dl_le; omega
  have l1 : dl N ≤ 64 := by omega
  have l2 : dl M ≤ 64 := by have := hb.nm.dl_le; omega
  have hnb : nb N ≤ 8 * 600 := by have := nb_le n0; omega
  have HNB := Lib.hid hnb
  have HD := Lib.hid ha.told.dig_
  have HV := Lib.hid ha.val_
  have cm : cmpI N N = 0 := cmpI_eq _
  have hh1 : ¬ ((60 : Int) < (n : Int)) := by omega
  have hh2 : ¬ ((60 : Int) < (n' : Int)) := by omega
  clear hi hnb
  go_enter Tryd.func3, Tryd.ntmps3
  go_wp2_with fail
  refine (up_v _).mono ?_
  rintro e w1 ⟨rfl, b1⟩
  go_wp2_with fail
  refine (copied_own (ha.below b1).told (by omega)).mono ?_
  rintro e w2 ⟨v, rfl, hown, bn2⟩
  have b2 := b1.trans (bn2.mono b1.size)
  go_wp2_with (at_builtin; refine wpList_zeros _ rfl _ _ 23 3 rfl w1.heap.size 40 .u64 .i64 Tryd.underlying23 Tryd.underlying3 info62u _ _ xs rfl hown m ?hx (by omega) ?hb ?_)
  case hx => exact rfl
  case hb => exact bn2.size
  intro v' w3 hown' hgrow
  have bn3 := own_below (Below.refl w1.heap.size w1 |>.trans bn2) hown hgrow bn2.size (Nat.le_refl _)
  have b3 := b1.trans (bn3.mono b1.size)
  obtain ⟨X, cx, rfl, vx⟩ := own_told (n := n) (m := m) (by rw [List.map_append, List.map_replicate]; exact hown') HD.out (by omega)
  rw [HV.out] at vx
  clear hown hgrow hown' bn2 bn3 b1 b2
  go_wp2_with fail
  refine (add_any (ha.below b3).nm (hb.below b3).nm l1 l2).mono ?_
  rintro e w4 ⟨Bs, ms, cs, rfl, vs, bn4, -⟩
  have b4 := b3.trans (bn4.mono b3.size)
  have vx := vx.below bn4
  clear b3 bn4
  go_wp2_with fail
  refine (add_any vx.nm (hb.below b4).nm l1 l2).mono ?_
  rintro e w5 ⟨Bt, mt, ct, rfl, vt, bn5, -⟩
  have b5 := b4.trans (bn5.mono b4.size)
  have vx := vx.below bn5
  have vs := vs.below bn5
  clear b4 bn5
  go_wp2_with fail
  refine (mul_any (ha.below b5).nm (hb.below b5).nm l1 l2).mono ?_
  rintro e w6 ⟨Bp, mp, cp, rfl, vp, bn6, -⟩
  have b6 := b5.trans (bn6.mono b5.size)
  have vx := vx.below bn6
  have vs := vs.below bn6
  have vt := vt.below bn6
  clear b5 bn6
  go_wp2_with fail
  refine (mul_any vx.nm (hb.below b6).nm l1 l2).mono ?_
  rintro e w7 ⟨Bq, mq, cq, rfl, vq, bn7, -⟩
  have b7 := b6.trans (bn7.mono b6.size)
  have vx := vx.below bn7
  have vs := vs.below bn7
  have vt := vt.below bn7
  have vp := vp.below bn7
  clear b6 bn7
  go_wp2_with fail
  refine (div_any (hb.below b7).nm (ha.below b7).nm l2 l1 hN).mono ?_
  rintro e w8 ⟨Bu, mu, cu, Bv, mv, cv, rfl, vu, vv, bn8, -, -⟩
  have b8 := b7.trans (bn8.mono b7.size)
  have vx := vx.below bn8
  have vs := vs.below bn8
  have vt := vt.below bn8
  have vp := vp.below bn8
  have vq := vq.below bn8
  clear b7 bn8
  go_wp2_with fail
  refine (div_any (hb.below b8).nm vx.nm l2 l1 hN).mono ?_
  rintro e w9 ⟨Bw, mw, cw, By, my, cy, rfl, vw, vy, bn9, -, -⟩
  have b9 := b8.trans (bn9.mono b8.size)
  have vx := vx.below bn9
  have vs := vs.below bn9
  have vt := vt.below bn9
  have vp := vp.below bn9
  have vq := vq.below bn9
  have vu := vu.below bn9
  have vv := vv.below bn9
  clear b8 bn9
  go_wp2_with fail
  refine (same_cn vs vt).mono ?_
  rintro e w10 ⟨rfl, bn10⟩
  have b10 := b9.trans (bn10.mono b9.size)
  have vx := vx.below bn10
  have vs := vs.below bn10
  have vt := vt.below bn10
  have vp := vp.below bn10
  have vq := vq.below bn10
  have vu := vu.below bn10
  have vv := vv.below bn10
  have vw := vw.below bn10
  have vy := vy.below bn10
  clear b9 bn10
  go_wp2_with fail
  refine (same_cn vp vq).mono ?_
  rintro e w11 ⟨rfl, bn11⟩
  have b11 := b10.trans (bn11.mono b10.size)
  have vx := vx.below bn11
  have vs := vs.below bn11
  have vt := vt.below bn11
  have vp := vp.below bn11
  have vq := vq.below bn11
  have vu := vu.below bn11
  have vv := vv.below bn11
  have vw := vw.below bn11
  have vy := vy.below bn11
  clear b10 bn11
  go_wp2_with fail
  refine (same_cn vu vw).mono ?_
  rintro e w12 ⟨rfl, bn12⟩
  have b12 := b11.trans (bn12.mono b11.size)
  have vx := vx.below bn12
  have vs := vs.below bn12
  have vt := vt.below bn12
  have vp := vp.below bn12
  have vq := vq.below bn12
  have vu := vu.below bn12
  have vv := vv.below bn12
  have vw := vw.below bn12
  have vy := vy.below bn12
  clear b11 bn12
  go_wp2_with fail
  refine (same_cn vv vy).mono ?_
  rintro e w13 ⟨rfl, bn13⟩
  have b13 := b12.trans (bn13.mono b12.size)
  have vx := vx.below bn13
  have vs := vs.below bn13
  have vt := vt.below bn13
  have vp := vp.below bn13
  have vq := vq.below bn13
  have vu := vu.below bn13
  have vv := vv.below bn13
  have vw := vw.below bn13
  have vy := vy.below bn13
  clear b12 bn13
  clear vs
  clear vt
  clear vp
  clear vq
  clear vu
  clear vv
  clear vw
  clear vy
  go_wp2_with fail
  refine (norm_any (ha.below b13).nm).mono ?_
  rintro e w14 ⟨Bn, mn, cn, rfl, vn, bn14, -⟩
  have b14 := b13.trans (bn14.mono b13.size)
  have vx := vx.below bn14
  clear b13 bn14
  go_wp2_with fail
  refine (norm_any vx.nm).mono ?_
  rintro e w15 ⟨Bo, mo, co, rfl, vo, bn15, -⟩
  have b15 := b14.trans (bn15.mono b14.size)
  have vx := vx.below bn15
  have vn := vn.below bn15
  clear b14 bn15
  go_wp2_with fail
  refine (same_cn vn vo).mono ?_
  rintro e w16 ⟨rfl, bn16⟩
  have b16 := b15.trans (bn16.mono b15.size)
  have vx := vx.below bn16
  have vn := vn.below bn16
  have vo := vo.below bn16
  clear b15 bn16
  clear vn vo
  go_wp2_with fail
  refine (bytes_any (ha.below b16).nm 600 (by omega) HNB.out).mono ?_
  rintro e w17 ⟨rfl, r1, bn17⟩
  have b17 := b16.trans (bn17.mono b16.size)
  have vx := vx.below bn17
  clear b16 bn17
  have r1 := rowAll r1 (bytesL_len N 600)
  go_wp2_with fail
  refine (bytes_any vx.nm 600 (by omega) HNB.out).mono ?_
  rintro e w18 ⟨rfl, r2, bn18⟩
  have b18 := b17.trans (bn18.mono b17.size)
  have vx := vx.below bn18
  have r1 := r1.below bn18
  clear b17 bn18
  have r2 := rowAll r2 (bytesL_len N 600)
  have hgk := hg.below b18
  go_wp2_with fail
  refine (same_nil _).mono ?_
  rintro e w19 ⟨rfl, bn19⟩
  have b19 := b18.trans (bn19.mono b18.size)
  have vx := vx.below bn19
  have r1 := r1.below bn19
  have r2 := r2.below bn19
  clear b18 bn19
  go_wp2_with fail
  refine (same_nil _).mono ?_
  rintro e w20 ⟨rfl, bn20⟩
  have b20 := b19.trans (bn20.mono b19.size)
  have vx := vx.below bn20
  have r1 := r1.below bn20
  have r2 := r2.below bn20
  clear b19 bn20
  go_wp2_with fail
  refine (same_nil _).mono ?_
  rintro e w21 ⟨rfl, bn21⟩
  have b21 := b20.trans (bn21.mono b20.size)
  have vx := vx.below bn21
  have r1 := r1.below bn21
  have r2 := r2.below bn21
  clear b20 bn21
  have c1 := conv_any (c := 600) r1
  have c2 := conv_any (c := 600) r2
  have s1 := str_eql (strOfNums (bytesL N 600))
  clear r1 r2
  go_wp2_with fail
  refine (cmp_v (ha.below b21).nm vx.nm).mono ?_
  rintro e w22 ⟨rfl, bn22⟩
  have b22 := b21.trans (bn22.mono b21.size)
  have vx := vx.below bn22
  clear b21 bn22
  go_wp2_with fail
  refine (bits_any (ha.below b22).nm).mono ?_
  rintro e w23 ⟨rfl, rfl⟩
  go_wp2_with fail
  refine (bits_any vx.nm).mono ?_
  rintro e w23 ⟨rfl, rfl⟩
  go_wp2_with fail
  refine (cmp_v (ha.below b22).nm (hb.below b22).nm).mono ?_
  rintro e w23 ⟨rfl, bn23⟩
  have b23 := b22.trans (bn23.mono b22.size)
  have vx := vx.below bn23
  clear b22 bn23
  go_wp2_with fail
  refine (cmp_v vx.nm (hb.below b23).nm).mono ?_
  rintro e w24 ⟨rfl, bn24⟩
  have b24 := b23.trans (bn24.mono b23.size)
  have vx := vx.below bn24
  clear b23 bn24
  have BB := Lib.hid b24
  clear b24
  go_wp2
  go_ret
  exact ⟨by first | rfl | (simp; done), BB.out⟩
set_option maxHeartbeats 16000000 in
set_option maxRecDepth 100000 in
theorem told_pn {A A' : Option Addr} {n c n' c' : Nat} {xs ys : List Int} {N M : Int} {w : World} (ha : Ar w A n c xs N) (hb : Ar w A' n' c' ys M) (h1 : n ≤ 60) (h2 : n' ≤ 60) (i : Int) (hi : -9223372036854775808 ≤ i ∧ i ≤ 9223372036854775807) (hs : i < 0) (hN : 0 < N) (hg : Et w) :
    Calls Tryd.prog 3 #[.slice A n c, .slice A' n' c', .int .i64 i] w fun e w' => e = .returned (.bool true) ∧ Below w.heap.size w w' := by
  obtain ⟨m, hm⟩ : ∃ m : Nat, Int.tmod (-(i + 1)) 9 = m := ⟨(Int.tmod (-(i + 1)) 9).toNat, by rw [Int.tmod_eq_emod_of_nonneg (by omega)]; omega⟩
  have hm9 : m ≤ 8 := by rw [Int.tmod_eq_emod_of_nonneg (by omega)] at hm; omega
  have i0 := hi.1
  have i1 := hi.2
  have n0 := ha.nm.pos
  have m0 := hb.nm.pos
  have l0 : dl N ≤ 60 := by have := ha.nm.dl_le; omega
  have l1 : dl N ≤ 64 := by omega
  have l2 : dl M ≤ 64 := by have := hb.nm.dl_le; omega
  have hnb : nb N ≤ 8 * 600 := by have := nb_le n0; omega
  have HNB := Lib.hid hnb
  have HD := Lib.hid ha.told.dig_
  have HV := Lib.hid ha.val_
  have cm : cmpI N N = 0 := cmpI_eq _
  have hh1 : ¬ ((60 : Int) < (n : Int)) := by omega
  have hh2 : ¬ ((60 : Int) < (n' : Int)) := by omega
  have hw1 : IntKind.i64.wrap (i + 1) = i + 1 := IntWalk.i64_in _ (by omega)
  have hw2 : IntKind.i64.wrap (-(i + 1)) = -(i + 1) := IntWalk.i64_in _ (by omega)
  clear hi hnb
  go_enter Tryd.func3, Tryd.ntmps3
  go_wp2_with fail
  refine (up_v _).mono ?_
  rintro e w1 ⟨rfl, b1⟩
  go_wp2_with fail
  refine (copied_own (ha.below b1).told (by omega)).mono ?_
  rintro e w2 ⟨v, rfl, hown, bn2⟩
  have b2 := b1.trans (bn2.mono b1.size)
  go_wp2_with (at_builtin; refine wpList_zeros _ rfl _ _ 23 3 rfl w1.heap.size 40 .u64 .i64 Tryd.underlying23 Tryd.underlying3 info62u _ _ xs rfl hown m ?hx (by omega) ?hb ?_)
  case hx => exact rfl
  case hb => exact bn2.size
  intro v' w3 hown' hgrow
  have bn3 := own_below (Below.refl w1.heap.size w1 |>.trans bn2) hown hgrow bn2.size (Nat.le_refl _)
  have b3 := b1.trans (bn3.mono b1.size)
  obtain ⟨X, cx, rfl, vx⟩ := own_told (n := n) (m := m) (by rw [List.map_append, List.map_replicate]; exact hown') HD.out (by omega)
  rw [HV.out] at vx
  clear hown hgrow hown' bn2 bn3 b1 b2
  go_wp2_with fail
  refine (add_any (ha.below b3).nm (hb.below b3).nm l1 l2).mono ?_
  rintro e w4 ⟨Bs, ms, cs, rfl, vs, bn4, -⟩
  have b4 := b3.trans (bn4.mono b3.size)
  have vx := vx.below bn4
  clear b3 bn4
  go_wp2_with fail
  refine (add_any vx.nm (hb.below b4).nm l1 l2).mono ?_
  rintro e w5 ⟨Bt, mt, ct, rfl, vt, bn5, -⟩
  have b5 := b4.trans (bn5.mono b4.size)
  have vx := vx.below bn5
  have vs := vs.below bn5
  clear b4 bn5
  go_wp2_with fail
  refine (mul_any (ha.below b5).nm (hb.below b5).nm l1 l2).mono ?_
  rintro e w6 ⟨Bp, mp, cp, rfl, vp, bn6, -⟩
  have b6 := b5.trans (bn6.mono b5.size)
  have vx := vx.below bn6
  have vs := vs.below bn6
  have vt := vt.below bn6
  clear b5 bn6
  go_wp2_with fail
  refine (mul_any vx.nm (hb.below b6).nm l1 l2).mono ?_
  rintro e w7 ⟨Bq, mq, cq, rfl, vq, bn7, -⟩
  have b7 := b6.trans (bn7.mono b6.size)
  have vx := vx.below bn7
  have vs := vs.below bn7
  have vt := vt.below bn7
  have vp := vp.below bn7
  clear b6 bn7
  go_wp2_with fail
  refine (div_any (hb.below b7).nm (ha.below b7).nm l2 l1 hN).mono ?_
  rintro e w8 ⟨Bu, mu, cu, Bv, mv, cv, rfl, vu, vv, bn8, -, -⟩
  have b8 := b7.trans (bn8.mono b7.size)
  have vx := vx.below bn8
  have vs := vs.below bn8
  have vt := vt.below bn8
  have vp := vp.below bn8
  have vq := vq.below bn8
  clear b7 bn8
  go_wp2_with fail
  refine (div_any (hb.below b8).nm vx.nm l2 l1 hN).mono ?_
  rintro e w9 ⟨Bw, mw, cw, By, my, cy, rfl, vw, vy, bn9, -, -⟩
  have b9 := b8.trans (bn9.mono b8.size)
  have vx := vx.below bn9
  have vs := vs.below bn9
  have vt := vt.below bn9
  have vp := vp.below bn9
  have vq := vq.below bn9
  have vu := vu.below bn9
  have vv := vv.below bn9
  clear b8 bn9
  go_wp2_with fail
  refine (same_cn vs vt).mono ?_
  rintro e w10 ⟨rfl, bn10⟩
  have b10 := b9.trans (bn10.mono b9.size)
  have vx := vx.below bn10
  have vs := vs.below bn10
  have vt := vt.below bn10
  have vp := vp.below bn10
  have vq := vq.below bn10
  have vu := vu.below bn10
  have vv := vv.below bn10
  have vw := vw.below bn10
  have vy := vy.below bn10
  clear b9 bn10
  go_wp2_with fail
  refine (same_cn vp vq).mono ?_
  rintro e w11 ⟨rfl, bn11⟩
  have b11 := b10.trans (bn11.mono b10.size)
  have vx := vx.below bn11
  have vs := vs.below bn11
  have vt := vt.below bn11
  have vp := vp.below bn11
  have vq := vq.below bn11
  have vu := vu.below bn11
  have vv := vv.below bn11
  have vw := vw.below bn11
  have vy := vy.below bn11
  clear b10 bn11
  go_wp2_with fail
  refine (same_cn vu vw).mono ?_
  rintro e w12 ⟨rfl, bn12⟩
  have b12 := b11.trans (bn12.mono b11.size)
  have vx := vx.below bn12
  have vs := vs.below bn12
  have vt := vt.below bn12
  have vp := vp.below bn12
  have vq := vq.below bn12
  have vu := vu.below bn12
  have vv := vv.below bn12
  have vw := vw.below bn12
  have vy := vy.below bn12
  clear b11 bn12
  go_wp2_with fail
  refine (same_cn vv vy).mono ?_
  rintro e w13 ⟨rfl, bn13⟩
  have b13 := b12.trans (bn13.mono b12.size)
  have vx := vx.below bn13
  have vs := vs.below bn13
  have vt := vt.below bn13
  have vp := vp.below bn13
  have vq := vq.below bn13
  have vu := vu.below bn13
  have vv := vv.below bn13
  have vw := vw.below bn13
  have vy := vy.below bn13
  clear b12 bn13
  clear vs
  clear vt
  clear vp
  clear vq
  clear vu
  clear vv
  clear vw
  clear vy
  go_wp2_with fail
  refine (norm_any (ha.below b13).nm).mono ?_
  rintro e w14 ⟨Bn, mn, cn, rfl, vn, bn14, -⟩
  have b14 := b13.trans (bn14.mono b13.size)
  have vx := vx.below bn14
  clear b13 bn14
  go_wp2_with fail
  refine (norm_any vx.nm).mono ?_
  rintro e w15 ⟨Bo, mo, co, rfl, vo, bn15, -⟩
  have b15 := b14.trans (bn15.mono b14.size)
  have vx := vx.below bn15
  have vn := vn.below bn15
  clear b14 bn15
  go_wp2_with fail
  refine (same_cn vn vo).mono ?_
  rintro e w16 ⟨rfl, bn16⟩
  have b16 := b15.trans (bn16.mono b15.size)
  have vx := vx.below bn16
  have vn := vn.below bn16
  have vo := vo.below bn16
  clear b15 bn16
  clear vn vo
  go_wp2_with fail
  refine (bytes_any (ha.below b16).nm 600 (by omega) HNB.out).mono ?_
  rintro e w17 ⟨rfl, r1, bn17⟩
  have b17 := b16.trans (bn17.mono b16.size)
  have vx := vx.below bn17
  clear b16 bn17
  have r1 := rowAll r1 (bytesL_len N 600)
  go_wp2_with fail
  refine (bytes_any vx.nm 600 (by omega) HNB.out).mono ?_
  rintro e w18 ⟨rfl, r2, bn18⟩
  have b18 := b17.trans (bn18.mono b17.size)
  have vx := vx.below bn18
  have r1 := r1.below bn18
  clear b17 bn18
  have r2 := rowAll r2 (bytesL_len N 600)
  have hgk := hg.below b18
  go_wp2_with fail
  refine (same_nil _).mono ?_
  rintro e w19 ⟨rfl, bn19⟩
  have b19 := b18.trans (bn19.mono b18.size)
  have vx := vx.below bn19
  have r1 := r1.below bn19
  have r2 := r2.below bn19
  clear b18 bn19
  go_wp2_with fail
  refine (same_nil _).mono ?_
  rintro e w20 ⟨rfl, bn20⟩
  have b20 := b19.trans (bn20.mono b19.size)
  have vx := vx.below bn20
  have r1 := r1.below bn20
  have r2 := r2.below bn20
  clear b19 bn20
  go_wp2_with fail
  refine (same_nil _).mono ?_
  rintro e w21 ⟨rfl, bn21⟩
  have b21 := b20.trans (bn21.mono b20.size)
  have vx := vx.below bn21
  have r1 := r1.below bn21
  have r2 := r2.below bn21
  clear b20 bn21
  have c1 := conv_any (c := 600) r1
  have c2 := conv_any (c := 600) r2
  have s1 := str_eql (strOfNums (bytesL N 600))
  clear r1 r2
  go_wp2_with fail
  refine (cmp_v (ha.below b21).nm vx.nm).mono ?_
  rintro e w22 ⟨rfl, bn22⟩
  have b22 := b21.trans (bn22.mono b21.size)
  have vx := vx.below bn22
  clear b21 bn22
  go_wp2_with fail
  refine (bits_any (ha.below b22).nm).mono ?_
  rintro e w23 ⟨rfl, rfl⟩
  go_wp2_with fail
  refine (bits_any vx.nm).mono ?_
  rintro e w23 ⟨rfl, rfl⟩
  go_wp2_with fail
  refine (cmp_v (ha.below b22).nm (hb.below b22).nm).mono ?_
  rintro e w23 ⟨rfl, bn23⟩
  have b23 := b22.trans (bn23.mono b22.size)
  have vx := vx.below bn23
  clear b22 bn23
  go_wp2_with fail
  refine (cmp_v vx.nm (hb.below b23).nm).mono ?_
  rintro e w24 ⟨rfl, bn24⟩
  have b24 := b23.trans (bn24.mono b23.size)
  have vx := vx.below bn24
  clear b23 bn24
  have BB := Lib.hid b24
  clear b24
  go_wp2
  go_ret
  exact ⟨by first | rfl | (simp; done), BB.out⟩
set_option maxHeartbeats 16000000 in
set_option maxRecDepth 100000 in
theorem told_zp {A A' : Option Addr} {n c n' c' : Nat} {xs ys : List Int} {M : Int} {w : World} (ha : Ar w A n c xs 0) (hb : Ar w A' n' c' ys M) (h1 : n ≤ 60) (h2 : n' ≤ 60) (i : Int) (hi : -9223372036854775808 ≤ i ∧ i ≤ 9223372036854775807) (hs : 0 ≤ i) (hg : Et w) :
    Calls Tryd.prog 3 #[.slice A n c, .slice A' n' c', .int .i64 i] w fun e w' => e = .returned (.bool true) ∧ Below w.heap.size w w' := by
  obtain ⟨m, hm⟩ : ∃ m : Nat, Int.tmod i 9 = m := ⟨(Int.tmod i 9).toNat, by rw [Int.tmod_eq_emod_of_nonneg (by omega)]; omega⟩
  have hm9 : m ≤ 8 := by rw [Int.tmod_eq_emod_of_nonneg (by omega)] at hm; omega
  have i0 := hi.1
  have i1 := hi.2
  have n0 := ha.nm.pos
  have m0 := hb.nm.pos
  have l0 : dl 0 ≤ 60 := by have := ha.nm.dl_le; omega
  have l1 : dl 0 ≤ 64 := by omega
  have l2 : dl M ≤ 64 := by have := hb.nm.dl_le; omega
  have hnb : nb 0 ≤ 8 * 600 := by have := nb_le n0; omega
  have HNB := Lib.hid hnb
  have HD := Lib.hid ha.told.dig_
  have HV := Lib.hid ha.val_
  have cm : cmpI 0 0 = 0 := cmpI_eq _
  have hh1 : ¬ ((60 : Int) < (n : Int)) := by omega
  have hh2 : ¬ ((60 : Int) < (n' : Int)) := by omega
  clear hi hnb
  go_enter Tryd.func3, Tryd.ntmps3
  go_wp2_with fail
  refine (up_v _).mono ?_
  rintro e w1 ⟨rfl, b1⟩
  go_wp2_with fail
  refine (copied_own (ha.below b1).told (by omega)).mono ?_
  rintro e w2 ⟨v, rfl, hown, bn2⟩
  have b2 := b1.trans (bn2.mono b1.size)
  go_wp2_with (at_builtin; refine wpList_zeros _ rfl _ _ 23 3 rfl w1.heap.size 40 .u64 .i64 Tryd.underlying23 Tryd.underlying3 info62u _ _ xs rfl hown m ?hx (by omega) ?hb ?_)
  case hx => exact rfl
  case hb => exact bn2.size
  intro v' w3 hown' hgrow
  have bn3 := own_below (Below.refl w1.heap.size w1 |>.trans bn2) hown hgrow bn2.size (Nat.le_refl _)
  have b3 := b1.trans (bn3.mono b1.size)
  obtain ⟨X, cx, rfl, vx⟩ := own_told (n := n) (m := m) (by rw [List.map_append, List.map_replicate]; exact hown') HD.out (by omega)
  rw [HV.out] at vx
  clear hown hgrow hown' bn2 bn3 b1 b2
  go_wp2_with fail
  refine (add_any (ha.below b3).nm (hb.below b3).nm l1 l2).mono ?_
  rintro e w4 ⟨Bs, ms, cs, rfl, vs, bn4, -⟩
  have b4 := b3.trans (bn4.mono b3.size)
  have vx := vx.below bn4
  clear b3 bn4
  go_wp2_with fail
  refine (add_any vx.nm (hb.below b4).nm l1 l2).mono ?_
  rintro e w5 ⟨Bt, mt, ct, rfl, vt, bn5, -⟩
  have b5 := b4.trans (bn5.mono b4.size)
  have vx := vx.below bn5
  have vs := vs.below bn5
  clear b4 bn5
  go_wp2_with fail
  refine (mul_any (ha.below b5).nm (hb.below b5).nm l1 l2).mono ?_
  rintro e w6 ⟨Bp, mp, cp, rfl, vp, bn6, -⟩
  have b6 := b5.trans (bn6.mono b5.size)
  have vx := vx.below bn6
  have vs := vs.below bn6
  have vt := vt.below bn6
  clear b5 bn6
  go_wp2_with fail
  refine (mul_any vx.nm (hb.below b6).nm l1 l2).mono ?_
  rintro e w7 ⟨Bq, mq, cq, rfl, vq, bn7, -⟩
  have b7 := b6.trans (bn7.mono b6.size)
  have vx := vx.below bn7
  have vs := vs.below bn7
  have vt := vt.below bn7
  have vp := vp.below bn7
  clear b6 bn7
  go_wp2_with fail
  refine (div_none (hb.below b7).nm (ha.below b7).nm l2).mono ?_
  rintro e w8 ⟨rfl, bn8⟩
  have b8 := b7.trans (bn8.mono b7.size)
  have vx := vx.below bn8
  have vs := vs.below bn8
  have vt := vt.below bn8
  have vp := vp.below bn8
  have vq := vq.below bn8
  clear b7 bn8
  go_wp2_with fail
  refine (div_none (hb.below b8).nm vx.nm l2).mono ?_
  rintro e w9 ⟨rfl, bn9⟩
  have b9 := b8.trans (bn9.mono b8.size)
  have vx := vx.below bn9
  have vs := vs.below bn9
  have vt := vt.below bn9
  have vp := vp.below bn9
  have vq := vq.below bn9
  clear b8 bn9
  go_wp2_with fail
  refine (same_cn vs vt).mono ?_
  rintro e w10 ⟨rfl, bn10⟩
  have b10 := b9.trans (bn10.mono b9.size)
  have vx := vx.below bn10
  have vs := vs.below bn10
  have vt := vt.below bn10
  have vp := vp.below bn10
  have vq := vq.below bn10
  clear b9 bn10
  go_wp2_with fail
  refine (same_cn vp vq).mono ?_
  rintro e w11 ⟨rfl, bn11⟩
  have b11 := b10.trans (bn11.mono b10.size)
  have vx := vx.below bn11
  have vs := vs.below bn11
  have vt := vt.below bn11
  have vp := vp.below bn11
  have vq := vq.below bn11
  clear b10 bn11
  go_wp2_with fail
  refine (same_cn (Cn.nil _) (Cn.nil _)).mono ?_
  rintro e w12 ⟨rfl, bn12⟩
  have b12 := b11.trans (bn12.mono b11.size)
  have vx := vx.below bn12
  have vs := vs.below bn12
  have vt := vt.below bn12
  have vp := vp.below bn12
  have vq := vq.below bn12
  clear b11 bn12
  go_wp2_with fail
  refine (same_cn (Cn.nil _) (Cn.nil _)).mono ?_
  rintro e w13 ⟨rfl, bn13⟩
  have b13 := b12.trans (bn13.mono b12.size)
  have vx := vx.below bn13
  have vs := vs.below bn13
  have vt := vt.below bn13
  have vp := vp.below bn13
  have vq := vq.below bn13
  clear b12 bn13
  clear vs
  clear vt
  clear vp
  clear vq
  go_wp2_with fail
  refine (norm_any (ha.below b13).nm).mono ?_
  rintro e w14 ⟨Bn, mn, cn, rfl, vn, bn14, -⟩
  have b14 := b13.trans (bn14.mono b13.size)
  have vx := vx.below bn14
  clear b13 bn14
  go_wp2_with fail
  refine (norm_any vx.nm).mono ?_
  rintro e w15 ⟨Bo, mo, co, rfl, vo, bn15, -⟩
  have b15 := b14.trans (bn15.mono b14.size)
  have vx := vx.below bn15
  have vn := vn.below bn15
  clear b14 bn15
  go_wp2_with fail
  refine (same_cn vn vo).mono ?_
  rintro e w16 ⟨rfl, bn16⟩
  have b16 := b15.trans (bn16.mono b15.size)
  have vx := vx.below bn16
  have vn := vn.below bn16
  have vo := vo.below bn16
  clear b15 bn16
  clear vn vo
  go_wp2_with fail
  refine (bytes_any (ha.below b16).nm 600 (by omega) HNB.out).mono ?_
  rintro e w17 ⟨rfl, r1, bn17⟩
  have b17 := b16.trans (bn17.mono b16.size)
  have vx := vx.below bn17
  clear b16 bn17
  have r1 := rowAll r1 (bytesL_len 0 600)
  go_wp2_with fail
  refine (bytes_any vx.nm 600 (by omega) HNB.out).mono ?_
  rintro e w18 ⟨rfl, r2, bn18⟩
  have b18 := b17.trans (bn18.mono b17.size)
  have vx := vx.below bn18
  have r1 := r1.below bn18
  clear b17 bn18
  have r2 := rowAll r2 (bytesL_len 0 600)
  have hgk := hg.below b18
  go_wp2_with fail
  refine (same_nil _).mono ?_
  rintro e w19 ⟨rfl, bn19⟩
  have b19 := b18.trans (bn19.mono b18.size)
  have vx := vx.below bn19
  have r1 := r1.below bn19
  have r2 := r2.below bn19
  clear b18 bn19
  go_wp2_with fail
  refine (same_nil _).mono ?_
  rintro e w20 ⟨rfl, bn20⟩
  have b20 := b19.trans (bn20.mono b19.size)
  have vx := vx.below bn20
  have r1 := r1.below bn20
  have r2 := r2.below bn20
  clear b19 bn20
  go_wp2_with fail
  refine (same_code 4 (by decide) (by decide) _ (hg.below b20)).mono ?_
  rintro e w21 ⟨rfl, bn21⟩
  have b21 := b20.trans (bn21.mono b20.size)
  have vx := vx.below bn21
  have r1 := r1.below bn21
  have r2 := r2.below bn21
  clear b20 bn21
  have c1 := conv_any (c := 600) r1
  have c2 := conv_any (c := 600) r2
  have s1 := str_eql (strOfNums (bytesL 0 600))
  clear r1 r2
  go_wp2_with fail
  refine (cmp_v (ha.below b21).nm vx.nm).mono ?_
  rintro e w22 ⟨rfl, bn22⟩
  have b22 := b21.trans (bn22.mono b21.size)
  have vx := vx.below bn22
  clear b21 bn22
  go_wp2_with fail
  refine (bits_any (ha.below b22).nm).mono ?_
  rintro e w23 ⟨rfl, rfl⟩
  go_wp2_with fail
  refine (bits_any vx.nm).mono ?_
  rintro e w23 ⟨rfl, rfl⟩
  go_wp2_with fail
  refine (cmp_v (ha.below b22).nm (hb.below b22).nm).mono ?_
  rintro e w23 ⟨rfl, bn23⟩
  have b23 := b22.trans (bn23.mono b22.size)
  have vx := vx.below bn23
  clear b22 bn23
  go_wp2_with fail
  refine (cmp_v vx.nm (hb.below b23).nm).mono ?_
  rintro e w24 ⟨rfl, bn24⟩
  have b24 := b23.trans (bn24.mono b23.size)
  have vx := vx.below bn24
  clear b23 bn24
  have BB := Lib.hid b24
  clear b24
  go_wp2
  go_ret
  exact ⟨by first | rfl | (simp; done), BB.out⟩
set_option maxHeartbeats 16000000 in
set_option maxRecDepth 100000 in
theorem told_zn {A A' : Option Addr} {n c n' c' : Nat} {xs ys : List Int} {M : Int} {w : World} (ha : Ar w A n c xs 0) (hb : Ar w A' n' c' ys M) (h1 : n ≤ 60) (h2 : n' ≤ 60) (i : Int) (hi : -9223372036854775808 ≤ i ∧ i ≤ 9223372036854775807) (hs : i < 0) (hg : Et w) :
    Calls Tryd.prog 3 #[.slice A n c, .slice A' n' c', .int .i64 i] w fun e w' => e = .returned (.bool true) ∧ Below w.heap.size w w' := by
  obtain ⟨m, hm⟩ : ∃ m : Nat, Int.tmod (-(i + 1)) 9 = m := ⟨(Int.tmod (-(i + 1)) 9).toNat, by rw [Int.tmod_eq_emod_of_nonneg (by omega)]; omega⟩
  have hm9 : m ≤ 8 := by rw [Int.tmod_eq_emod_of_nonneg (by omega)] at hm; omega
  have i0 := hi.1
  have i1 := hi.2
  have n0 := ha.nm.pos
  have m0 := hb.nm.pos
  have l0 : dl 0 ≤ 60 := by have := ha.nm.dl_le; omega
  have l1 : dl 0 ≤ 64 := by omega
  have l2 : dl M ≤ 64 := by have := hb.nm.dl_le; omega
  have hnb : nb 0 ≤ 8 * 600 := by have := nb_le n0; omega
  have HNB := Lib.hid hnb
  have HD := Lib.hid ha.told.dig_
  have HV := Lib.hid ha.val_
  have cm : cmpI 0 0 = 0 := cmpI_eq _
  have hh1 : ¬ ((60 : Int) < (n : Int)) := by omega
  have hh2 : ¬ ((60 : Int) < (n' : Int)) := by omega
  have hw1 : IntKind.i64.wrap (i + 1) = i + 1 := IntWalk.i64_in _ (by omega)
  have hw2 : IntKind.i64.wrap (-(i + 1)) = -(i + 1) := IntWalk.i64_in _ (by omega)
  clear hi hnb
  go_enter Tryd.func3, Tryd.ntmps3
  go_wp2_with fail
  refine (up_v _).mono ?_
  rintro e w1 ⟨rfl, b1⟩
  go_wp2_with fail
  refine (copied_own (ha.below b1).told (by omega)).mono ?_
  rintro e w2 ⟨v, rfl, hown, bn2⟩
  have b2 := b1.trans (bn2.mono b1.size)
  go_wp2_with (at_builtin; refine wpList_zeros _ rfl _ _ 23 3 rfl w1.heap.size 40 .u64 .i64 Tryd.underlying23 Tryd.underlying3 info62u _ _ xs rfl hown m ?hx (by omega) ?hb ?_)
  case hx => exact rfl
  case hb => exact bn2.size
  intro v' w3 hown' hgrow
  have bn3 := own_below (Below.refl w1.heap.size w1 |>.trans bn2) hown hgrow bn2.size (Nat.le_refl _)
  have b3 := b1.trans (bn3.mono b1.size)
  obtain ⟨X, cx, rfl, vx⟩ := own_told (n := n) (m := m) (by rw [List.map_append, List.map_replicate]; exact hown') HD.out (by omega)
  rw [HV.out] at vx
  clear hown hgrow hown' bn2 bn3 b1 b2
  go_wp2_with fail
  refine (add_any (ha.below b3).nm (hb.below b3).nm l1 l2).mono ?_
  rintro e w4 ⟨Bs, ms, cs, rfl, vs, bn4, -⟩
  have b4 := b3.trans (bn4.mono b3.size)
  have vx := vx.below bn4
  clear b3 bn4
  go_wp2_with fail
  refine (add_any vx.nm (hb.below b4).nm l1 l2).mono ?_
  rintro e w5 ⟨Bt, mt, ct, rfl, vt, bn5, -⟩
  have b5 := b4.trans (bn5.mono b4.size)
  have vx := vx.below bn5
  have vs := vs.below bn5
  clear b4 bn5
  go_wp2_with fail
  refine (mul_any (ha.below b5).nm (hb.below b5).nm l1 l2).mono ?_
  rintro e w6 ⟨Bp, mp, cp, rfl, vp, bn6, -⟩
  have b6 := b5.trans (bn6.mono b5.size)
  have vx := vx.below bn6
  have vs := vs.below bn6
  have vt := vt.below bn6
  clear b5 bn6
  go_wp2_with fail
  refine (mul_any vx.nm (hb.below b6).nm l1 l2).mono ?_
  rintro e w7 ⟨Bq, mq, cq, rfl, vq, bn7, -⟩
  have b7 := b6.trans (bn7.mono b6.size)
  have vx := vx.below bn7
  have vs := vs.below bn7
  have vt := vt.below bn7
  have vp := vp.below bn7
  clear b6 bn7
  go_wp2_with fail
  refine (div_none (hb.below b7).nm (ha.below b7).nm l2).mono ?_
  rintro e w8 ⟨rfl, bn8⟩
  have b8 := b7.trans (bn8.mono b7.size)
  have vx := vx.below bn8
  have vs := vs.below bn8
  have vt := vt.below bn8
  have vp := vp.below bn8
  have vq := vq.below bn8
  clear b7 bn8
  go_wp2_with fail
  refine (div_none (hb.below b8).nm vx.nm l2).mono ?_
  rintro e w9 ⟨rfl, bn9⟩
  have b9 := b8.trans (bn9.mono b8.size)
  have vx := vx.below bn9
  have vs := vs.below bn9
  have vt := vt.below bn9
  have vp := vp.below bn9
  have vq := vq.below bn9
  clear b8 bn9
  go_wp2_with fail
  refine (same_cn vs vt).mono ?_
  rintro e w10 ⟨rfl, bn10⟩
  have b10 := b9.trans (bn10.mono b9.size)
  have vx := vx.below bn10
  have vs := vs.below bn10
  have vt := vt.below bn10
  have vp := vp.below bn10
  have vq := vq.below bn10
  clear b9 bn10
  go_wp2_with fail
  refine (same_cn vp vq).mono ?_
  rintro e w11 ⟨rfl, bn11⟩
  have b11 := b10.trans (bn11.mono b10.size)
  have vx := vx.below bn11
  have vs := vs.below bn11
  have vt := vt.below bn11
  have vp := vp.below bn11
  have vq := vq.below bn11
  clear b10 bn11
  go_wp2_with fail
  refine (same_cn (Cn.nil _) (Cn.nil _)).mono ?_
  rintro e w12 ⟨rfl, bn12⟩
  have b12 := b11.trans (bn12.mono b11.size)
  have vx := vx.below bn12
  have vs := vs.below bn12
  have vt := vt.below bn12
  have vp := vp.below bn12
  have vq := vq.below bn12
  clear b11 bn12
  go_wp2_with fail
  refine (same_cn (Cn.nil _) (Cn.nil _)).mono ?_
  rintro e w13 ⟨rfl, bn13⟩
  have b13 := b12.trans (bn13.mono b12.size)
  have vx := vx.below bn13
  have vs := vs.below bn13
  have vt := vt.below bn13
  have vp := vp.below bn13
  have vq := vq.below bn13
  clear b12 bn13
  clear vs
  clear vt
  clear vp
  clear vq
  go_wp2_with fail
  refine (norm_any (ha.below b13).nm).mono ?_
  rintro e w14 ⟨Bn, mn, cn, rfl, vn, bn14, -⟩
  have b14 := b13.trans (bn14.mono b13.size)
  have vx := vx.below bn14
  clear b13 bn14
  go_wp2_with fail
  refine (norm_any vx.nm).mono ?_
  rintro e w15 ⟨Bo, mo, co, rfl, vo, bn15, -⟩
  have b15 := b14.trans (bn15.mono b14.size)
  have vx := vx.below bn15
  have vn := vn.below bn15
  clear b14 bn15
  go_wp2_with fail
  refine (same_cn vn vo).mono ?_
  rintro e w16 ⟨rfl, bn16⟩
  have b16 := b15.trans (bn16.mono b15.size)
  have vx := vx.below bn16
  have vn := vn.below bn16
  have vo := vo.below bn16
  clear b15 bn16
  clear vn vo
  go_wp2_with fail
  refine (bytes_any (ha.below b16).nm 600 (by omega) HNB.out).mono ?_
  rintro e w17 ⟨rfl, r1, bn17⟩
  have b17 := b16.trans (bn17.mono b16.size)
  have vx := vx.below bn17
  clear b16 bn17
  have r1 := rowAll r1 (bytesL_len 0 600)
  go_wp2_with fail
  refine (bytes_any vx.nm 600 (by omega) HNB.out).mono ?_
  rintro e w18 ⟨rfl, r2, bn18⟩
  have b18 := b17.trans (bn18.mono b17.size)
  have vx := vx.below bn18
  have r1 := r1.below bn18
  clear b17 bn18
  have r2 := rowAll r2 (bytesL_len 0 600)
  have hgk := hg.below b18
  go_wp2_with fail
  refine (same_nil _).mono ?_
  rintro e w19 ⟨rfl, bn19⟩
  have b19 := b18.trans (bn19.mono b18.size)
  have vx := vx.below bn19
  have r1 := r1.below bn19
  have r2 := r2.below bn19
  clear b18 bn19
  go_wp2_with fail
  refine (same_nil _).mono ?_
  rintro e w20 ⟨rfl, bn20⟩
  have b20 := b19.trans (bn20.mono b19.size)
  have vx := vx.below bn20
  have r1 := r1.below bn20
  have r2 := r2.below bn20
  clear b19 bn20
  go_wp2_with fail
  refine (same_code 4 (by decide) (by decide) _ (hg.below b20)).mono ?_
  rintro e w21 ⟨rfl, bn21⟩
  have b21 := b20.trans (bn21.mono b20.size)
  have vx := vx.below bn21
  have r1 := r1.below bn21
  have r2 := r2.below bn21
  clear b20 bn21
  have c1 := conv_any (c := 600) r1
  have c2 := conv_any (c := 600) r2
  have s1 := str_eql (strOfNums (bytesL 0 600))
  clear r1 r2
  go_wp2_with fail
  refine (cmp_v (ha.below b21).nm vx.nm).mono ?_
  rintro e w22 ⟨rfl, bn22⟩
  have b22 := b21.trans (bn22.mono b21.size)
  have vx := vx.below bn22
  clear b21 bn22
  go_wp2_with fail
  refine (bits_any (ha.below b22).nm).mono ?_
  rintro e w23 ⟨rfl, rfl⟩
  go_wp2_with fail
  refine (bits_any vx.nm).mono ?_
  rintro e w23 ⟨rfl, rfl⟩
  go_wp2_with fail
  refine (cmp_v (ha.below b22).nm (hb.below b22).nm).mono ?_
  rintro e w23 ⟨rfl, bn23⟩
  have b23 := b22.trans (bn23.mono b22.size)
  have vx := vx.below bn23
  clear b22 bn23
  go_wp2_with fail
  refine (cmp_v vx.nm (hb.below b23).nm).mono ?_
  rintro e w24 ⟨rfl, bn24⟩
  have b24 := b23.trans (bn24.mono b23.size)
  have vx := vx.below bn24
  clear b23 bn24
  have BB := Lib.hid b24
  clear b24
  go_wp2
  go_ret
  exact ⟨by first | rfl | (simp; done), BB.out⟩
end Go.Proofs.YtejggejpafpahaaDoor
