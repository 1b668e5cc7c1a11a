/-
  The document's row of draws: what Below answers.
-/
import Derived.Test.YtbffcgnefkkhoaaDoorDr1
import Derived.Test.YtbffcgnefkkhoaaDoorPkb
namespace Go.Proofs.YtbffcgnefkkhoaaDoor
open Go.RowKit
set_option linter.unusedVariables false
theorem Rn.bx {x : Nat} {w w' : World} {A : Option Addr} {n c : Nat} {N : Int} (h : Rn w A n c N) (hb : Bx x w w') (hx : ∀ a, A = some a → a.block ≠ x) : Rn w' A n c N := ⟨h.rd.bx hb hx, h.nc, h.n60, h.pos⟩
theorem Rn.bw {w w' : World} {A : Option Addr} {n c : Nat} {N : Int} (h : Rn w A n c N) (hb : Bw w w') : Rn w' A n c N := h.below hb
theorem Rn.none (w : World) (A : Option Addr) (c : Nat) : Rn w A 0 c 0 := ⟨by rw [dg_zero]; exact Rd.nil _ _ _, Nat.zero_le _, by omega, Int.le_refl _⟩
theorem dr_two {j : Nat} (h : j ≤ 2048) : dr (2 ^ j) ≤ 256 := by
  refine dr_pow (k := 257) (Int.le_of_lt (two_pos j)) ?_ (by omega)
  have h1 := pow_mono (b := 2) (by decide) h
  have h2 : (2 : Int) ^ 2048 < 256 ^ 257 := by decide +kernel
  omega
/-- A slice in memory newer than a world's. -/
def NewA (w : World) (A : Option Addr) : Prop := ∀ a, A = some a → w.heap.size ≤ a.block
/-- The loop that makes the power: 2 to the j, and the one ahead of it. -/
def PoR (t : Nat) (w : World) (p h i : Value) (wr : World) : Prop :=
  ∃ (j : Nat) (Ap : Option Addr) (np cp : Nat) (Ah : Option Addr) (nh ch : Nat), j ≤ t ∧ i = .int .i64 j ∧ p = .slice Ap np cp ∧ h = .slice Ah nh ch ∧ Rn wr Ap np cp (2 ^ j) ∧ Rn wr Ah nh ch (2 ^ (j - 1)) ∧ NewA w Ap ∧ NewA w Ah ∧ Bw w wr
/-- The loop that draws. -/
def BlR (lo hi b : Nat) (d : DrD) (seed : List Int) (M : Int) (k : Nat) (w : World) (x i : Value) (wr : World) : Prop :=
  ∃ (j : Nat) (Ax : Option Addr) (nx cx : Nat), j ≤ 256 ∧ i = .int .i64 j ∧ x = .slice Ax nx cx ∧ Rn wr Ax nx cx (if j = 0 then 0 else dx seed M (k + j - 1)) ∧ blw seed M 256 k = blw seed M (256 - j) (k + j) ∧ Dr wr lo hi b d seed (k + j) ∧ Bx b w wr
theorem two_lits (w : World) : Rn ((w.alloc (.cells #[.int .i64 1] 3)).alloc (.cells #[.int .i64 1] 3)) (some ⟨w.heap.size, 0, none⟩) 1 1 1 ∧ Rn ((w.alloc (.cells #[.int .i64 1] 3)).alloc (.cells #[.int .i64 1] 3)) (some ⟨w.heap.size + 1, 0, none⟩) 1 1 1 := by
  have h1 := rlit w (x := 1) (by decide) (by decide)
  have h2 := rlit (w.alloc (.cells #[.int .i64 1] 3)) (x := 1) (by decide) (by decide)
  have e : (w.alloc (.cells #[.int .i64 1] 3)).heap.size = w.heap.size + 1 := by simp
  rw [e] at h2
  exact ⟨h1.bw (Bw.alloc _ _), h2⟩
set_option maxHeartbeats 8000000 in
set_option maxRecDepth 100000 in
theorem r6below_any {w : World} {lo hi b k : Nat} {d : DrD} {seed : List Int} {A : Option Addr} {n c : Nat} {M : Int} (h : Dr w lo hi b d seed k) (hs : d.nS ≤ 1000) (hk : k ≤ 100000000) (hm : Rn w A n c M) (hn : n ≤ 1000) (hA : ∀ a, A = some a → a.block ≠ b) (h0 : 0 < M) (hmb : mb M ≤ 2048) :
    Calls Tryd.prog 26 #[.pointer (some ⟨b, 0, none⟩), .slice A n c] w fun e w' => ∃ B m cap, e = .returned (.slice B m cap) ∧ Rn w' B m cap (blw seed M 256 k).1 ∧ Dr w' lo hi b d seed (blw seed M 256 k).2 ∧ Bx b w w' := by
  have HD := Lib.hid h
  have HM := Lib.hid hm
  have HA := Lib.hid hA
  obtain ⟨t, ht⟩ : ∃ t, mb M = t := ⟨_, rfl⟩
  have HT := Lib.hid ht
  have t2 : t ≤ 2048 := by omega
  have hlt := h.lt
  clear h hm hA ht hmb
  go_enter Tryd.func26, Tryd.ntmps26
  go_wp2_with fail
  refine (rsub_any (HM.out.bw (Bw.alloc _ _)) (rlit w (by decide) (by decide)) (by omega) (by omega)).mono ?_
  rintro e w1 ⟨B1, m1, c1, rfl, hr1, b1⟩
  have b01 : Bw w w1 := below_al1 b1
  have l1 : m1 ≤ 1000 := by
    have e1 := hr1.len_
    have e2 := dr_mono (show 0 ≤ M - 1 by omega) (show M - 1 ≤ M by omega)
    have e3 := HM.out.len_
    omega
  have HB01 := Lib.hid b01
  clear b1 b01
  go_wp2_with fail
  refine (rbits_any hr1 (by omega)).mono ?_
  rintro e w2 ⟨rfl, rfl⟩
  rw [show nb (M - 1) = t from HT.out]
  clear hr1
  obtain ⟨u, hu⟩ : ∃ u, (t + 7) / 8 = u := ⟨_, rfl⟩
  have q1 : ((t : Int) + 7).tdiv 8 = (u : Int) := by rw [Int.tdiv_eq_ediv_of_nonneg (by omega)]; omega
  have HU := Lib.hid hu
  have u2 : u ≤ 256 := by omega
  clear hu
  go_upto_if 20 with fail
  go_cut [6] (fun v wx => v = .int .i64 ((ms M : Nat) : Int) ∧ w1 = wx)
  case first =>
    --<CUT
    rcases Nat.eq_zero_or_pos u with g | g
    · have e0 : (((u : Int) == 0)) = true := by simp; omega
      have HE := Lib.hid (show ms M = 1 by unfold ms; rw [HT.out, HU.out, if_pos g])
      go_wp2_with fail
      go_meet
      exact ⟨by rw [HE.out]; rfl, rfl⟩
    · have e0 : (((u : Int) == 0)) = false := by simp; omega
      have HE := Lib.hid (show ms M = u by unfold ms; rw [HT.out, HU.out, if_neg (by omega)])
      go_wp2_with fail
      go_meet
      exact ⟨by rw [HE.out], rfl⟩
    --CUT>
  case rest =>
    obtain ⟨rfl, rfl⟩ := hcut
    obtain ⟨v, hv⟩ : ∃ v, ms M = v := ⟨_, rfl⟩
    have v2 : v ≤ 256 := by rw [← hv]; unfold ms; rw [HT.out, HU.out]; split <;> omega
    rw [hv]
    have HV := Lib.hid hv
    have HD1 := Lib.hid (HD.out.bw HB01.out)
    have HM1 := Lib.hid (HM.out.bw HB01.out)
    have hs1 : w.heap.size ≤ w1.heap.size := Below.size HB01.out
    have LT := Lib.hid (two_lits w1)
    clear hv q1 HD HM HU
    go_wp2_with fail
    go_loopw [7, 8, 9] (fun p h i wr => PoR t w1 p h i wr) (fun _ _ i _ => t - (intOf i).toNat)
    case atStart => exact ⟨0, _, _, _, _, _, _, Nat.zero_le _, rfl, rfl, rfl, LT.out.1, LT.out.2, (fun a ha => by injection ha with ha; subst ha; exact Nat.le_refl _), (fun a ha => by injection ha with ha; subst ha; exact Nat.le_succ _), (Bw.alloc _ _).trans (Bw.alloc _ _)⟩
    case round =>
      clear LT
      obtain ⟨j, Ap, np, cp, Ah, nh, ch, hj, rfl, rfl, rfl, hp, hh, nAp, nAh, hb⟩ := hrel
      have lp : np ≤ 256 := by rw [hp.len_]; exact dr_two (by omega)
      have HP := Lib.hid hp
      have NP := Lib.hid nAp
      have HB := Lib.hid hb
      rcases Nat.lt_or_ge j t with hlt2 | hge
      · --<L1
        have hji : (j : Int) < (t : Int) := by omega
        clear hp hh nAp nAh hb
        go_wp2_with fail
        refine (radd_new HP.out HP.out (by omega) (by omega)).mono ?_
        rintro e w3 ⟨B, m, cap, rfl, hr, hb3, hnew⟩
        have hb3 : Bw wr w3 := hb3
        have HR := Lib.hid hr
        have HN := Lib.hid hnew
        have HB3 := Lib.hid hb3
        clear hr hnew hb3
        go_wp2_with fail
        go_roundw
        case rel =>
          refine ⟨j + 1, _, _, _, _, _, _, by omega, by go_num, rfl, rfl, ?_, ?_, fun a ha => ?_, NP.out, HB.out.trans HB3.out⟩
          · rw [show (2 : Int) ^ (j + 1) = 2 ^ j + 2 ^ j by rw [Int.pow_succ]; omega]; exact HR.out
          · rw [Nat.add_sub_cancel]; exact HP.out.bw HB3.out
          · exact Nat.le_trans (Below.size HB.out) (HN.out a ha)
        case measure => simp [intOf]; omega
        --L1>
      · obtain rfl : j = t := by omega
        have hji : decide ((j : Int) < (j : Int)) = false := by simp
        have HH := Lib.hid hh
        have NH := Lib.hid nAh
        have lh : nh ≤ 256 := by rw [hh.len_]; exact dr_two (by omega)
        obtain ⟨w3, rfl⟩ : ∃ w3, w3 = wr := ⟨_, rfl⟩
        have HM3 := Lib.hid (HM1.out.bw HB.out)
        have HD3 := Lib.hid (HD1.out.bw HB.out)
        have hw1 := Below.size HB.out
        clear hp hh nAp nAh hb HM1 HD1
        go_wp2_with fail
        go_loopw [10, 11] (fun x i wr => BlR lo hi b d seed M k w3 x i wr) (fun _ i _ => 256 - (intOf i).toNat)
        case atStart => exact ⟨0, _, _, _, Nat.zero_le _, rfl, rfl, Rn.none _ _ _, rfl, HD3.out.bw (Bw.alloc _ _), (Bw.alloc _ _).bx b⟩
        case round =>
          clear hji
          obtain ⟨i, Ax, nx, cx, hi2, rfl, rfl, hx, hbl, hdr, hbx⟩ := hrel
          have HBL := Lib.hid hbl
          have HBX := Lib.hid hbx
          have HDR := Lib.hid hdr
          have HXX := Lib.hid hx
          have neP : ∀ a, Ap = some a → a.block ≠ b := fun a ha => by have := NP.out a ha; omega
          have neH : ∀ a, Ah = some a → a.block ≠ b := fun a ha => by have := NH.out a ha; omega
          have HPB := Lib.hid (HP.out.bx hbx neP)
          have HHB := Lib.hid (HH.out.bx hbx neH)
          have HMB := Lib.hid (HM3.out.bx hbx HA.out)
          have NEP := Lib.hid neP
          have NEH := Lib.hid neH
          clear hx hbl hdr hbx neP neH
          rcases Nat.lt_or_ge i 256 with hlt3 | hge3
          · --<L2
            have hii : (i : Int) < 256 := by omega
            go_wp2_with fail
            refine (r6bytes_any HDR.out hs (by omega) v (by omega)).mono ?_
            rintro e w4 ⟨A4, c4, rfl, bs4, hd4, hb4⟩
            have HD4 := Lib.hid hd4
            have HP4 := Lib.hid (HPB.out.bx hb4 NEP.out)
            have HM4 := Lib.hid (HMB.out.bx hb4 HA.out)
            have HB4 := Lib.hid (HBX.out.trans hb4)
            clear hd4 hb4
            go_wp2_with fail
            refine (rfrom_any bs4.rd bs4.dig_ (by omega)).mono ?_
            rintro e w5 ⟨A5, n5, c5, rfl, hr5, hb5⟩
            have hb5 : Bw w4 w5 := hb5
            have HD5 := Lib.hid (HD4.out.bw hb5)
            have HP5 := Lib.hid (HP4.out.bw hb5)
            have HM5 := Lib.hid (HM4.out.bw hb5)
            have HB5 := Lib.hid (HB4.out.trans (hb5.bx b))
            have l5 : n5 ≤ 256 := by
              have h1 := pv_bd bs4.dig_ v
              rw [hr5.len_]; exact dr_pow h1.1 h1.2 (by omega)
            clear bs4 hb5 HD4 HP4 HM4 HB4
            go_wp2_with fail
            refine (rrest_any hr5 HP5.out (by omega) (by omega) (two_pos _)).mono ?_
            rintro e w6 ⟨A6, n6, c6, rfl, hr6, hb6⟩
            have hb6 : Bw w5 w6 := hb6
            rw [show pv (drw seed (k + i) v) v % 2 ^ j = dx seed M (k + i) by unfold dx; rw [HT.out, HV.out]] at hr6
            have HD6 := Lib.hid (HD5.out.bw hb6)
            have HM6 := Lib.hid (HM5.out.bw hb6)
            have HB6 := Lib.hid (HB5.out.trans (hb6.bx b))
            have l6 : n6 ≤ 1000 := by
              have h1 := dx_bd seed M (k + i)
              rw [HT.out] at h1
              have h2 := dr_mono h1.1 (Int.le_of_lt h1.2)
              have h3 := dr_two t2
              rw [hr6.len_]; omega
            have HR6 := Lib.hid hr6
            clear hr5 hb6 HD5 HP5 HM5 HB5 hr6
            go_wp2_with fail
            refine (rcmp_any HR6.out HM6.out (by omega) (by omega)).mono ?_
            rintro e w7 ⟨rfl, q, rfl⟩
            have HB7 := Lib.hid (HB6.out.trans (Bw.bx (show Bw w6 (w6.drewN q) from below_drewN (Below.refl _ _) q) b))
            have HD7 := Lib.hid (HD6.out.bw (show Bw w6 (w6.drewN q) from below_drewN (Below.refl _ _) q))
            have HR7 := Lib.hid (HR6.out.bw (show Bw w6 (w6.drewN q) from below_drewN (Below.refl _ _) q))
            have hstep : blw seed M 256 k = if dx seed M (k + i) < M then (dx seed M (k + i), k + i + 1) else blw seed M (256 - (i + 1)) (k + i + 1) := by
              rw [HBL.out, show 256 - i = (256 - (i + 1)) + 1 by omega, blw]
            have HST := Lib.hid hstep
            clear hstep HB6 HD6 HR6
            rcases Int.lt_or_le (dx seed M (k + i)) M with g | g
            · have e1 : decide (cmpI (dx seed M (k + i)) M < 0) = true := by rw [cmpI_lt g]; rfl
              have HE := Lib.hid (show blw seed M 256 k = (dx seed M (k + i), k + i + 1) by rw [HST.out, if_pos g])
              go_wp2_with fail
              go_ret
              exact ⟨_, _, _, rfl, by rw [HE.out]; exact HR7.out, by rw [HE.out]; exact HD7.out, (HB01.out.trans HB.out).bx b |>.trans HB7.out⟩
            · have e1 : decide (cmpI (dx seed M (k + i)) M < 0) = false := by
                rcases Int.lt_or_eq_of_le g with q2 | q2
                · rw [cmpI_gt q2]; rfl
                · rw [← q2, cmpI_eq]; rfl
              have HE := Lib.hid (show blw seed M 256 k = blw seed M (256 - (i + 1)) (k + i + 1) by rw [HST.out, if_neg (by omega)])
              go_wp2_with fail
              go_roundw
              case rel => exact ⟨i + 1, _, _, _, by omega, by go_num, rfl, by rw [if_neg (by omega)]; exact HR7.out, HE.out, HD7.out, HB7.out⟩
              case measure => simp [intOf]; omega
            --L2>
          · --<END
            obtain rfl : i = 256 := by omega
            have hii : decide (((256 : Nat) : Int) < 256) = false := by decide
            have HX2 := HXX.out
            rw [if_neg (by decide)] at HX2
            have lx : nx ≤ 1000 := by
              have h1 := dx_bd seed M (k + 256 - 1)
              rw [HT.out] at h1
              have h2 := dr_mono h1.1 (Int.le_of_lt h1.2)
              have h3 := dr_two t2
              rw [HX2.len_]; omega
            have HX3 := Lib.hid HX2
            clear HX2 HXX
            go_wp2_with fail
            refine (rrest_any HX3.out HHB.out (by omega) (by omega) (two_pos _)).mono ?_
            rintro e w6 ⟨A6, n6, c6, rfl, hr6, hb6⟩
            have hb6 : Bw wr w6 := hb6
            have HR6 := Lib.hid hr6
            have HB6 := Lib.hid hb6
            clear hr6 hb6
            go_wp2_with fail
            go_ret
            have e : blw seed M 256 k = (dx seed M (k + 256 - 1) % hf M, k + 256) := HBL.out
            refine ⟨_, _, _, rfl, ?_, by rw [e]; exact HDR.out.bw HB6.out, ((HB01.out.trans HB.out).bx b).trans (HBX.out.trans (HB6.out.bx b))⟩
            rw [e]
            have hr := HR6.out
            rw [← HT.out] at hr
            exact hr
            --END>
end Go.Proofs.YtbffcgnefkkhoaaDoor
