/-
  DrawPlays, walked: it answers true, whatever comes in.
-/
import Derived.Test.YtbffcgnefkkhoaaDoorDst
import Derived.Test.YtbffcgnefkkhoaaDoorArgD
namespace Go.Proofs.YtbffcgnefkkhoaaDoor
open Go.RowKit
set_option linter.unusedVariables false
theorem IsRow.nil_len {w : World} {a : Option Addr} {len cap : Nat} {zs : List Int} (h : IsRow .u8 1 w a len cap zs) : a = none → len = 0 := fun ha => by
  rcases h with ⟨-, h2, -, -⟩ | ⟨x, h1, -⟩
  · exact h2
  · rw [ha] at h1; cases h1
/-- The script so far: both rows have drawn the same. -/
def PlR (la ta bp : Nat) (dp : PgD) (lb tb br : Nat) (dr : DrD) (seed : List Int) (n : Nat) (w0 : World) (i : Value) (wr : World) : Prop :=
  ∃ j k : Nat, j ≤ 6 ∧ j ≤ n ∧ i = .int .i64 j ∧ k ≤ 20000 * j ∧ Pg wr la ta bp dp seed k ∧ Dr wr lb tb br dr seed k ∧ Bw w0 wr
set_option maxHeartbeats 16000000 in
set_option maxRecDepth 100000 in
theorem drawPlays_walk {a : Option Addr} {na ca : Nat} {zs : List Int} {w : World} (ha : IsRow .u8 1 w a na ca zs) (sa : ∀ x, a = some x → x.spot = none) {A : Option Addr} {n c : Nat} {S : Nat → SOp} (hs : Scr w A n c S) (hT : Tabs w) :
    Calls Tryd.prog 3 #[.slice a na ca, .slice A n c] w fun e w' => e = .returned (.bool true) ∧ Below w.heap.size w w' := by
  have T0 := Lib.hid hT
  have HSC := Lib.hid hs
  have hna := ha.nc
  obtain ⟨q, hq⟩ : ∃ q, min na 500 = q := ⟨_, rfl⟩
  have bs := ha.bs_cut sa (m := 500) (by omega)
  rw [hq] at bs
  obtain ⟨seed, hseed⟩ : ∃ seed, (zs.take na).take q = seed := ⟨_, rfl⟩
  rw [hseed] at bs
  have BS0 := Lib.hid bs
  have HQ := Lib.hid hq
  have ZA := Lib.hid ha.nil_len
  have q5 : q ≤ 500 := by omega
  have CA := Lib.hid hna.1
  have hsm := hs.small
  clear hT hs ha sa bs hseed hq hna
  go_enter Tryd.func3, Tryd.ntmps3
  go_wp2_with fail
  refine (up6_any T0.out).mono ?_
  rintro e w1 ⟨rfl, b1⟩
  have b1 : Bw w w1 := b1
  have HB1 := Lib.hid b1
  clear b1
  go_upto_if 14 with fail
  go_cut [0] (fun v wx => v = .slice a q ca ∧ w1 = wx)
  case first =>
    --<CUT
    have e := HQ.out
    have hcc := CA.out
    rcases Nat.lt_or_ge 500 na with hlt | hge
    · have g1 : decide ((500 : Int) < (na : Int)) = true := by simp; omega
      have g2 : (500 : Int) ≤ (ca : Int) := by omega
      have HE := Lib.hid (show 500 = q by omega)
      cases a with
      | none => have := ZA.out rfl; omega
      | some aa =>
        clear e
        go_wp2_with fail
        go_meet
        exact ⟨by rw [← HE.out], rfl⟩
    · have g1 : decide ((500 : Int) < (na : Int)) = false := by simp; omega
      have HE := Lib.hid (show na = q by omega)
      clear e
      go_wp2_with fail
      go_meet
      exact ⟨by rw [← HE.out], rfl⟩
    --CUT>
  case rest =>
    obtain ⟨rfl, rfl⟩ := hcut
    clear HQ ZA CA
    go_wp2_with fail
    refine (p6new (T0.out.bw HB1.out) (BS0.out.bw HB1.out) (by omega)).mono ?_
    rintro e w2 ⟨bp, dp, rfl, hp, b2⟩
    obtain ⟨la, hla⟩ : ∃ la, w1.heap.size = la := ⟨_, rfl⟩
    obtain ⟨ta, hta⟩ : ∃ ta, w2.heap.size = ta := ⟨_, rfl⟩
    rw [hla, hta] at hp
    have wla : w.heap.size ≤ la := by rw [← hla]; exact Below.size HB1.out
    have HP2 := Lib.hid hp
    have HB2 := Lib.hid (HB1.out.trans b2)
    clear hp b2 hla
    go_wp2_with fail
    refine (r6new_any (BS0.out.bw HB2.out) (by omega)).mono ?_
    rintro e w3 ⟨br, dr, rfl, hd, hns, b3⟩
    obtain ⟨tb, htb⟩ : ∃ tb, w3.heap.size = tb := ⟨_, rfl⟩
    rw [hta, htb] at hd
    have HP3 := Lib.hid (HP2.out.bw b3)
    have HD3 := Lib.hid hd
    have HB3 := Lib.hid (HB2.out.trans b3)
    have hns' : dr.nS ≤ 1000 := by omega
    clear hd b3 hta htb HP2 HB2 BS0 HB1
    go_wp2_with fail
    go_loopw [8, 9, 10] (fun i _ _ wr => PlR la ta bp dp ta tb br dr seed n w i wr) (fun i _ _ _ => 6 - (intOf i).toNat)
    case atStart => exact ⟨0, 0, by omega, Nat.zero_le _, rfl, Nat.le_refl _, HP3.out, HD3.out, HB3.out⟩
    case round =>
      clear HP3 HD3 HB3
      obtain ⟨j, k, hj6, hj, rfl, hk, hp, hd, hb⟩ := hrel
      have HP := Lib.hid hp
      have HD := Lib.hid hd
      have HB := Lib.hid hb
      clear hp hd hb
      by_cases hlast : j < n ∧ j < 6
      · obtain ⟨hlt, hlt6⟩ := hlast
        obtain ⟨b, off, rfl, hbl, hc⟩ := HSC.out.cells (by omega)
        obtain ⟨x0, x1, x2⟩ := hc j hlt
        obtain ⟨bw, bn, hrow⟩ := HSC.out.at_ j hlt
        obtain ⟨o, ho⟩ : ∃ o, S j = o := ⟨_, rfl⟩
        rw [ho] at x0 x1 x2 bw bn hrow
        obtain ⟨wh, nn, A1, n1, c1, ys⟩ := o
        dsimp only at x0 x1 x2 bw bn hrow
        clear ho
        have y0 := (Below.cell HB.out (p := ⟨b, off + j * 3, none⟩) hbl).trans x0
        have y1 := (Below.cell HB.out (p := ⟨b, off + j * 3 + 1, none⟩) hbl).trans x1
        have y2 := (Below.cell HB.out (p := ⟨b, off + j * 3 + 2, none⟩) hbl).trans x2
        have hji : (j : Int) < (n : Int) := by omega
        have hj6i : (j : Int) < 6 := by omega
        have HROW := Lib.hid hrow
        have hnc := hrow.nc
        have BN := Lib.hid bn
        have BWH := Lib.hid bw
        clear hc x0 x1 x2 hrow bn bw
        go_upto_region 12 with fail
        go_cut [44] (fun v wx => v = .bool (decide (60 < nn ∧ nn ≤ 4096)) ∧ wx = wr.alloc (.cells #[.int .i64 wh, .int .i64 nn, .slice A1 n1 c1] 32))
        case first =>
          --<GG
          rcases Int.lt_or_le 60 nn with g1 | g1
          · rcases Int.lt_or_le 4096 nn with g2 | g2
            · have t1 : decide ((60 : Int) < nn) = true := by simp; omega
              have t2 : decide (nn ≤ 4096) = false := by simp; omega
              have HE := Lib.hid (show decide (60 < nn ∧ nn ≤ 4096) = false by simp; omega)
              go_wp2_with fail
              go_meet
              exact ⟨by rw [HE.out], rfl⟩
            · have t1 : decide ((60 : Int) < nn) = true := by simp; omega
              have t2 : decide (nn ≤ 4096) = true := by simp; omega
              have HE := Lib.hid (show decide (60 < nn ∧ nn ≤ 4096) = true by simp; omega)
              go_wp2_with fail
              go_meet
              exact ⟨by rw [HE.out], rfl⟩
          · have t1 : decide ((60 : Int) < nn) = false := by simp; omega
            have HE := Lib.hid (show decide (60 < nn ∧ nn ≤ 4096) = false by simp; omega)
            go_wp2_with fail
            go_meet
            exact ⟨by rw [HE.out], rfl⟩
          --GG>
        case rest =>
         obtain ⟨rfl, rfl⟩ := hcut
         obtain ⟨bq, hbq⟩ : ∃ bq, decide (60 < nn ∧ nn ≤ 4096) = bq := ⟨_, rfl⟩
         rw [hbq]
         have HBQ := Lib.hid hbq
         clear hbq y0 y1 y2
         go_upto_if 44 with fail
         go_cut [9] (fun v wx => v = .pointer (some ⟨wr.heap.size, 0, none⟩) ∧ ∃ nn', wx = wr.alloc (.cells #[.int .i64 wh, .int .i64 nn', .slice A1 n1 c1] 32) ∧ (nn' ≤ 60 ∨ 4096 < nn') ∧ (-9223372036854775808 ≤ nn' ∧ nn' ≤ 9223372036854775807))
         case first =>
          --<NN
          have bn := BN.out
          have hq := HBQ.out
          cases bq with
          | false =>
            simp only [decide_eq_false_iff_not] at hq
            have hor : nn ≤ 60 ∨ 4096 < nn := by omega
            have HOR := Lib.hid hor
            clear hq hor
            go_wp2_with fail
            go_meet
            exact ⟨rfl, nn, rfl, HOR.out, BN.out⟩
          | true =>
            simp only [decide_eq_true_eq] at hq
            obtain ⟨g1, g2⟩ := hq
            obtain ⟨r, hr⟩ : ∃ r, nn % 60 = r := ⟨_, rfl⟩
            have r0 : 0 ≤ r := by omega
            have r1 : r < 60 := by omega
            have t3 : nn.tmod 60 = r := by rw [Int.tmod_eq_emod_of_nonneg (by omega)]; exact hr
            clear hr
            go_wp2_with fail
            go_meet
            exact ⟨rfl, r, rfl, .inl (by omega), by omega⟩
          --NN>
         case rest =>
           obtain ⟨rfl, nn', rfl, hN, bn'⟩ := hcut
           clear BN HBQ
           go_upto_if 52 with fail
           go_cut [9] (fun v wx => v = .pointer (some ⟨wr.heap.size, 0, none⟩) ∧ ∃ n2, wx = wr.alloc (.cells #[.int .i64 wh, .int .i64 nn', .slice A1 n2 c1] 32) ∧ n2 = min n1 40)
           case first =>
             --<MM
             rcases Nat.lt_or_ge 40 n1 with g1 | g1
             · have t1 : decide ((40 : Int) < (n1 : Int)) = true := by simp; omega
               have t2 : (40 : Int) ≤ (c1 : Int) := by omega
               cases A1 with
               | none =>
                 have := HROW.out.rd.cells (by omega)
                 obtain ⟨_, _, e, _⟩ := this
                 cases e
               | some aa =>
                 go_wp2_with fail
                 go_meet
                 exact ⟨rfl, 40, rfl, by omega⟩
             · have t1 : decide ((40 : Int) < (n1 : Int)) = false := by simp; omega
               go_wp2_with fail
               go_meet
               exact ⟨rfl, n1, rfl, by omega⟩
             --MM>
           case rest =>
             obtain ⟨rfl, n2, rfl, hn2⟩ := hcut
             have n240 : n2 ≤ 40 := by omega
             have n2n : n2 ≤ n1 := by omega
             clear hn2
             --<ST
             have htold := HROW.out.told
             have hnm : ∃ N, Nm w A1 n2 c1 N := by
               refine ⟨val W ((ys.take n1).take n2), ⟨_, htold.rd.take (by omega), fun x hx => htold.dig_ x (List.mem_of_mem_take hx), rfl⟩, by have := htold.nc; omega, by have := htold.c60; omega, val_nonneg (by decide) fun x hx => htold.dig_ x (List.mem_of_mem_take hx)⟩
             obtain ⟨N, hN2⟩ := hnm
             have hA1 : ∀ a, A1 = some a → 0 < n2 → a.block < w.heap.size := fun a h h0 => by
               obtain ⟨b0, o0, e0, l0, -⟩ := HROW.out.rd.cells (by omega)
               rw [h] at e0; injection e0 with e0; subst e0; exact l0
             have HN2 := Lib.hid hN2
             have HA1 := Lib.hid hA1
             clear htold hN2 hA1
             go_wp2_with fail
             refine (step_any T0.out (HB.out.trans (Bw.alloc _ _)) wla (Nat.le_refl _) (HP.out.bw (Bw.alloc _ _)) (HD.out.bw (Bw.alloc _ _)) hns' (by omega) HN2.out (by omega) HA1.out BWH.out bn' hN).mono ?_
             rintro e w4 ⟨rfl, k', k1, k2, hp4, hd4, hb4⟩
             have HP4 := Lib.hid hp4
             have HD4 := Lib.hid hd4
             have HB4 := Lib.hid hb4
             have z1 : w4.cell? ⟨br, 1, none⟩ = some (.int .i64 (k' : Int)) := hd4.cell rfl
             have zz : ((k' : Int) != (k' : Int)) = false := by simp
             have hW := Bw.drew w4
             clear hp4 hd4 hb4 HP HD HB
             go_wp2_with fail
             go_region_with (go_at_call 10; (with_reducible refine (p6count (HP4.out.bw hW)).mono ?_); rintro e wN ⟨rfl, rfl⟩)
             all_goals
               go_wp2_with fail
               go_roundw
               case rel => exact ⟨j + 1, k', by omega, by omega, by go_num, by omega, HP4.out.bw hW, HD4.out.bw hW, HB4.out.trans hW⟩
               case measure => simp [intOf]; omega
             --ST>
      · --<END
        rcases Nat.lt_or_ge j n with g1 | g1
        · have t1 : decide ((j : Int) < (n : Int)) = true := by simp; omega
          have t2 : decide ((j : Int) < 6) = false := by simp; omega
          go_wp2_with fail
          go_ret
          exact ⟨rfl, HB.out⟩
        · have t1 : decide ((j : Int) < (n : Int)) = false := by simp; omega
          go_wp2_with fail
          go_ret
          exact ⟨rfl, HB.out⟩
        --END>
end Go.Proofs.YtbffcgnefkkhoaaDoor
