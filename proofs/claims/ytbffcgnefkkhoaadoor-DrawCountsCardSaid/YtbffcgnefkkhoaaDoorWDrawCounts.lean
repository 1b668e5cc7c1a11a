/-
  DrawCounts, walked: it answers true, whatever comes in.
-/
import Derived.Test.YtbffcgnefkkhoaaDoorUp6
import Derived.Test.YtbffcgnefkkhoaaDoorPkf
import Derived.Test.YtbffcgnefkkhoaaDoorStr
namespace Go.Proofs.YtbffcgnefkkhoaaDoor
open Go.RowKit
set_option linter.unusedVariables false
/-- The numbers compared so far. -/
def DcR (lo hi b : Nat) (d : PgD) (seed : List Int) (M : Int) (m : Nat) (W : World) (i : Value) (wr : World) : Prop :=
  ∃ j : Nat, j ≤ m ∧ i = .int .i64 j ∧ Pg wr lo hi b d seed (cnt seed M 0 j) ∧ Bx b W wr
set_option maxHeartbeats 8000000 in
set_option maxRecDepth 100000 in
theorem drawCounts_walk {a : Option Addr} {na ca : Nat} {zs : List Int} {w : World} (ha : IsRow .u8 1 w a na ca zs) (sa : ∀ x, a = some x → x.spot = none) {A : Option Addr} {n c : Nat} {xs : List Int} (hm : Told w A n c xs) (x : Int) (hx : -9223372036854775808 ≤ x ∧ x ≤ 9223372036854775807) (hT : Tabs w) :
    Calls Tryd.prog 5 #[.slice a na ca, .slice A n c, .int .i64 x] w fun e w' => e = .returned (.bool true) ∧ Below w.heap.size w w' := by
  have T0 := Lib.hid hT
  obtain ⟨N, hN⟩ : ∃ N, val W xs = N := ⟨_, rfl⟩
  have hnm := hm.nm
  rw [hN] at hnm
  have HM := Lib.hid hnm
  have HRD := Lib.hid hm.rd
  have HA := Lib.hid ha
  have SA := Lib.hid sa
  have HX := Lib.hid hx
  have hnc := hm.nc
  have n60 := hm.c60
  have hna := ha.nc
  clear hT hm hnm ha sa hx hN
  go_enter Tryd.func5, Tryd.ntmps5
  go_wp2_with fail
  refine (up6_any T0.out).mono ?_
  rintro e w1 ⟨rfl, b1⟩
  have b1 : Bw w w1 := b1
  have HB1 := Lib.hid b1
  have HM1 := Lib.hid (HM.out.bw b1)
  clear b1
  rcases Nat.lt_or_ge 500 na with h1 | h1
  · --<E1
    have t1 : decide ((500 : Int) < (na : Int)) = true := by simp; omega
    go_wp2_with fail
    go_ret
    exact ⟨rfl, HB1.out⟩
    --E1>
  · have t1 : decide ((500 : Int) < (na : Int)) = false := by simp; omega
    rcases Nat.lt_or_ge 32 n with h2 | h2
    · --<E2
      have t2 : decide ((32 : Int) < (n : Int)) = true := by simp; omega
      go_wp2_with fail
      go_ret
      exact ⟨rfl, HB1.out⟩
      --E2>
    · have t2 : decide ((32 : Int) < (n : Int)) = false := by simp; omega
      go_wp2_with fail
      refine (Limbs_nm HM1.out).mono ?_
      rintro e w2 ⟨rfl, rfl⟩
      have hdl : dl N ≤ n := by
        obtain ⟨⟨ys, y1, y2, y3⟩, -, -, -⟩ := HM1.out
        have := dl_le (N := N) (k := n) HM1.out.pos (by rw [← y3, ← y1.len]; exact val_lt (by decide) y2)
        exact this
      obtain ⟨l, hl⟩ : ∃ l, dl N = l := ⟨_, rfl⟩
      have HL := Lib.hid hl
      rw [hl] at hdl ⊢
      clear hl
      rcases Nat.eq_zero_or_pos l with h3 | h3
      · --<E3
        subst h3
        go_wp2_with fail
        go_ret
        exact ⟨rfl, HB1.out⟩
        --E3>
      · have t3 : ((l : Int) == 0) = false := by simp; omega
        have hN0 : 0 < N := by
          have h0 := HM1.out.pos
          rcases Int.lt_or_le 0 N with g | g
          · exact g
          · obtain rfl : N = 0 := by omega
            have := HL.out
            unfold dl at this
            rw [dg_zero] at this
            simp at this; omega
        have hl32 : dl N ≤ 32 := by rw [HL.out]; omega
        obtain ⟨v, hv⟩ : ∃ v, pk x 40 = v := ⟨_, rfl⟩
        have vb := pk_bd x (m := 40) (by decide)
        rw [hv] at vb
        go_wp2_with fail
        refine (pick_any x 40 HX.out (by decide) _).mono ?_
        rintro e w2 ⟨rfl, rfl⟩
        rw [hv]
        obtain ⟨m, rfl⟩ : ∃ m : Nat, v = (m : Int) := ⟨v.toNat, by omega⟩
        have m40 : m < 40 := by omega
        obtain ⟨seed, hseed⟩ : ∃ seed, (zs.take na).take (min na 500) = seed := ⟨_, rfl⟩
        have bs := HA.out.bs_cut SA.out (m := 500) (by omega)
        rw [hseed, Nat.min_eq_left h1] at bs
        have BS1 := Lib.hid (bs.bw HB1.out)
        clear hv bs hseed
        go_wp2_with fail
        refine (p6new (T0.out.bw HB1.out) BS1.out (by omega)).mono ?_
        rintro e w2 ⟨ba, da, rfl, hpa, b2⟩
        have HPA := Lib.hid hpa
        have BS2 := Lib.hid (BS1.out.bw b2)
        have HB2 := Lib.hid (HB1.out.trans b2)
        have HM2 := Lib.hid (HM1.out.bw b2)
        clear hpa b2 BS1 HM1
        go_wp2_with fail
        refine (p6new (T0.out.bw HB2.out) BS2.out (by omega)).mono ?_
        rintro e w3 ⟨bb, db, rfl, hpb, b3⟩
        obtain ⟨la, hla⟩ : ∃ la, w1.heap.size = la := ⟨_, rfl⟩
        obtain ⟨ha, hha⟩ : ∃ ha, w2.heap.size = ha := ⟨_, rfl⟩
        obtain ⟨hb, hhb⟩ : ∃ hb, w3.heap.size = hb := ⟨_, rfl⟩
        have HPA3 := Lib.hid (HPA.out.bw b3)
        rw [hla, hha] at HPA3
        rw [hha, hhb] at hpb
        have HPB := Lib.hid hpb
        have HB3 := Lib.hid (HB2.out.trans b3)
        have HM3 := Lib.hid (HM2.out.bw b3)
        have wla : w.heap.size ≤ la := by rw [← hla]; exact Below.size HB1.out
        have law : w.heap.size ≤ ba := Nat.le_trans wla HPA3.out.blo
        have lbw : w.heap.size ≤ bb := by have := HPA3.out.blo; have := HPA3.out.bhi; have := hpb.blo; omega
        have neM : ∀ a, A = some a → 0 < n → a.block < w.heap.size := fun a hh hn => by
          obtain ⟨b0, o0, e0, l0, -⟩ := HRD.out.cells hn
          rw [hh] at e0; injection e0 with e0; subst e0; exact l0
        have NEM := Lib.hid neM
        clear hpb b3 neM BS2 HM2 HB2 HPA hla hha
        go_wp2_with fail
        refine (p6scal (T0.out.bw HB3.out) HPA3.out (by omega) HM3.out (fun a hh hn => by have := NEM.out a hh hn; omega) hN0 hl32 m (by omega)).mono ?_
        rintro e w4 ⟨B, cB, rfl, hs, hpa, bx4⟩
        have HS := Lib.hid hs
        have HPA4 := Lib.hid hpa
        have HPB4 := Lib.hid (HPB.out.bx bx4 (.inl (by have := HPA3.out.bhi; omega)))
        have HM4 := Lib.hid (HM3.out.bx bx4 (fun a hh hn => by have := NEM.out a hh hn; omega))
        have HB4 := Lib.hid (bx4.below HB3.out law)
        have sBb : bb < hb := HPB.out.bhi
        rw [hhb] at hs
        have HS4 := Lib.hid hs
        have t4 : ((m : Int) != (m : Int)) = false := by simp
        clear hs hpa bx4 HPA3 HPB HM3 HB3 HS
        go_wp2_with fail
        go_loopw [12] (fun i wr => DcR ha hb bb db seed N m w4 i wr) (fun i _ => m - (intOf i).toNat)
        case atStart => exact ⟨0, Nat.zero_le _, rfl, HPB4.out, Bx.refl _ _⟩
        case round =>
          obtain ⟨j, hj, rfl, hp, hbx⟩ := hrel
          have HP := Lib.hid hp
          have HBX := Lib.hid hbx
          have hcn := cnt_bd seed N 0 j
          clear hp hbx
          rcases Nat.lt_or_ge j m with hlt | hge
          · --<L
            have hji : (j : Int) < (m : Int) := by omega
            have hTr : Bw w wr := HBX.out.below HB4.out lbw
            go_wp2_with fail
            refine (p6below_arg (T0.out.bw hTr) HP.out (nm_none _)).mono ?_
            rintro e w5 ⟨rfl, hp5, hb5⟩
            have HP5 := Lib.hid hp5
            have HB5 := Lib.hid (HBX.out.trans hb5)
            clear hTr hp5 hb5
            have hTr : Bw w w5 := HB5.out.below HB4.out lbw
            go_wp2_with fail
            refine (p6perm_arg (T0.out.bw hTr) HP5.out (-1) (.inl (by decide))).mono ?_
            rintro e w6 ⟨rfl, hp6, hb6⟩
            have HP6 := Lib.hid hp6
            have HB6 := Lib.hid (HB5.out.trans hb6)
            clear hTr hp6 hb6
            have hTr : Bw w w6 := HB6.out.below HB4.out lbw
            have hM6 := HM4.out.bx HB6.out (fun a hh hn => by have := NEM.out a hh hn; omega)
            go_wp2_with fail
            refine (p6below (T0.out.bw hTr) HP6.out (by omega) hM6 (fun a hh hn => by have := NEM.out a hh hn; omega) hN0 hl32).mono ?_
            rintro e w7 ⟨B7, n7, c7, rfl, hc7, -, hp7, hb7⟩
            have HP7 := Lib.hid hp7
            have HB7 := Lib.hid (HB6.out.trans hb7)
            have HC7 := Lib.hid hc7
            clear hTr hM6 hp7 hb7 hc7
            obtain ⟨g, off, rfl, hg1, hg2, hg3⟩ := (HS4.out.bx HB7.out sBb).cells (by omega)
            obtain ⟨Aj, nj, cj, k1, k2, k3⟩ := hg3 j hlt
            have K2 := Lib.hid k2
            have q1 := eql_code 1 1
            have q2 := neq_code 1 1
            clear hg3 k2 k3
            go_wp2_with fail
            refine (same_cn HC7.out K2.out).mono ?_
            rintro e w8 ⟨rfl, b8⟩
            have b8 : Bw w7 w8 := b8
            have HP8 := Lib.hid (HP7.out.bw b8)
            have HB8 := Lib.hid (HB7.out.trans (b8.bx bb))
            clear b8
            go_wp2_with fail
            go_roundw
            case rel => exact ⟨j + 1, by omega, by go_num, HP8.out, HB8.out⟩
            case measure => simp [intOf]; omega
            --L>
          · --<END
            obtain rfl : j = m := by omega
            have hji : decide ((j : Int) < (j : Int)) = false := by simp
            have hPA := HPA4.out.bx HBX.out (.inr HP.out.blo)
            have hfin : Bw w wr := HBX.out.below HB4.out lbw
            have HPAf := Lib.hid hPA
            have HF := Lib.hid hfin
            have t5 : ((cnt seed N 0 j : Int) == (cnt seed N 0 j : Int)) = true := by simp
            clear hPA hfin
            go_wp2_with fail
            refine (p6count HPAf.out).mono ?_
            rintro e w5 ⟨rfl, rfl⟩
            go_wp2_with fail
            refine (p6count HP.out).mono ?_
            rintro e w5 ⟨rfl, rfl⟩
            go_wp2_with fail
            go_ret
            exact ⟨rfl, HF.out⟩
            --END>
end Go.Proofs.YtbffcgnefkkhoaaDoor
