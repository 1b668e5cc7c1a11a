/-
  What the document's own step answers: what is amiss with a step on its own, or nothing.
-/
import Derived.Test.YtloibmemlkfkfaaGreatDoorPri
import Derived.Test.YtloibmemlkfkfaaGreatDoorDoc
import Derived.Test.YtloibmemlkfkfaaGreatDoorPkf
import Derived.Test.YtloibmemlkfkfaaGreatDoorOfAr
namespace Go.Proofs.YtloibmemlkfkfaaGreatDoor
open Go.RowKit
set_option linter.unusedVariables false
section
variable {w : World} {s : Stp}
set_option maxHeartbeats 1000000 in
theorem rstep_long (h : s.At w) (hl : Lg s.P s.Q s.A) :
    Calls Tryz.prog 108 #[.agg #[.slice s.A1 s.n1 s.c1, .slice s.A2 s.n2 s.c2, .slice s.A3 s.n3 s.c3]] w (AnsV (.int .i64 2) w) := by
  have ba := below_al w (.cells #[.slice s.A1 s.n1 s.c1, .slice s.A2 s.n2 s.c2, .slice s.A3 s.n3 s.c3] 95)
  have k := h.below ba
  have BA := Lib.hid ba
  clear ba
  rcases Nat.lt_or_ge 32 (dl s.P) with g1 | g1
  · have t1 : decide ((32 : Int) < (dl s.P : Int)) = true := by simp; omega
    go_enter Tryz.func108, Tryz.ntmps108
    go_wp2_with fail
    refine (Limbs_nm k.p).mono ?_
    rintro e w1 ⟨rfl, rfl⟩
    go_wp2
    go_ret
    exact ⟨rfl, BA.out⟩
  · have t1 : decide ((32 : Int) < (dl s.P : Int)) = false := by simp; omega
    rcases Nat.lt_or_ge 64 (dl s.Q) with g2 | g2
    · have t2 : decide ((64 : Int) < (dl s.Q : Int)) = true := by simp; omega
      go_enter Tryz.func108, Tryz.ntmps108
      go_wp2_with fail
      refine (Limbs_nm k.p).mono ?_
      rintro e w1 ⟨rfl, rfl⟩
      go_wp2_with fail
      refine (Limbs_nm k.q).mono ?_
      rintro e w1 ⟨rfl, rfl⟩
      go_wp2
      go_ret
      exact ⟨rfl, BA.out⟩
    · have t2 : decide ((64 : Int) < (dl s.Q : Int)) = false := by simp; omega
      have g3 : 64 < dl s.A := by rcases hl with g | g | g <;> omega
      have t3 : decide ((64 : Int) < (dl s.A : Int)) = true := by simp; omega
      go_enter Tryz.func108, Tryz.ntmps108
      go_wp2_with fail
      refine (Limbs_nm k.p).mono ?_
      rintro e w1 ⟨rfl, rfl⟩
      go_wp2_with fail
      refine (Limbs_nm k.q).mono ?_
      rintro e w1 ⟨rfl, rfl⟩
      go_wp2_with fail
      refine (Limbs_nm k.a).mono ?_
      rintro e w1 ⟨rfl, rfl⟩
      go_wp2
      go_ret
      exact ⟨rfl, BA.out⟩
end
theorem head16 {N : Int} (h : 0 < N) : dig (dg D N) 0 = N % 65536 ∧ 0 < dr N := by
  unfold dr
  rw [dg_pos D_two h]
  exact ⟨rfl, by simp⟩
theorem cmp_le {a b : Int} (h : a ≤ b) : decide (cmpI a b ≤ 0) = true := by
  simp
  rcases Int.lt_or_eq_of_le h with g | g
  · rw [cmpI_lt g]; decide
  · rw [g, cmpI_eq]; decide
theorem cmp_nle {a b : Int} (h : b < a) : decide (cmpI a b ≤ 0) = false := by simp; rw [cmpI_gt h]; decide
theorem cmp_ne {a b : Int} (h : a ≠ b) : ((cmpI a b : Int) != 0) = true := by
  simp
  rcases Int.lt_or_gt_of_ne h with g | g
  · rw [cmpI_lt g]; decide
  · rw [cmpI_gt g]; decide
theorem cmp_same {a b : Int} (h : a = b) : ((cmpI a b : Int) != 0) = false := by rw [h, cmpI_eq]; rfl
theorem below_i (w : World) (x : Int) : Below w.heap.size w (w.alloc (.cells #[.int .i64 x] 3)) := below_al _ _
section
variable {w : World} {s : Stp}
set_option maxHeartbeats 4000000 in
set_option maxRecDepth 100000 in
theorem rstep_rest (h : s.At w) (hl : ¬ Lg s.P s.Q s.A) (l1 : s.n1 ≤ 1000) (l2 : s.n2 ≤ 1000) (l3 : s.n3 ≤ 1000) :
    Calls Tryz.prog 108 #[.agg #[.slice s.A1 s.n1 s.c1, .slice s.A2 s.n2 s.c2, .slice s.A3 s.n3 s.c3]] w (AnsV (.int .i64 (sc s.P s.Q s.A)) w) := by
  have ba := below_al w (.cells #[.slice s.A1 s.n1 s.c1, .slice s.A2 s.n2 s.c2, .slice s.A3 s.n3 s.c3] 95)
  have st := St3.new w s.A1 s.n1 s.c1 s.A2 s.n2 s.c2 s.A3 s.n3 s.c3
  have k := h.below ba
  have g1 : dl s.P ≤ 32 := Nat.not_lt.1 fun g => hl (.inl g)
  have g2 : dl s.Q ≤ 64 := Nat.not_lt.1 fun g => hl (.inr (.inl g))
  have g3 : dl s.A ≤ 64 := Nat.not_lt.1 fun g => hl (.inr (.inr g))
  have P0 := h.p.pos
  have Q0 := h.q.pos
  have A0 := h.a.pos
  have rp := dr_le P0 g1
  have rq := dr_le Q0 g2
  have ra := dr_le A0 g3
  have HL := Lib.hid hl
  obtain ⟨P, hP⟩ : ∃ P, P = s.P := ⟨_, rfl⟩
  obtain ⟨Q, hQ⟩ : ∃ Q, Q = s.Q := ⟨_, rfl⟩
  obtain ⟨A, hA⟩ : ∃ A, A = s.A := ⟨_, rfl⟩
  have kp := k.p
  have kq := k.q
  have ka := k.a
  rw [← hP] at kp P0 rp g1 HL ⊢
  rw [← hQ] at kq Q0 rq g2 HL ⊢
  rw [← hA] at ka A0 ra g3 HL ⊢
  have t1 : decide ((32 : Int) < (dl P : Int)) = false := by simp; omega
  have t2 : decide ((64 : Int) < (dl Q : Int)) = false := by simp; omega
  have t3 : decide ((64 : Int) < (dl A : Int)) = false := by simp; omega
  have BA := Lib.hid ba
  clear ba hl h k hP hQ hA
  go_enter Tryz.func108, Tryz.ntmps108
  go_wp2_with fail
  refine (Limbs_nm kp).mono ?_
  rintro e w1 ⟨rfl, rfl⟩
  go_wp2_with fail
  refine (Limbs_nm kq).mono ?_
  rintro e w1 ⟨rfl, rfl⟩
  go_wp2_with fail
  refine (Limbs_nm ka).mono ?_
  rintro e w1 ⟨rfl, rfl⟩
  go_wp2_with fail
  refine (of_nm kp l1).mono ?_
  rintro e w1 ⟨Bp, np, dp, rfl, np_, b1⟩
  have b01 := BA.out.trans (b1.mono BA.out.size)
  have st1 := st.below b1
  have kq1 := kq.below b1
  have ka1 := ka.below b1
  have q1 := st1.c1_
  clear b1 st kp kq ka BA t1 t2 t3
  go_wp2_with fail
  refine (of_nm kq1 l2).mono ?_
  rintro e w2 ⟨Bq, nq, dq, rfl, nq_, b2⟩
  have b02 := b01.trans (b2.mono b01.size)
  have st2 := st1.below b2
  have ka2 := ka1.below b2
  have np2 := np_.below b2
  have q2 := st2.c2_
  clear b2 st1 kq1 ka1 b01 q1 np_
  go_wp2_with fail
  refine (of_nm ka2 l3).mono ?_
  rintro e w3 ⟨Ba, na, da, rfl, na_, b3⟩
  have b03 := b02.trans (b3.mono b02.size)
  have np3 := np2.below b3
  have nq3 := nq_.below b3
  clear b3 st2 ka2 b02 q2 np2 nq_
  have bo := below_i w3 1
  have lo := rlit w3 (x := 1) (by decide) (by decide)
  have b04 := b03.trans (bo.mono b03.size)
  have np4 := np3.below bo
  have nq4 := nq3.below bo
  have na4 := na_.below bo
  have lp : np ≤ 128 := by rw [np4.len_]; omega
  have lq : nq ≤ 256 := by rw [nq4.len_]; omega
  have la : na ≤ 256 := by rw [na4.len_]; omega
  clear b03 np3 nq3 na_ bo
  -- P is 0, even, 1
  rcases Int.lt_or_eq_of_le P0 with hp0 | hp0
  · obtain ⟨e1, e2⟩ := head16 hp0
    have hrd := np4.rd
    have hnp : 0 < np := by rw [np4.len_]; exact e2
    obtain ⟨bb, oo, x, rfl, hbb, hx, hcell⟩ := hrd.at_ (j := 0) hnp
    have hxe := dig_lt hx
    rw [e1] at hxe
    rw [Nat.add_zero] at hcell
    have hx0 : 0 ≤ x := by omega
    have z0 : ((np : Int) == 0) = false := by simp; omega
    have z0' : (np == 0) = false := by simp; omega
    have HX := Lib.hid hxe
    clear hx hxe e1 e2 hrd
    rcases Int.emod_two_eq P with ev | od
    · have z1 : ((x % 2 : Int) == 0) = true := by have := HX.out; simp; omega
      have HS := Lib.hid (sc_even HL.out (.inl ev))
      have G := Lib.hid b04
      clear ev HX b04 np4 nq4 na4 lo
      go_wp2
      go_ret
      exact ⟨by rw [HS.out]; rfl, G.out⟩
    · have z1 : ((x % 2 : Int) == 0) = false := by have := HX.out; simp; omega
      have HO := Lib.hid od
      have l3' : Rn ((w3.alloc (.cells #[.int .i64 1] 3)).alloc (.cells #[.int .i64 3] 3)) (some ⟨w3.heap.size + 1, 0, none⟩) 1 1 3 := by
        have := rlit (w3.alloc (.cells #[.int .i64 1] 3)) (x := 3) (by decide) (by decide)
        rwa [show (w3.alloc (.cells #[.int .i64 1] 3)).heap.size = w3.heap.size + 1 by simp] at this
      have b3' := below_i (w3.alloc (.cells #[.int .i64 1] 3)) 3
      have np5 := np4.below b3'
      clear od HX
      rcases Int.lt_or_le P 3 with p3 | p3
      · have z2 : decide (cmpI P 3 < 0) = true := by simp; rw [cmpI_lt p3]; decide
        have HS := Lib.hid (sc_even HL.out (.inr p3))
        have b05 := b04.trans (b3'.mono b04.size)
        clear b04 b3' nq4 na4 lo p3 np4
        go_wp2_with fail
        refine (rcmp_v np5 l3' (by omega) (by omega)).mono ?_
        rintro e w5 ⟨rfl, b5⟩
        have G := Lib.hid (b05.trans (b5.mono b05.size))
        clear b5 b05 np5 l3'
        go_wp2
        go_ret
        exact ⟨by rw [HS.out]; rfl, G.out⟩
      · have z2 : decide (cmpI P 3 < 0) = false := by
          simp
          rcases Int.lt_or_eq_of_le p3 with g | g
          · rw [cmpI_gt g]; decide
          · rw [← g, cmpI_eq]; decide
        have HE : Hid (¬ Ev P) := Lib.hid (by
          rintro (g | g)
          · have := HO.out; omega
          · omega)
        have P3 := Lib.hid p3
        have b05 := b04.trans (b3'.mono b04.size)
        have nq5 := nq4.below b3'
        have na5 := na4.below b3'
        have lo5 := lo.below b3'
        clear b04 b3' nq4 na4 lo p3 np4
        go_wp2_with fail
        refine (rcmp_v np5 l3' (by omega) (by omega)).mono ?_
        rintro e w5 ⟨rfl, b5⟩
        have g5 := b05.trans (b5.mono b05.size)
        have np6 := np5.below b5
        have nq6 := nq5.below b5
        have na6 := na5.below b5
        have lo6 := lo5.below b5
        clear b5 b05 np5 nq5 na5 lo5 l3'
        go_wp2_with fail
        refine (rsub_any np6 lo6 (by omega) (by have := P3.out; omega)).mono ?_
        rintro e w6 ⟨Bl, nl', dl', rfl, ls, b6⟩
        have g6 := g5.trans (b6.mono g5.size)
        have np7 := np6.below b6
        have nq7 := nq6.below b6
        have na7 := na6.below b6
        have lo7 := lo6.below b6
        have ll : nl' ≤ 128 := by
          rw [ls.len_]
          have := dr_mono ls.pos (show P - 1 ≤ P by omega)
          omega
        clear b6 g5 np6 nq6 na6 lo6
        rcases Int.lt_or_le 1 Q with q1 | q1
        · have y1 := cmp_nle q1
          have HQ1 := Lib.hid q1
          clear q1
          go_wp2_with fail
          refine (rcmp_v nq7 lo7 (by omega) (by omega)).mono ?_
          rintro e w7 ⟨rfl, b7⟩
          have g7 := g6.trans (b7.mono g6.size)
          have np8 := np7.below b7
          have nq8 := nq7.below b7
          have na8 := na7.below b7
          have lo8 := lo7.below b7
          have ls8 := ls.below b7
          clear b7 g6 np7 nq7 na7 lo7 ls
          go_wp2_with fail
          refine (rmul_any nq8 nq8 (by omega) (by omega)).mono ?_
          rintro e w8 ⟨Bm, nm, dm, rfl, mm, b8⟩
          have g8 := g7.trans (b8.mono g7.size)
          have np9 := np8.below b8
          have nq9 := nq8.below b8
          have na9 := na8.below b8
          have lo9 := lo8.below b8
          have ls9 := ls8.below b8
          have lm : nm ≤ 512 := by rw [mm.len_]; have := dr_mul (N := Q) (M := Q) Q0 Q0; omega
          clear b8 g7 np8 nq8 na8 lo8 ls8
          rcases Int.lt_or_le P (Q * Q) with q2 | q2
          · have y2 := cmp_nle q2
            have HQ2 := Lib.hid q2
            clear q2
            go_wp2_with fail
            refine (rcmp_v mm np9 (by omega) (by omega)).mono ?_
            rintro e w9 ⟨rfl, b9⟩
            have g9 := g8.trans (b9.mono g8.size)
            have np10 := np9.below b9
            have nq10 := nq9.below b9
            have na10 := na9.below b9
            have lo10 := lo9.below b9
            have ls10 := ls9.below b9
            clear b9 g8 np9 nq9 na9 lo9 ls9 mm lm
            go_wp2_with fail
            refine (rdiv_any ls10 nq10 (by omega) (by omega) (by have := HQ1.out; omega)).mono ?_
            rintro e w10 ⟨Bk, nk, dk, Br, nr, dr_, rfl, kk, rr, b10⟩
            have g10 := g9.trans (b10.mono g9.size)
            have np11 := np10.below b10
            have na11 := na10.below b10
            have lo11 := lo10.below b10
            have ls11 := ls10.below b10
            have HKP : (P - 1) / Q ≤ P - 1 := Int.ediv_le_self _ (by have := P3.out; omega)
            have lk : nk ≤ 128 := by
              rw [kk.len_]
              have := dr_mono kk.pos (show (P - 1) / Q ≤ P by omega)
              omega
            clear b10 g9 np10 nq10 na10 lo10 ls10 HKP
            by_cases hz : (P - 1) % Q = 0
            · have hnr : nr = 0 := by rw [rr.len_, hz]; unfold dr; rw [dg_zero]; rfl
              subst hnr
              have HC : Hid (Cof P Q) := Lib.hid ⟨by have := HQ1.out; omega, HQ2.out, hz⟩
              have HI := Lib.hid (wit_iff (A := A) P3.out HC.out)
              clear rr hz
              rcases Int.lt_or_le 1 A with a1 | a1
              · have y3 := cmp_nle a1
                have HA1 := Lib.hid a1
                clear a1
                go_wp2_with fail
                refine (rcmp_v na11 lo11 (by omega) (by omega)).mono ?_
                rintro e w11 ⟨rfl, b11⟩
                have g11 := g10.trans (b11.mono g10.size)
                have np12 := np11.below b11
                have na12 := na11.below b11
                have lo12 := lo11.below b11
                have ls12 := ls11.below b11
                have kk12 := kk.below b11
                clear b11 g10 np11 na11 lo11 ls11 kk
                rcases Int.lt_or_le (P - 1) A with a2 | a2
                · have y4 : decide (0 < cmpI A (P - 1)) = true := by simp; rw [cmpI_gt a2]; decide
                  have HS := Lib.hid (sc_bad HL.out HE.out fun h : Wit P Q A => by have := h.2.2.2.2.1; omega)
                  clear a2
                  go_wp2_with fail
                  refine (rcmp_v na12 ls12 (by omega) (by omega)).mono ?_
                  rintro e w12 ⟨rfl, b12⟩
                  have G := Lib.hid (g11.trans (b12.mono g11.size))
                  clear b12 g11 np12 na12 lo12 ls12 kk12
                  go_wp2
                  go_ret
                  exact ⟨by rw [HS.out]; rfl, G.out⟩
                · have y4 : decide (0 < cmpI A (P - 1)) = false := by
                    simp
                    rcases Int.lt_or_eq_of_le a2 with g | g
                    · rw [cmpI_lt g]; decide
                    · rw [g, cmpI_eq]; decide
                  have HA2 := Lib.hid a2
                  clear a2
                  go_wp2_with fail
                  refine (rcmp_v na12 ls12 (by omega) (by omega)).mono ?_
                  rintro e w12 ⟨rfl, b12⟩
                  have g12 := g11.trans (b12.mono g11.size)
                  have np13 := np12.below b12
                  have na13 := na12.below b12
                  have lo13 := lo12.below b12
                  have ls13 := ls12.below b12
                  have kk13 := kk12.below b12
                  clear b12 g11 np12 na12 lo12 ls12 kk12
                  go_wp2_with fail
                  refine (rexp_any na13 ls13 np13 (by omega) (by omega) (by omega) (by omega)).mono ?_
                  rintro e w13 ⟨Be, ne, de, rfl, ee, b13⟩
                  have g13 := g12.trans (b13.mono g12.size)
                  have np14 := np13.below b13
                  have na14 := na13.below b13
                  have lo14 := lo13.below b13
                  have kk14 := kk13.below b13
                  have le : ne ≤ 128 := by rw [ee.len_]; have := dr_rest (N := A ^ (P - 1).toNat) hp0; omega
                  obtain ⟨E1, hE1⟩ : ∃ E1, E1 = A ^ (P - 1).toNat % P := ⟨_, rfl⟩
                  rw [← hE1] at ee
                  have HE1 := Lib.hid hE1
                  clear b13 g12 np13 na13 lo13 ls13 kk13 hE1
                  by_cases hx1 : E1 = 1
                  · have y5 := cmp_same hx1
                    have HX1 := Lib.hid (HE1.out.symm.trans hx1)
                    clear hx1
                    go_wp2_with fail
                    refine (rcmp_v ee lo14 (by omega) (by omega)).mono ?_
                    rintro e w14 ⟨rfl, b14⟩
                    have g14 := g13.trans (b14.mono g13.size)
                    have np15 := np14.below b14
                    have na15 := na14.below b14
                    have lo15 := lo14.below b14
                    have kk15 := kk14.below b14
                    clear b14 g13 np14 na14 lo14 kk14 ee le
                    go_wp2_with fail
                    refine (rexp_any na15 kk15 np15 (by omega) (by omega) (by omega) (by omega)).mono ?_
                    rintro e w15 ⟨Bx, nx, dx, rfl, xx, b15⟩
                    have g15 := g14.trans (b15.mono g14.size)
                    have np16 := np15.below b15
                    have lo16 := lo15.below b15
                    have lx : nx ≤ 128 := by rw [xx.len_]; have := dr_rest (N := A ^ ((P - 1) / Q).toNat) hp0; omega
                    obtain ⟨X, hX⟩ : ∃ X, X = A ^ ((P - 1) / Q).toNat % P := ⟨_, rfl⟩
                    rw [← hX] at xx
                    have X0 := xx.pos
                    have XP : X < P := by rw [hX]; exact Int.emod_lt_of_pos _ hp0
                    have HXX := Lib.hid hX
                    clear b15 g14 np15 na15 lo15 kk15 hX
                    go_wp2_with fail
                    refine (radd_any xx np16 (by omega) (by omega)).mono ?_
                    rintro e w16 ⟨Bs, ns, ds, rfl, ss, b16⟩
                    have g16 := g15.trans (b16.mono g15.size)
                    have np17 := np16.below b16
                    have lo17 := lo16.below b16
                    have hpp : 3 * P ≤ P * P := Int.mul_le_mul_of_nonneg_right P3.out (by omega)
                    have hdd := dr_mul (N := P) (M := P) P0 P0
                    have ls_ : ns ≤ 256 := by
                      rw [ss.len_]
                      have := dr_mono ss.pos (show X + P ≤ P * P by omega)
                      omega
                    clear b16 g15 np16 lo16 xx
                    go_wp2_with fail
                    refine (rsub_any ss lo17 (by omega) (by omega)).mono ?_
                    rintro e w17 ⟨Bt, nt, dt, rfl, tt, b17⟩
                    have g17 := g16.trans (b17.mono g16.size)
                    have np18 := np17.below b17
                    have lo18 := lo17.below b17
                    have lt_ : nt ≤ 256 := by
                      rw [tt.len_]
                      have := dr_mono tt.pos (show X + P - 1 ≤ P * P by omega)
                      omega
                    clear b17 g16 np17 lo17 ss ls_ hpp hdd
                    go_wp2_with fail
                    refine (rrest_any tt np18 (by omega) (by omega) hp0).mono ?_
                    rintro e w18 ⟨Bu, nu, du, rfl, uu, b18⟩
                    have g18 := g17.trans (b18.mono g17.size)
                    have np19 := np18.below b18
                    have lo19 := lo18.below b18
                    have lu : nu ≤ 128 := by rw [uu.len_]; have := dr_rest (N := X + P - 1) hp0; omega
                    clear b18 g17 np18 lo18 tt lt_
                    go_wp2_with fail
                    refine (rgcd_any np19 uu (by omega) (by omega)).mono ?_
                    rintro e w19 ⟨Bv, nv, dv, rfl, vv, b19⟩
                    have g19 := g18.trans (b19.mono g18.size)
                    have lo20 := lo19.below b19
                    have HY1 : (X + P - 1) % P = (A ^ ((P - 1) / Q).toNat - 1) % P := by
                      rw [HXX.out, show A ^ ((P - 1) / Q).toNat % P + P - 1 = A ^ ((P - 1) / Q).toNat % P - 1 + P * 1 by omega, Int.add_mul_emod_self_left]
                      exact Eqm.iff.1 ((Eqm.mod P _).sub (Eqm.refl P 1))
                    have hgl : (Int.gcd P ((X + P - 1) % P) : Int) ≤ P := Int.le_of_dvd hp0 (Int.gcd_dvd_left _ _)
                    have lv : nv ≤ 128 := by
                      rw [vv.len_]
                      have := dr_mono vv.pos hgl
                      omega
                    obtain ⟨V, hV⟩ : ∃ V, V = (Int.gcd P ((X + P - 1) % P) : Int) := ⟨_, rfl⟩
                    rw [← hV] at vv
                    have HG := Lib.hid (hV.trans (by rw [HY1]))
                    clear b19 g18 np19 lo19 uu hgl HY1 hV
                    by_cases hgc : V = 1
                    · have y6 := cmp_same hgc
                      have HS : Hid (sc P Q A = 0) := Lib.hid (sc_good HL.out HE.out ⟨by have := HQ1.out; omega, HQ2.out, HC.out.2.2, by have := HA1.out; omega, by have := HA2.out; omega, HX1.out, by have := HG.out; omega⟩)
                      clear hgc
                      go_wp2_with fail
                      refine (rcmp_v vv lo20 (by omega) (by omega)).mono ?_
                      rintro e w20 ⟨rfl, b20⟩
                      have G := Lib.hid (g19.trans (b20.mono g19.size))
                      clear b20 g19 lo20 vv
                      go_wp2
                      go_ret
                      exact ⟨by rw [HS.out]; rfl, G.out⟩
                    · have y6 := cmp_ne hgc
                      have HS : Hid (sc P Q A = 7) := Lib.hid (sc_bad HL.out HE.out fun h : Wit P Q A => hgc (by have := HG.out; have := h.2.2.2.2.2.2; omega))
                      clear hgc
                      go_wp2_with fail
                      refine (rcmp_v vv lo20 (by omega) (by omega)).mono ?_
                      rintro e w20 ⟨rfl, b20⟩
                      have G := Lib.hid (g19.trans (b20.mono g19.size))
                      clear b20 g19 lo20 vv
                      go_wp2
                      go_ret
                      exact ⟨by rw [HS.out]; rfl, G.out⟩
                  · have y5 := cmp_ne hx1
                    have HS : Hid (sc P Q A = 7) := Lib.hid (sc_bad HL.out HE.out fun h : Wit P Q A => hx1 (HE1.out.trans h.2.2.2.2.2.1))
                    clear hx1
                    go_wp2_with fail
                    refine (rcmp_v ee lo14 (by omega) (by omega)).mono ?_
                    rintro e w14 ⟨rfl, b14⟩
                    have G := Lib.hid (g13.trans (b14.mono g13.size))
                    clear b14 g13 np14 na14 lo14 kk14 ee
                    go_wp2
                    go_ret
                    exact ⟨by rw [HS.out]; rfl, G.out⟩
              · have y3 := cmp_le a1
                have HS := Lib.hid (sc_bad HL.out HE.out fun h : Wit P Q A => by have := h.2.2.2.1; omega)
                clear a1
                go_wp2_with fail
                refine (rcmp_v na11 lo11 (by omega) (by omega)).mono ?_
                rintro e w11 ⟨rfl, b11⟩
                have G := Lib.hid (g10.trans (b11.mono g10.size))
                clear b11 g10 np11 na11 lo11 ls11 kk
                go_wp2
                go_ret
                exact ⟨by rw [HS.out]; rfl, G.out⟩
            · have hnr : 0 < nr := by
                rw [rr.len_]
                rcases Nat.eq_zero_or_pos (dr ((P - 1) % Q)) with g | g
                · exact absurd ((dg_nil_iff D_two rr.pos).1 g) hz
                · exact g
              have HS := Lib.hid (sc_bad HL.out HE.out fun h : Wit P Q A => hz h.2.2.1)
              have G := Lib.hid g10
              clear hz rr g10 np11 na11 lo11 ls11 kk
              go_wp2
              go_ret
              exact ⟨by rw [HS.out]; rfl, G.out⟩
          · have y2 := cmp_le q2
            have HS := Lib.hid (sc_bad HL.out HE.out fun h : Wit P Q A => by have := h.2.1; omega)
            clear q2
            go_wp2_with fail
            refine (rcmp_v mm np9 (by omega) (by omega)).mono ?_
            rintro e w9 ⟨rfl, b9⟩
            have G := Lib.hid (g8.trans (b9.mono g8.size))
            clear b9 g8 np9 nq9 na9 lo9 ls9 mm
            go_wp2
            go_ret
            exact ⟨by rw [HS.out]; rfl, G.out⟩
        · have y1 := cmp_le q1
          have HS := Lib.hid (sc_bad HL.out HE.out fun h : Wit P Q A => by have := h.1; omega)
          clear q1
          go_wp2_with fail
          refine (rcmp_v nq7 lo7 (by omega) (by omega)).mono ?_
          rintro e w7 ⟨rfl, b7⟩
          have G := Lib.hid (g6.trans (b7.mono g6.size))
          clear b7 g6 np7 nq7 na7 lo7 ls
          go_wp2
          go_ret
          exact ⟨by rw [HS.out]; rfl, G.out⟩
  · have hnp : np = 0 := by rw [np4.len_, ← hp0]; unfold dr; rw [dg_zero]; rfl
    subst hnp
    have HS := Lib.hid (sc_even HL.out (.inr (show P < 3 by omega)))
    have G := Lib.hid b04
    clear hp0 b04 np4 nq4 na4 lo
    go_wp2
    go_ret
    exact ⟨by rw [HS.out]; rfl, G.out⟩
/-- What the document's step answers. -/
theorem rstep_any (h : s.At w) (l1 : s.n1 ≤ 1000) (l2 : s.n2 ≤ 1000) (l3 : s.n3 ≤ 1000) :
    Calls Tryz.prog 108 #[.agg #[.slice s.A1 s.n1 s.c1, .slice s.A2 s.n2 s.c2, .slice s.A3 s.n3 s.c3]] w (AnsV (.int .i64 (scS s)) w) := by
  by_cases hl : Lg s.P s.Q s.A
  · have := rstep_long h hl
    rwa [show scS s = 2 from sc_long hl]
  · exact rstep_rest h hl l1 l2 l3
end
end Go.Proofs.YtloibmemlkfkfaaGreatDoor
