/-
  Several texts in one: Ar0, OfAr, RStep, RSma, RChk, R4N, Kn2, K8, K10.
-/
import Derived.Test.YtjalncdllegfoaaGreatDoorPkf
import Derived.Test.YtjalncdllegfoaaGreatDoorDoc
import Derived.Test.YtjalncdllegfoaaGreatDoorPri
import Derived.Test.YtjalncdllegfoaaGreatDoorRfo
import Derived.Test.YtjalncdllegfoaaGreatDoorGro
import Derived.Test.YtjalncdllegfoaaGreatDoorKnx
import Derived.Test.YtjalncdllegfoaaGreatDoorR8p
/-
  An argument with its number.
-/
namespace Go.Proofs.YtjalncdllegfoaaGreatDoor
open Go.RowKit
set_option linter.unusedVariables false
/-- What is known of an argument, under one name for its number. -/
structure Ar (w : World) (A : Option Addr) (n c : Nat) (xs : List Int) (N : Int) : Prop where
  told : Told w A n c xs
  val_ : val W xs = N
theorem Ar.below {w w' : World} {A : Option Addr} {n c : Nat} {xs : List Int} {N : Int} (h : Ar w A n c xs N) (hb : Below w.heap.size w w') : Ar w' A n c xs N := ⟨h.told.below hb, h.val_⟩
theorem Ar.nm {w : World} {A : Option Addr} {n c : Nat} {xs : List Int} {N : Int} (h : Ar w A n c xs N) : Nm w A n c N := by have := h.told.nm; rw [h.val_] at this; exact this
end Go.Proofs.YtjalncdllegfoaaGreatDoor
/-
  What Of answers of an argument.
-/
namespace Go.Proofs.YtjalncdllegfoaaGreatDoor
open Go.RowKit
set_option linter.unusedVariables false
theorem of_ar {A : Option Addr} {n c : Nat} {xs : List Int} {N : Int} {w : World} (h : Ar w A n c xs N) (hn : n ≤ 1000) : Calls Tryz.prog 25 #[.slice A n c] w (AnsN N w) := by
  have := of_v h.told hn; rw [h.val_] at this; exact this
end Go.Proofs.YtjalncdllegfoaaGreatDoor
/-
  What the document's own step answers: what is amiss with a step on its own, or nothing.
-/
namespace Go.Proofs.YtjalncdllegfoaaGreatDoor
open Go.RowKit
set_option linter.unusedVariables false
section
variable {w : World} {s : Stp}
set_option maxHeartbeats 1000000 in
theorem rstep_long (h : s.At w) (hl : Lg s.P s.Q s.A) :
    Calls Tryz.prog 73 #[.agg #[.slice s.A1 s.n1 s.c1, .slice s.A2 s.n2 s.c2, .slice s.A3 s.n3 s.c3]] w (AnsV (.int .i64 2) w) := by
  have ba := below_al w (.cells #[.slice s.A1 s.n1 s.c1, .slice s.A2 s.n2 s.c2, .slice s.A3 s.n3 s.c3] 85)
  have k := h.below ba
  have BA := Lib.hid ba
  clear ba
  rcases Nat.lt_or_ge 32 (dl s.P) with g1 | g1
  · have t1 : decide ((32 : Int) < (dl s.P : Int)) = true := by simp; omega
    go_enter Tryz.func73, Tryz.ntmps73
    go_wp2_with fail
    refine (Limbs_nm k.p).mono ?_
    rintro e w1 ⟨rfl, rfl⟩
    go_wp2
    go_ret
    exact ⟨rfl, BA.out⟩
  · have t1 : decide ((32 : Int) < (dl s.P : Int)) = false := by simp; omega
    rcases Nat.lt_or_ge 64 (dl s.Q) with g2 | g2
    · have t2 : decide ((64 : Int) < (dl s.Q : Int)) = true := by simp; omega
      go_enter Tryz.func73, Tryz.ntmps73
      go_wp2_with fail
      refine (Limbs_nm k.p).mono ?_
      rintro e w1 ⟨rfl, rfl⟩
      go_wp2_with fail
      refine (Limbs_nm k.q).mono ?_
      rintro e w1 ⟨rfl, rfl⟩
      go_wp2
      go_ret
      exact ⟨rfl, BA.out⟩
    · have t2 : decide ((64 : Int) < (dl s.Q : Int)) = false := by simp; omega
      have g3 : 64 < dl s.A := by rcases hl with g | g | g <;> omega
      have t3 : decide ((64 : Int) < (dl s.A : Int)) = true := by simp; omega
      go_enter Tryz.func73, Tryz.ntmps73
      go_wp2_with fail
      refine (Limbs_nm k.p).mono ?_
      rintro e w1 ⟨rfl, rfl⟩
      go_wp2_with fail
      refine (Limbs_nm k.q).mono ?_
      rintro e w1 ⟨rfl, rfl⟩
      go_wp2_with fail
      refine (Limbs_nm k.a).mono ?_
      rintro e w1 ⟨rfl, rfl⟩
      go_wp2
      go_ret
      exact ⟨rfl, BA.out⟩
end
theorem head16 {N : Int} (h : 0 < N) : dig (dg D N) 0 = N % 65536 ∧ 0 < dr N := by
  unfold dr
  rw [dg_pos D_two h]
  exact ⟨rfl, by simp⟩
theorem cmp_le {a b : Int} (h : a ≤ b) : decide (cmpI a b ≤ 0) = true := by
  simp
  rcases Int.lt_or_eq_of_le h with g | g
  · rw [cmpI_lt g]; decide
  · rw [g, cmpI_eq]; decide
theorem cmp_nle {a b : Int} (h : b < a) : decide (cmpI a b ≤ 0) = false := by simp; rw [cmpI_gt h]; decide
theorem cmp_ne {a b : Int} (h : a ≠ b) : ((cmpI a b : Int) != 0) = true := by
  simp
  rcases Int.lt_or_gt_of_ne h with g | g
  · rw [cmpI_lt g]; decide
  · rw [cmpI_gt g]; decide
theorem cmp_same {a b : Int} (h : a = b) : ((cmpI a b : Int) != 0) = false := by rw [h, cmpI_eq]; rfl
theorem below_i (w : World) (x : Int) : Below w.heap.size w (w.alloc (.cells #[.int .i64 x] 3)) := below_al _ _
section
variable {w : World} {s : Stp}
set_option maxHeartbeats 4000000 in
set_option maxRecDepth 100000 in
theorem rstep_rest (h : s.At w) (hl : ¬ Lg s.P s.Q s.A) (l1 : s.n1 ≤ 1000) (l2 : s.n2 ≤ 1000) (l3 : s.n3 ≤ 1000) :
    Calls Tryz.prog 73 #[.agg #[.slice s.A1 s.n1 s.c1, .slice s.A2 s.n2 s.c2, .slice s.A3 s.n3 s.c3]] w (AnsV (.int .i64 (sc s.P s.Q s.A)) w) := by
  have ba := below_al w (.cells #[.slice s.A1 s.n1 s.c1, .slice s.A2 s.n2 s.c2, .slice s.A3 s.n3 s.c3] 85)
  have st := St3.new w s.A1 s.n1 s.c1 s.A2 s.n2 s.c2 s.A3 s.n3 s.c3
  have k := h.below ba
  have g1 : dl s.P ≤ 32 := Nat.not_lt.1 fun g => hl (.inl g)
  have g2 : dl s.Q ≤ 64 := Nat.not_lt.1 fun g => hl (.inr (.inl g))
  have g3 : dl s.A ≤ 64 := Nat.not_lt.1 fun g => hl (.inr (.inr g))
  have P0 := h.p.pos
  have Q0 := h.q.pos
  have A0 := h.a.pos
  have rp := dr_le P0 g1
  have rq := dr_le Q0 g2
  have ra := dr_le A0 g3
  have HL := Lib.hid hl
  obtain ⟨P, hP⟩ : ∃ P, P = s.P := ⟨_, rfl⟩
  obtain ⟨Q, hQ⟩ : ∃ Q, Q = s.Q := ⟨_, rfl⟩
  obtain ⟨A, hA⟩ : ∃ A, A = s.A := ⟨_, rfl⟩
  have kp := k.p
  have kq := k.q
  have ka := k.a
  rw [← hP] at kp P0 rp g1 HL ⊢
  rw [← hQ] at kq Q0 rq g2 HL ⊢
  rw [← hA] at ka A0 ra g3 HL ⊢
  have t1 : decide ((32 : Int) < (dl P : Int)) = false := by simp; omega
  have t2 : decide ((64 : Int) < (dl Q : Int)) = false := by simp; omega
  have t3 : decide ((64 : Int) < (dl A : Int)) = false := by simp; omega
  have BA := Lib.hid ba
  clear ba hl h k hP hQ hA
  go_enter Tryz.func73, Tryz.ntmps73
  go_wp2_with fail
  refine (Limbs_nm kp).mono ?_
  rintro e w1 ⟨rfl, rfl⟩
  go_wp2_with fail
  refine (Limbs_nm kq).mono ?_
  rintro e w1 ⟨rfl, rfl⟩
  go_wp2_with fail
  refine (Limbs_nm ka).mono ?_
  rintro e w1 ⟨rfl, rfl⟩
  go_wp2_with fail
  refine (of_nm kp l1).mono ?_
  rintro e w1 ⟨Bp, np, dp, rfl, np_, b1⟩
  have b01 := BA.out.trans (b1.mono BA.out.size)
  have st1 := st.below b1
  have kq1 := kq.below b1
  have ka1 := ka.below b1
  have q1 := st1.c1_
  clear b1 st kp kq ka BA t1 t2 t3
  go_wp2_with fail
  refine (of_nm kq1 l2).mono ?_
  rintro e w2 ⟨Bq, nq, dq, rfl, nq_, b2⟩
  have b02 := b01.trans (b2.mono b01.size)
  have st2 := st1.below b2
  have ka2 := ka1.below b2
  have np2 := np_.below b2
  have q2 := st2.c2_
  clear b2 st1 kq1 ka1 b01 q1 np_
  go_wp2_with fail
  refine (of_nm ka2 l3).mono ?_
  rintro e w3 ⟨Ba, na, da, rfl, na_, b3⟩
  have b03 := b02.trans (b3.mono b02.size)
  have np3 := np2.below b3
  have nq3 := nq_.below b3
  clear b3 st2 ka2 b02 q2 np2 nq_
  have bo := below_i w3 1
  have lo := rlit w3 (x := 1) (by decide) (by decide)
  have b04 := b03.trans (bo.mono b03.size)
  have np4 := np3.below bo
  have nq4 := nq3.below bo
  have na4 := na_.below bo
  have lp : np ≤ 128 := by rw [np4.len_]; omega
  have lq : nq ≤ 256 := by rw [nq4.len_]; omega
  have la : na ≤ 256 := by rw [na4.len_]; omega
  clear b03 np3 nq3 na_ bo
  -- P is 0, even, 1
  rcases Int.lt_or_eq_of_le P0 with hp0 | hp0
  · obtain ⟨e1, e2⟩ := head16 hp0
    have hrd := np4.rd
    have hnp : 0 < np := by rw [np4.len_]; exact e2
    obtain ⟨bb, oo, x, rfl, hbb, hx, hcell⟩ := hrd.at_ (j := 0) hnp
    have hxe := dig_lt hx
    rw [e1] at hxe
    rw [Nat.add_zero] at hcell
    have hx0 : 0 ≤ x := by omega
    have z0 : ((np : Int) == 0) = false := by simp; omega
    have z0' : (np == 0) = false := by simp; omega
    have HX := Lib.hid hxe
    clear hx hxe e1 e2 hrd
    rcases Int.emod_two_eq P with ev | od
    · have z1 : ((x % 2 : Int) == 0) = true := by have := HX.out; simp; omega
      have HS := Lib.hid (sc_even HL.out (.inl ev))
      have G := Lib.hid b04
      clear ev HX b04 np4 nq4 na4 lo
      go_wp2
      go_ret
      exact ⟨by rw [HS.out]; rfl, G.out⟩
    · have z1 : ((x % 2 : Int) == 0) = false := by have := HX.out; simp; omega
      have HO := Lib.hid od
      have l3' : Rn ((w3.alloc (.cells #[.int .i64 1] 3)).alloc (.cells #[.int .i64 3] 3)) (some ⟨w3.heap.size + 1, 0, none⟩) 1 1 3 := by
        have := rlit (w3.alloc (.cells #[.int .i64 1] 3)) (x := 3) (by decide) (by decide)
        rwa [show (w3.alloc (.cells #[.int .i64 1] 3)).heap.size = w3.heap.size + 1 by simp] at this
      have b3' := below_i (w3.alloc (.cells #[.int .i64 1] 3)) 3
      have np5 := np4.below b3'
      clear od HX
      rcases Int.lt_or_le P 3 with p3 | p3
      · have z2 : decide (cmpI P 3 < 0) = true := by simp; rw [cmpI_lt p3]; decide
        have HS := Lib.hid (sc_even HL.out (.inr p3))
        have b05 := b04.trans (b3'.mono b04.size)
        clear b04 b3' nq4 na4 lo p3 np4
        go_wp2_with fail
        refine (rcmp_v np5 l3' (by omega) (by omega)).mono ?_
        rintro e w5 ⟨rfl, b5⟩
        have G := Lib.hid (b05.trans (b5.mono b05.size))
        clear b5 b05 np5 l3'
        go_wp2
        go_ret
        exact ⟨by rw [HS.out]; rfl, G.out⟩
      · have z2 : decide (cmpI P 3 < 0) = false := by
          simp
          rcases Int.lt_or_eq_of_le p3 with g | g
          · rw [cmpI_gt g]; decide
          · rw [← g, cmpI_eq]; decide
        have HE : Hid (¬ Ev P) := Lib.hid (by
          rintro (g | g)
          · have := HO.out; omega
          · omega)
        have P3 := Lib.hid p3
        have b05 := b04.trans (b3'.mono b04.size)
        have nq5 := nq4.below b3'
        have na5 := na4.below b3'
        have lo5 := lo.below b3'
        clear b04 b3' nq4 na4 lo p3 np4
        go_wp2_with fail
        refine (rcmp_v np5 l3' (by omega) (by omega)).mono ?_
        rintro e w5 ⟨rfl, b5⟩
        have g5 := b05.trans (b5.mono b05.size)
        have np6 := np5.below b5
        have nq6 := nq5.below b5
        have na6 := na5.below b5
        have lo6 := lo5.below b5
        clear b5 b05 np5 nq5 na5 lo5 l3'
        go_wp2_with fail
        refine (rsub_any np6 lo6 (by omega) (by have := P3.out; omega)).mono ?_
        rintro e w6 ⟨Bl, nl', dl', rfl, ls, b6⟩
        have g6 := g5.trans (b6.mono g5.size)
        have np7 := np6.below b6
        have nq7 := nq6.below b6
        have na7 := na6.below b6
        have lo7 := lo6.below b6
        have ll : nl' ≤ 128 := by
          rw [ls.len_]
          have := dr_mono ls.pos (show P - 1 ≤ P by omega)
          omega
        clear b6 g5 np6 nq6 na6 lo6
        rcases Int.lt_or_le 1 Q with q1 | q1
        · have y1 := cmp_nle q1
          have HQ1 := Lib.hid q1
          clear q1
          go_wp2_with fail
          refine (rcmp_v nq7 lo7 (by omega) (by omega)).mono ?_
          rintro e w7 ⟨rfl, b7⟩
          have g7 := g6.trans (b7.mono g6.size)
          have np8 := np7.below b7
          have nq8 := nq7.below b7
          have na8 := na7.below b7
          have lo8 := lo7.below b7
          have ls8 := ls.below b7
          clear b7 g6 np7 nq7 na7 lo7 ls
          go_wp2_with fail
          refine (rmul_any nq8 nq8 (by omega) (by omega)).mono ?_
          rintro e w8 ⟨Bm, nm, dm, rfl, mm, b8⟩
          have g8 := g7.trans (b8.mono g7.size)
          have np9 := np8.below b8
          have nq9 := nq8.below b8
          have na9 := na8.below b8
          have lo9 := lo8.below b8
          have ls9 := ls8.below b8
          have lm : nm ≤ 512 := by rw [mm.len_]; have := dr_mul (N := Q) (M := Q) Q0 Q0; omega
          clear b8 g7 np8 nq8 na8 lo8 ls8
          rcases Int.lt_or_le P (Q * Q) with q2 | q2
          · have y2 := cmp_nle q2
            have HQ2 := Lib.hid q2
            clear q2
            go_wp2_with fail
            refine (rcmp_v mm np9 (by omega) (by omega)).mono ?_
            rintro e w9 ⟨rfl, b9⟩
            have g9 := g8.trans (b9.mono g8.size)
            have np10 := np9.below b9
            have nq10 := nq9.below b9
            have na10 := na9.below b9
            have lo10 := lo9.below b9
            have ls10 := ls9.below b9
            clear b9 g8 np9 nq9 na9 lo9 ls9 mm lm
            go_wp2_with fail
            refine (rdiv_any ls10 nq10 (by omega) (by omega) (by have := HQ1.out; omega)).mono ?_
            rintro e w10 ⟨Bk, nk, dk, Br, nr, dr_, rfl, kk, rr, b10⟩
            have g10 := g9.trans (b10.mono g9.size)
            have np11 := np10.below b10
            have na11 := na10.below b10
            have lo11 := lo10.below b10
            have ls11 := ls10.below b10
            have HKP : (P - 1) / Q ≤ P - 1 := Int.ediv_le_self _ (by have := P3.out; omega)
            have lk : nk ≤ 128 := by
              rw [kk.len_]
              have := dr_mono kk.pos (show (P - 1) / Q ≤ P by omega)
              omega
            clear b10 g9 np10 nq10 na10 lo10 ls10 HKP
            by_cases hz : (P - 1) % Q = 0
            · have hnr : nr = 0 := by rw [rr.len_, hz]; unfold dr; rw [dg_zero]; rfl
              subst hnr
              have HC : Hid (Cof P Q) := Lib.hid ⟨by have := HQ1.out; omega, HQ2.out, hz⟩
              have HI := Lib.hid (wit_iff (A := A) P3.out HC.out)
              clear rr hz
              rcases Int.lt_or_le 1 A with a1 | a1
              · have y3 := cmp_nle a1
                have HA1 := Lib.hid a1
                clear a1
                go_wp2_with fail
                refine (rcmp_v na11 lo11 (by omega) (by omega)).mono ?_
                rintro e w11 ⟨rfl, b11⟩
                have g11 := g10.trans (b11.mono g10.size)
                have np12 := np11.below b11
                have na12 := na11.below b11
                have lo12 := lo11.below b11
                have ls12 := ls11.below b11
                have kk12 := kk.below b11
                clear b11 g10 np11 na11 lo11 ls11 kk
                rcases Int.lt_or_le (P - 1) A with a2 | a2
                · have y4 : decide (0 < cmpI A (P - 1)) = true := by simp; rw [cmpI_gt a2]; decide
                  have HS := Lib.hid (sc_bad HL.out HE.out fun h : Wit P Q A => by have := h.2.2.2.2.1; omega)
                  clear a2
                  go_wp2_with fail
                  refine (rcmp_v na12 ls12 (by omega) (by omega)).mono ?_
                  rintro e w12 ⟨rfl, b12⟩
                  have G := Lib.hid (g11.trans (b12.mono g11.size))
                  clear b12 g11 np12 na12 lo12 ls12 kk12
                  go_wp2
                  go_ret
                  exact ⟨by rw [HS.out]; rfl, G.out⟩
                · have y4 : decide (0 < cmpI A (P - 1)) = false := by
                    simp
                    rcases Int.lt_or_eq_of_le a2 with g | g
                    · rw [cmpI_lt g]; decide
                    · rw [g, cmpI_eq]; decide
                  have HA2 := Lib.hid a2
                  clear a2
                  go_wp2_with fail
                  refine (rcmp_v na12 ls12 (by omega) (by omega)).mono ?_
                  rintro e w12 ⟨rfl, b12⟩
                  have g12 := g11.trans (b12.mono g11.size)
                  have np13 := np12.below b12
                  have na13 := na12.below b12
                  have lo13 := lo12.below b12
                  have ls13 := ls12.below b12
                  have kk13 := kk12.below b12
                  clear b12 g11 np12 na12 lo12 ls12 kk12
                  go_wp2_with fail
                  refine (rexp_any na13 ls13 np13 (by omega) (by omega) (by omega) (by omega)).mono ?_
                  rintro e w13 ⟨Be, ne, de, rfl, ee, b13⟩
                  have g13 := g12.trans (b13.mono g12.size)
                  have np14 := np13.below b13
                  have na14 := na13.below b13
                  have lo14 := lo13.below b13
                  have kk14 := kk13.below b13
                  have le : ne ≤ 128 := by rw [ee.len_]; have := dr_rest (N := A ^ (P - 1).toNat) hp0; omega
                  obtain ⟨E1, hE1⟩ : ∃ E1, E1 = A ^ (P - 1).toNat % P := ⟨_, rfl⟩
                  rw [← hE1] at ee
                  have HE1 := Lib.hid hE1
                  clear b13 g12 np13 na13 lo13 ls13 kk13 hE1
                  by_cases hx1 : E1 = 1
                  · have y5 := cmp_same hx1
                    have HX1 := Lib.hid (HE1.out.symm.trans hx1)
                    clear hx1
                    go_wp2_with fail
                    refine (rcmp_v ee lo14 (by omega) (by omega)).mono ?_
                    rintro e w14 ⟨rfl, b14⟩
                    have g14 := g13.trans (b14.mono g13.size)
                    have np15 := np14.below b14
                    have na15 := na14.below b14
                    have lo15 := lo14.below b14
                    have kk15 := kk14.below b14
                    clear b14 g13 np14 na14 lo14 kk14 ee le
                    go_wp2_with fail
                    refine (rexp_any na15 kk15 np15 (by omega) (by omega) (by omega) (by omega)).mono ?_
                    rintro e w15 ⟨Bx, nx, dx, rfl, xx, b15⟩
                    have g15 := g14.trans (b15.mono g14.size)
                    have np16 := np15.below b15
                    have lo16 := lo15.below b15
                    have lx : nx ≤ 128 := by rw [xx.len_]; have := dr_rest (N := A ^ ((P - 1) / Q).toNat) hp0; omega
                    obtain ⟨X, hX⟩ : ∃ X, X = A ^ ((P - 1) / Q).toNat % P := ⟨_, rfl⟩
                    rw [← hX] at xx
                    have X0 := xx.pos
                    have XP : X < P := by rw [hX]; exact Int.emod_lt_of_pos _ hp0
                    have HXX := Lib.hid hX
                    clear b15 g14 np15 na15 lo15 kk15 hX
                    go_wp2_with fail
                    refine (radd_any xx np16 (by omega) (by omega)).mono ?_
                    rintro e w16 ⟨Bs, ns, ds, rfl, ss, b16⟩
                    have g16 := g15.trans (b16.mono g15.size)
                    have np17 := np16.below b16
                    have lo17 := lo16.below b16
                    have hpp : 3 * P ≤ P * P := Int.mul_le_mul_of_nonneg_right P3.out (by omega)
                    have hdd := dr_mul (N := P) (M := P) P0 P0
                    have ls_ : ns ≤ 256 := by
                      rw [ss.len_]
                      have := dr_mono ss.pos (show X + P ≤ P * P by omega)
                      omega
                    clear b16 g15 np16 lo16 xx
                    go_wp2_with fail
                    refine (rsub_any ss lo17 (by omega) (by omega)).mono ?_
                    rintro e w17 ⟨Bt, nt, dt, rfl, tt, b17⟩
                    have g17 := g16.trans (b17.mono g16.size)
                    have np18 := np17.below b17
                    have lo18 := lo17.below b17
                    have lt_ : nt ≤ 256 := by
                      rw [tt.len_]
                      have := dr_mono tt.pos (show X + P - 1 ≤ P * P by omega)
                      omega
                    clear b17 g16 np17 lo17 ss ls_ hpp hdd
                    go_wp2_with fail
                    refine (rrest_any tt np18 (by omega) (by omega) hp0).mono ?_
                    rintro e w18 ⟨Bu, nu, du, rfl, uu, b18⟩
                    have g18 := g17.trans (b18.mono g17.size)
                    have np19 := np18.below b18
                    have lo19 := lo18.below b18
                    have lu : nu ≤ 128 := by rw [uu.len_]; have := dr_rest (N := X + P - 1) hp0; omega
                    clear b18 g17 np18 lo18 tt lt_
                    go_wp2_with fail
                    refine (rgcd_any np19 uu (by omega) (by omega)).mono ?_
                    rintro e w19 ⟨Bv, nv, dv, rfl, vv, b19⟩
                    have g19 := g18.trans (b19.mono g18.size)
                    have lo20 := lo19.below b19
                    have HY1 : (X + P - 1) % P = (A ^ ((P - 1) / Q).toNat - 1) % P := by
                      rw [HXX.out, show A ^ ((P - 1) / Q).toNat % P + P - 1 = A ^ ((P - 1) / Q).toNat % P - 1 + P * 1 by omega, Int.add_mul_emod_self_left]
                      exact Eqm.iff.1 ((Eqm.mod P _).sub (Eqm.refl P 1))
                    have hgl : (Int.gcd P ((X + P - 1) % P) : Int) ≤ P := Int.le_of_dvd hp0 (Int.gcd_dvd_left _ _)
                    have lv : nv ≤ 128 := by
                      rw [vv.len_]
                      have := dr_mono vv.pos hgl
                      omega
                    obtain ⟨V, hV⟩ : ∃ V, V = (Int.gcd P ((X + P - 1) % P) : Int) := ⟨_, rfl⟩
                    rw [← hV] at vv
                    have HG := Lib.hid (hV.trans (by rw [HY1]))
                    clear b19 g18 np19 lo19 uu hgl HY1 hV
                    by_cases hgc : V = 1
                    · have y6 := cmp_same hgc
                      have HS : Hid (sc P Q A = 0) := Lib.hid (sc_good HL.out HE.out ⟨by have := HQ1.out; omega, HQ2.out, HC.out.2.2, by have := HA1.out; omega, by have := HA2.out; omega, HX1.out, by have := HG.out; omega⟩)
                      clear hgc
                      go_wp2_with fail
                      refine (rcmp_v vv lo20 (by omega) (by omega)).mono ?_
                      rintro e w20 ⟨rfl, b20⟩
                      have G := Lib.hid (g19.trans (b20.mono g19.size))
                      clear b20 g19 lo20 vv
                      go_wp2
                      go_ret
                      exact ⟨by rw [HS.out]; rfl, G.out⟩
                    · have y6 := cmp_ne hgc
                      have HS : Hid (sc P Q A = 7) := Lib.hid (sc_bad HL.out HE.out fun h : Wit P Q A => hgc (by have := HG.out; have := h.2.2.2.2.2.2; omega))
                      clear hgc
                      go_wp2_with fail
                      refine (rcmp_v vv lo20 (by omega) (by omega)).mono ?_
                      rintro e w20 ⟨rfl, b20⟩
                      have G := Lib.hid (g19.trans (b20.mono g19.size))
                      clear b20 g19 lo20 vv
                      go_wp2
                      go_ret
                      exact ⟨by rw [HS.out]; rfl, G.out⟩
                  · have y5 := cmp_ne hx1
                    have HS : Hid (sc P Q A = 7) := Lib.hid (sc_bad HL.out HE.out fun h : Wit P Q A => hx1 (HE1.out.trans h.2.2.2.2.2.1))
                    clear hx1
                    go_wp2_with fail
                    refine (rcmp_v ee lo14 (by omega) (by omega)).mono ?_
                    rintro e w14 ⟨rfl, b14⟩
                    have G := Lib.hid (g13.trans (b14.mono g13.size))
                    clear b14 g13 np14 na14 lo14 kk14 ee
                    go_wp2
                    go_ret
                    exact ⟨by rw [HS.out]; rfl, G.out⟩
              · have y3 := cmp_le a1
                have HS := Lib.hid (sc_bad HL.out HE.out fun h : Wit P Q A => by have := h.2.2.2.1; omega)
                clear a1
                go_wp2_with fail
                refine (rcmp_v na11 lo11 (by omega) (by omega)).mono ?_
                rintro e w11 ⟨rfl, b11⟩
                have G := Lib.hid (g10.trans (b11.mono g10.size))
                clear b11 g10 np11 na11 lo11 ls11 kk
                go_wp2
                go_ret
                exact ⟨by rw [HS.out]; rfl, G.out⟩
            · have hnr : 0 < nr := by
                rw [rr.len_]
                rcases Nat.eq_zero_or_pos (dr ((P - 1) % Q)) with g | g
                · exact absurd ((dg_nil_iff D_two rr.pos).1 g) hz
                · exact g
              have HS := Lib.hid (sc_bad HL.out HE.out fun h : Wit P Q A => hz h.2.2.1)
              have G := Lib.hid g10
              clear hz rr g10 np11 na11 lo11 ls11 kk
              go_wp2
              go_ret
              exact ⟨by rw [HS.out]; rfl, G.out⟩
          · have y2 := cmp_le q2
            have HS := Lib.hid (sc_bad HL.out HE.out fun h : Wit P Q A => by have := h.2.1; omega)
            clear q2
            go_wp2_with fail
            refine (rcmp_v mm np9 (by omega) (by omega)).mono ?_
            rintro e w9 ⟨rfl, b9⟩
            have G := Lib.hid (g8.trans (b9.mono g8.size))
            clear b9 g8 np9 nq9 na9 lo9 ls9 mm
            go_wp2
            go_ret
            exact ⟨by rw [HS.out]; rfl, G.out⟩
        · have y1 := cmp_le q1
          have HS := Lib.hid (sc_bad HL.out HE.out fun h : Wit P Q A => by have := h.1; omega)
          clear q1
          go_wp2_with fail
          refine (rcmp_v nq7 lo7 (by omega) (by omega)).mono ?_
          rintro e w7 ⟨rfl, b7⟩
          have G := Lib.hid (g6.trans (b7.mono g6.size))
          clear b7 g6 np7 nq7 na7 lo7 ls
          go_wp2
          go_ret
          exact ⟨by rw [HS.out]; rfl, G.out⟩
  · have hnp : np = 0 := by rw [np4.len_, ← hp0]; unfold dr; rw [dg_zero]; rfl
    subst hnp
    have HS := Lib.hid (sc_even HL.out (.inr (show P < 3 by omega)))
    have G := Lib.hid b04
    clear hp0 b04 np4 nq4 na4 lo
    go_wp2
    go_ret
    exact ⟨by rw [HS.out]; rfl, G.out⟩
/-- What the document's step answers. -/
theorem rstep_any (h : s.At w) (l1 : s.n1 ≤ 1000) (l2 : s.n2 ≤ 1000) (l3 : s.n3 ≤ 1000) :
    Calls Tryz.prog 73 #[.agg #[.slice s.A1 s.n1 s.c1, .slice s.A2 s.n2 s.c2, .slice s.A3 s.n3 s.c3]] w (AnsV (.int .i64 (scS s)) w) := by
  by_cases hl : Lg s.P s.Q s.A
  · have := rstep_long h hl
    rwa [show scS s = 2 from sc_long hl]
  · exact rstep_rest h hl l1 l2 l3
end
end Go.Proofs.YtjalncdllegfoaaGreatDoor
/-
  What the document's Small answers.
-/
namespace Go.Proofs.YtjalncdllegfoaaGreatDoor
open Go.RowKit
set_option linter.unusedVariables false
set_option maxHeartbeats 1000000 in
theorem rsmall_any (n : Int) (w : World) (h0 : 0 ≤ n) (h1 : n < 18446744073709551616) :
    Calls Tryz.prog 74 #[.int .u64 n] w fun e w' => e = .returned (.bool (sm n)) ∧ w = w' := by
  by_cases h2 : n < 2
  · have hs : sm n = false := sm_no fun h => by have := h.2.1; omega
    go_enter Tryz.func74, Tryz.ntmps74
    go_wp2
    go_ret
    exact ⟨by first | rfl | (rw [hs]; rfl), rfl⟩
  · by_cases h3 : n < 65536
    · go_enter Tryz.func74, Tryz.ntmps74
      go_wp2_with fail
      go_loop [3] (fun t => SmR n t) (fun t => (n + 3 - intOf t).toNat)
      case atStart => exact ⟨2, rfl, by omega, by omega, fun k a b => by omega⟩
      case round =>
        obtain ⟨d, rfl, d2, dn, hd⟩ := hrel
        have HD := Lib.hid hd
        clear hd
        by_cases hl : d < n
        · have hw1 : IntKind.u64.wrap (d + 1) = d + 1 := IntWalk.u64_in _ (by omega)
          by_cases hz : n % d = 0
          · have hs : sm n = false := sm_no fun h => h.2.2 d d2 hl hz
            go_wp2
            go_ret
            exact ⟨by first | rfl | (rw [hs]; rfl), rfl⟩
          · go_wp2
            exact ⟨⟨d + 1, rfl, by omega, by omega, fun k a b => by
              rcases Int.lt_or_eq_of_le (show k ≤ d by omega) with g | g
              · exact HD.out k a g
              · rw [g]; exact hz⟩, by simp [intOf]; omega⟩
        · have hs : sm n = true := sm_yes ⟨h3, by omega, fun k k2 kk => HD.out k k2 (by omega)⟩
          go_wp2
          go_ret
          exact ⟨by first | rfl | (rw [hs]; rfl), rfl⟩
    · have hs : sm n = false := sm_no fun h => h3 h.1
      go_enter Tryz.func74, Tryz.ntmps74
      go_wp2
      go_ret
      exact ⟨by first | rfl | (rw [hs]; rfl), rfl⟩
end Go.Proofs.YtjalncdllegfoaaGreatDoor
/-
  What the document's own Check answers.
-/
namespace Go.Proofs.YtjalncdllegfoaaGreatDoor
open Go.RowKit
set_option linter.unusedVariables false
theorem rn_one {w : World} {B : Option Addr} {m cap : Nat} {x : Int} (h : Rn w B m cap x) (h0 : 1 ≤ x) (h1 : x < 65536) : m = 1 ∧ ∃ b off, B = some ⟨b, off, none⟩ ∧ b < w.heap.size ∧ w.cell? ⟨b, off, none⟩ = some (.int .i64 x) := by
  have hr := h.rd
  rw [dgD_one h0 h1] at hr
  have hm : m = 1 := hr.len.symm
  subst hm
  obtain ⟨b, off, y, rfl, hb, hy, hc⟩ := hr.at_ (j := 0) (by omega)
  obtain rfl : x = y := by simpa using hy
  exact ⟨rfl, b, off, rfl, hb, by simpa using hc⟩
theorem dr_not_one {Q : Int} (h0 : 0 ≤ Q) (h : ¬ (1 ≤ Q ∧ Q < 65536)) : dr Q ≠ 1 := by
  intro e
  have a := dg_lt_pow D_two h0 (show (dg D Q).length ≤ 1 from Nat.le_of_eq e)
  have b := dg_nil_iff D_two h0
  refine h ⟨?_, by simpa [Int.pow_succ, D] using a⟩
  rcases Int.lt_or_eq_of_le h0 with g | g
  · omega
  · have := b.2 g.symm
    unfold dr at e
    omega
/-- The number, 0, and no place. -/
def RGood (N : Int) (w : World) (e : Ending) (w' : World) : Prop :=
  ∃ B m cap, e = .returned (.tuple #[.slice B m cap, .int .i64 0, .int .i64 (-1)]) ∧ Cn w' B m cap N ∧ Below w.heap.size w w'
/-- No number, an error's number, and its place. -/
def RBad (k : Nat) (c : Int) (w : World) (e : Ending) (w' : World) : Prop :=
  e = .returned (.tuple #[.slice none 0 0, .int .i64 c, .int .i64 k]) ∧ Below w.heap.size w w'
def RChkP (S : Nat → Stp) (n : Nat) (w : World) (e : Ending) (w' : World) : Prop :=
  ((∀ i, i < n → bdS S n i = 0) ∧ RGood (S 0).P w e w') ∨ ∃ k c, k < n ∧ (∀ j, j < k → bdS S n j = 0) ∧ bdS S n k = c ∧ c ≠ 0 ∧ RBad k c w e w'
theorem rchk_arg {w : World} {a : Option Addr} {n c : Nat} (hn : n = 0 ∨ 64 < n) (h1 : n ≤ 9223372036854775807) :
    Calls Tryz.prog 42 #[.slice a n c] w fun e w' => e = .returned (.tuple #[.slice none 0 0, .int .i64 1, .int .i64 (-1)]) ∧ w = w' := by
  rcases hn with rfl | hn
  · go_enter Tryz.func42, Tryz.ntmps42
    go_wp2
    refine bodyPost_ret (v := .tuple #[.slice none 0 0, .int .i64 1, .int .i64 (-1)]) (by simp [results, Tryz.results42, go_sem]) rfl ⟨rfl, rfl⟩
  · have t1 : ((n : Int) == 0) = false := by simp; omega
    have t2 : (n == 0) = false := by simp; omega
    have t3 : decide ((64 : Int) < (n : Int)) = true := by simp; omega
    go_enter Tryz.func42, Tryz.ntmps42
    go_wp2
    refine bodyPost_ret (v := .tuple #[.slice none 0 0, .int .i64 1, .int .i64 (-1)]) (by simp [results, Tryz.results42, go_sem]) rfl ⟨rfl, rfl⟩
theorem rstep_code {w : World} {s : Stp} {c : Int} (h : s.At w) (l : s.n1 ≤ 1000 ∧ s.n2 ≤ 1000 ∧ s.n3 ≤ 1000) (hs : scS s = c) :
    Calls Tryz.prog 73 #[.agg #[.slice s.A1 s.n1 s.c1, .slice s.A2 s.n2 s.c2, .slice s.A3 s.n3 s.c3]] w (AnsV (.int .i64 c) w) := by
  have := rstep_any h l.1 l.2.1 l.2.2
  rwa [hs] at this
set_option maxHeartbeats 4000000 in
theorem rchk_any {w : World} {b off n c : Nat} {S : Nat → Stp} (h : Ch w (some ⟨b, off, none⟩) n c S) (h1 : 1 ≤ n) (h2 : n ≤ 64) (hl : ∀ i, i < n → (S i).n1 ≤ 1000 ∧ (S i).n2 ≤ 1000 ∧ (S i).n3 ≤ 1000) :
    Calls Tryz.prog 42 #[.slice (some ⟨b, off, none⟩) n c] w (RChkP S n w) := by
  have t1 : ((n : Int) == 0) = false := by simp; omega
  have t2 : (n == 0) = false := by simp; omega
  have hnc := h.nc
  have HL := Lib.hid hl
  clear hl
  go_enter Tryz.func42, Tryz.ntmps42
  go_wp2_with fail
  go_loopw [5] (fun i wr => ChkR S n w i wr) (fun i _ => n - (intOf i).toNat)
  case atStart => exact ⟨0, Nat.zero_le _, rfl, fun j h => absurd h (by omega), Below.refl _ _⟩
  case round =>
    obtain ⟨k, hk, rfl, hz, hb⟩ := hrel
    have HZ := Lib.hid hz
    clear hz
    have hr := h.below hb
    rcases Nat.lt_or_ge k n with hlt | hge
    · obtain ⟨b', off', hbo, hb1, hcl⟩ := hr.ex (by omega)
      simp only [Option.some.injEq, Addr.mk.injEq, and_true] at hbo
      obtain ⟨rfl, rfl⟩ := hbo
      have q0 := (hcl k hlt).c0
      have q1 := (hcl k hlt).c1
      have q2 := (hcl k hlt).c2
      have sa := hr.at_ k hlt
      have lk := HL.out k hlt
      clear hcl
      have hkk : (k : Int) < 64 := by omega
      by_cases hs : scS (S k) = 0
      · have HS := Lib.hid hs
        clear hs
        go_wp2_with fail
        refine (rstep_code sa lk HS.out).mono ?_
        rintro e w2 ⟨rfl, b2⟩
        have gb := hb.trans (b2.mono hb.size)
        have sa2 := sa.below b2
        have hr2 := hr.below b2
        clear q0 q1 q2 sa
        obtain ⟨b', off', hbo, hb2, hcl⟩ := hr2.ex (by omega)
        simp only [Option.some.injEq, Addr.mk.injEq, and_true] at hbo
        obtain ⟨rfl, rfl⟩ := hbo
        have q1 := (hcl k hlt).c1
        clear hcl b2
        go_wp2_with fail
        refine (of_nm sa2.q lk.2.1).mono ?_
        rintro e w3 ⟨B3, m3, d3, rfl, k3, b3⟩
        have gb3 := gb.trans (b3.mono gb.size)
        have hr3 := hr2.below b3
        have Q0 := k3.pos
        have hw : IntKind.i64.wrap ((k : Int) + 1) = (k : Int) + 1 := IntWalk.i64_in _ (by omega)
        have hdq : dr (S k).Q ≤ 256 := by
          have := (sc_zero HS.out).1
          exact dr_le Q0 (Nat.not_lt.1 fun g => this (.inr (.inl g)))
        have lm3 : m3 ≤ 256 := by rw [k3.len_]; exact hdq
        clear b3 gb q1 sa2 hr2 hdq
        rcases Nat.lt_or_ge (k + 1) n with hm | hm
        · obtain ⟨b', off', hbo, hb3, hcl⟩ := hr3.ex (by omega)
          simp only [Option.some.injEq, Addr.mk.injEq, and_true] at hbo
          obtain ⟨rfl, rfl⟩ := hbo
          have q0 := (hcl (k + 1) hm).c0
          have sn := hr3.at_ (k + 1) hm
          have ln := HL.out (k + 1) hm
          have t4 : decide ((k : Int) + 1 < (n : Int)) = true := by simp; omega
          have hle2 : (0 : Int) ≤ (k : Int) + 1 := by omega
          have hle5 : ((k : Int) + 1).toNat = k + 1 := by omega
          clear hcl
          go_wp2_with fail
          refine (of_nm sn.p ln.1).mono ?_
          rintro e w4 ⟨B4, m4, d4, rfl, k4, b4⟩
          have gb4 := gb3.trans (b4.mono gb3.size)
          have k34 := k3.below b4
          have lm4 : m4 ≤ 4000 := by
            rw [k4.len_]
            have := sn.p.dl_le
            have := dr_le k4.pos (Nat.le_trans this ln.1)
            omega
          clear b4 gb3 k3 q0
          by_cases hq : (S k).Q = (S (k + 1)).P
          · have HB := Lib.hid (show bdS S n k = 0 from bd_next (P := fun j => (S j).P) (Q := fun j => (S j).Q) (A := fun j => (S j).A) HS.out hm hq)
            have y1 := cmp_same hq
            clear hq
            go_wp2_with fail
            refine (rcmp_v k34 k4 (by omega) (by omega)).mono ?_
            rintro e w5 ⟨rfl, b5⟩
            have G := Lib.hid (gb4.trans (b5.mono gb4.size))
            clear b5 gb4 k34 k4 sn hr3
            go_wp2
            go_roundw
            case rel => exact ⟨k + 1, hlt, by go_num, fun j hj => by
              rcases Nat.lt_or_ge j k with g | g
              · exact HZ.out j g
              · obtain rfl : j = k := by omega
                exact HB.out, G.out⟩
            case measure => simp [intOf]; omega
          · have HB := Lib.hid (show bdS S n k = 7 from bd_join (P := fun j => (S j).P) (Q := fun j => (S j).Q) (A := fun j => (S j).A) HS.out hm hq)
            have y1 := cmp_ne hq
            clear hq
            go_wp2_with fail
            refine (rcmp_v k34 k4 (by omega) (by omega)).mono ?_
            rintro e w5 ⟨rfl, b5⟩
            have G := Lib.hid (gb4.trans (b5.mono gb4.size))
            clear b5 gb4 k34 k4 sn hr3
            go_wp2
            refine bodyPost_ret (v := .tuple #[.slice none 0 0, .int .i64 7, .int .i64 k]) (by simp [results, Tryz.results42, go_sem]) rfl ?_
            exact .inr ⟨k, 7, hlt, HZ.out, HB.out, by decide, rfl, G.out⟩
        · have t4 : decide ((k : Int) + 1 < (n : Int)) = false := by simp; omega
          have hnot : ¬ k + 1 < n := by omega
          have G := Lib.hid gb3
          clear gb3
          by_cases hsm : Sm (S k).Q
          · have HB := Lib.hid (show bdS S n k = 0 from bd_last (P := fun j => (S j).P) (Q := fun j => (S j).Q) (A := fun j => (S j).A) HS.out hnot hsm)
            have hq1 : 1 ≤ (S k).Q := by have := hsm.2.1; omega
            have hq2 : (S k).Q < 65536 := hsm.1
            obtain ⟨rfl, bb, oo, rfl, hbb, hcc⟩ := rn_one k3 hq1 hq2
            have rs := rsmall_any (S k).Q w3 Q0 (by omega)
            rw [sm_yes hsm] at rs
            clear hsm k3
            go_wp2_with fail
            refine rs.mono ?_
            rintro e w4 ⟨rfl, rfl⟩
            clear rs hcc
            go_wp2
            go_roundw
            case rel => exact ⟨k + 1, hlt, by go_num, fun j hj => by
              rcases Nat.lt_or_ge j k with g | g
              · exact HZ.out j g
              · obtain rfl : j = k := by omega
                exact HB.out, G.out⟩
            case measure => simp [intOf]; omega
          · have HB := Lib.hid (show bdS S n k = 7 from bd_end (P := fun j => (S j).P) (Q := fun j => (S j).Q) (A := fun j => (S j).A) HS.out hnot hsm)
            by_cases hq : 1 ≤ (S k).Q ∧ (S k).Q < 65536
            · obtain ⟨hq1, hq2⟩ := hq
              obtain ⟨rfl, bb, oo, rfl, hbb, hcc⟩ := rn_one k3 hq1 hq2
              have rs := rsmall_any (S k).Q w3 Q0 (by omega)
              rw [sm_no hsm] at rs
              clear hsm k3
              go_wp2_with fail
              refine rs.mono ?_
              rintro e w4 ⟨rfl, rfl⟩
              clear rs hcc
              go_wp2
              refine bodyPost_ret (v := .tuple #[.slice none 0 0, .int .i64 7, .int .i64 k]) (by simp [results, Tryz.results42, go_sem]) rfl ?_
              exact .inr ⟨k, 7, hlt, HZ.out, HB.out, by decide, rfl, G.out⟩
            · have hm3 : m3 ≠ 1 := by rw [k3.len_]; exact dr_not_one Q0 hq
              have t5 : ((m3 : Int) == 1) = false := by simp; omega
              have t6 : (m3 == 1) = false := by simp; omega
              clear k3 hq hsm
              go_wp2
              refine bodyPost_ret (v := .tuple #[.slice none 0 0, .int .i64 7, .int .i64 k]) (by simp [results, Tryz.results42, go_sem]) rfl ?_
              exact .inr ⟨k, 7, hlt, HZ.out, HB.out, by decide, rfl, G.out⟩
      · obtain ⟨cd, hcd⟩ : ∃ cd, scS (S k) = cd := ⟨_, rfl⟩
        have hc0 : cd ≠ 0 := hcd ▸ hs
        have HC0 := Lib.hid hc0
        have HCD := Lib.hid hcd
        have HB := Lib.hid (show bdS S n k = cd from (bd_own (P := fun j => (S j).P) (Q := fun j => (S j).Q) (A := fun j => (S j).A) (n := n) hs).trans hcd)
        have t3 : ((cd : Int) != 0) = true := by simpa using hc0
        have t3' : ((cd : Int) == 0) = false := by simpa using hc0
        clear hs hcd hc0
        go_wp2_with fail
        refine (rstep_code sa lk HCD.out).mono ?_
        rintro e w2 ⟨rfl, b2⟩
        have G := Lib.hid (hb.trans (b2.mono hb.size))
        clear b2 q0 q1 q2 sa
        go_wp2
        refine bodyPost_ret (v := .tuple #[.slice none 0 0, .int .i64 cd, .int .i64 k]) (by simp [results, Tryz.results42, go_sem]) rfl ?_
        exact .inr ⟨k, cd, hlt, HZ.out, HB.out, HC0.out, rfl, G.out⟩
    · obtain rfl : k = n := by omega
      obtain ⟨b', off', hbo, hb1, hcl⟩ := hr.ex (by omega)
      simp only [Option.some.injEq, Addr.mk.injEq, and_true] at hbo
      obtain ⟨rfl, rfl⟩ := hbo
      have q0 := (hcl 0 (by omega)).c0
      simp only [Nat.zero_mul, Nat.add_zero] at q0
      have sa := hr.at_ 0 (by omega)
      have lk := HL.out 0 (by omega)
      clear hcl
      go_wp2_with fail
      refine (of_nm sa.p lk.1).mono ?_
      rintro e w2 ⟨B2, m2, d2, rfl, k2, b2⟩
      have gb := hb.trans (b2.mono hb.size)
      have lm2 : m2 ≤ 4000 := by
        rw [k2.len_]
        have := sa.p.dl_le
        have := dr_le k2.pos (Nat.le_trans this lk.1)
        omega
      clear b2 q0
      go_wp2_with fail
      refine (to_cn k2 (by omega)).mono ?_
      rintro e w3 ⟨B3, m3, d3, rfl, k3, b3⟩
      have G := Lib.hid (gb.trans (b3.mono gb.size))
      have K3 := Lib.hid k3
      clear b3 gb k2 k3 sa
      go_wp2
      refine bodyPost_ret (v := .tuple #[.slice B3 m3 d3, .int .i64 0, .int .i64 (-1)]) (by simp [results, Tryz.results42, go_sem]) rfl ?_
      exact .inl ⟨HZ.out, _, _, _, rfl, K3.out, G.out⟩
end Go.Proofs.YtjalncdllegfoaaGreatDoor
/-
  What the document's New answers of a group that is right.
-/
namespace Go.Proofs.YtjalncdllegfoaaGreatDoor
open Go.RowKit
set_option linter.unusedVariables false
/-- A slice doesn't lie in block b. -/
def Off (A : Option Addr) (b : Nat) : Prop := ∀ a, A = some a → a.block ≠ b
theorem Rn.off {w : World} {A : Option Addr} {n c m i : Nat} {N : Int} (h : Rn w A n c N) (hne : Off A m) (u : Value) : Rn (w.setCell ⟨m, i, none⟩ u) A n c N :=
  ⟨h.rd.grown (grown_setCell (World.grownBy.refl w (some m)) i u) hne, h.nc, h.n60, h.pos⟩
theorem Rn.npos {w : World} {A : Option Addr} {n c : Nat} {N : Int} (h : Rn w A n c N) (hN : 0 < N) : 0 < n := by
  have := dg_nil_iff D_two h.pos
  have h2 : dr N ≠ 0 := fun e => by have := this.1 e; omega
  have := h.len_
  omega
theorem Rn.lt {w : World} {A : Option Addr} {n c : Nat} {N : Int} (h : Rn w A n c N) (hN : 0 < N) : ∀ a, A = some a → a.block < w.heap.size := fun a ha => by
  obtain ⟨b, off, e, hb, -⟩ := h.rd.cells (h.npos hN)
  rw [e] at ha
  injection ha with ha
  subst ha
  exact hb
theorem off_x {w : World} {b : Nat} {a0 a1 a2 : Option Addr} {n0 c0 n1 c1 n2 c2 : Nat} {k : Int} {t : TypeId} (hx : w.heap[b]? = some (.cells #[.slice a0 n0 c0, .slice a1 n1 c1, .slice a2 n2 c2, .int .i64 k] t (0, 0))) {A : Option Addr} {n c : Nat} {N : Int} (h : Rn w A n c N) (k0 : 0 ≤ k) (hN : k < N) : Off A b := by
  intro a ha hb
  have hn := h.npos (by omega)
  obtain ⟨b', off, x, e, hlt, hx0, hc⟩ := h.rd.at_ (j := 0) hn
  rw [e] at ha
  injection ha with ha
  subst ha
  simp only at hb
  subst hb
  rw [cell_of_row w b' (off + 0) _ t (0, 0) hx, Nat.add_zero] at hc
  match off, hc with
  | 0, hc => simp at hc
  | 1, hc => simp at hc
  | 2, hc => simp at hc
  | 3, hc =>
    have hxk : k = x := by simpa using hc
    rcases Nat.lt_or_ge 1 n with g | g
    · obtain ⟨b2, off2, x2, e2, -, -, hc2⟩ := h.rd.at_ (j := 1) g
      rw [e] at e2
      injection e2 with e2
      injection e2 with e3 e4
      subst e3 e4
      rw [cell_of_row w b' (3 + 1) _ t (0, 0) hx] at hc2
      simp at hc2
    · have hl := h.rd.len
      have e1 : dg D N = [x] := by
        match hd : dg D N, hl, hx0 with
        | [y], _, hx0 => simp at hx0; rw [hx0]
        | [], hl, _ => simp at hl; omega
        | y :: z :: r, hl, _ => simp at hl; omega
      have h2 := val_dg D_two h.pos
      rw [e1] at h2
      have h3 : val D [x] = x := by simp [val]
      omega
  | off + 4, hc => simp at hc
theorem sz_end {Q : Int} {k : Nat} (hq : 1 ≤ Q) (h : 256 ^ k ≤ Q) (h' : Q < 256 ^ (k + 1)) : sz Q = k := by
  have a := nb_to_pow (x := Q) (n := k) (by omega)
  have b := nb_to_pow (x := Q) (n := k + 1) (by omega)
  have b' := b.2 h'
  have a' : ¬ nb Q ≤ 8 * k := fun g => by have := a.1 g; omega
  unfold sz
  omega
/-- What is laid when both numbers are turned. -/
def RnC (P G : Int) (w : World) (p : Value) (wx : World) : Prop :=
  ∃ wv bX AP nP cP AG nG cG, wv = wx ∧ p = .pointer (some ⟨bX, 0, none⟩) ∧ wv.heap[bX]? = some (.cells #[.slice AP nP cP, .slice none 0 0, .slice AG nG cG, .int .i64 0] 75 (0, 0)) ∧ Rn wv AP nP cP P ∧ Rn wv AG nG cG G ∧ Off AP bX ∧ Off AG bX ∧ Below w.heap.size w wv ∧ w.heap.size ≤ bX
/-- How the size is found. -/
def SzR (Q : Int) (bX : Nat) (r : Rgd) (w : World) (p : Value) (wr : World) : Prop :=
  ∃ (k : Nat) (A : Option Addr) (n c : Nat), p = .slice A n c ∧ Rn wr A n c (256 ^ (k + 1)) ∧ Rg wr bX r k ∧ 256 ^ k ≤ Q ∧ Below w.heap.size w wr
/-- The size so far. -/
def szAt (bX : Nat) (wr : World) : Nat := match wr.cell? ⟨bX, 3, none⟩ with | some (.int _ v) => v.toNat | _ => 0
theorem szAt_rg {wr : World} {bX k : Nat} {r : Rgd} (h : Rg wr bX r k) : szAt bX wr = k := by unfold szAt; rw [h.c3]; simp
theorem k480 {Q : Int} {k : Nat} (hq : 1 ≤ Q) (hd : dl Q ≤ 60) (h : 256 ^ k ≤ Q) : k < 480 := by
  have h1 := (nb_dl (N := Q) (by omega) 60).2 hd
  refine Nat.not_le.1 fun g => ?_
  have := (nb_to_pow (x := Q) (n := k) (by omega)).1 (by omega)
  omega
/-- No group of the document, an error's number, its place. -/
def RNErr (c k : Int) (w : World) (e : Ending) (w' : World) : Prop :=
  e = .returned (.tuple #[.pointer none, .int .i64 c, .int .i64 k]) ∧ Below w.heap.size w w'
/-- The document's group was answered. -/
def RNewP (P Q G : Int) (w : World) (e : Ending) (w' : World) : Prop :=
  ∃ b r, e = .returned (.tuple #[.pointer (some ⟨b, 0, none⟩), .int .i64 0, .int .i64 (-1)]) ∧ Rg w' b r (sz Q) ∧ r.P = P ∧ r.Q = Q ∧ r.G = G ∧ Below w.heap.size w w'
theorem pow256_len {k : Nat} {Q : Int} (h : 256 ^ k ≤ Q) : dr (256 ^ (k + 1) : Int) ≤ dr Q + 1 := by
  have hp : (0 : Int) ≤ 256 ^ k := Int.le_of_lt (Int.pow_pos (by decide))
  have h1 := dr_mul (N := 256 ^ k) (M := 256) hp (by decide)
  have h2 : dr 256 = 1 := by unfold dr; rw [dgD_one (by decide) (by decide)]; rfl
  have h3 := dr_mono hp h
  rw [Int.pow_succ]
  omega
theorem k_small {k : Nat} : (k : Int) < 256 ^ (k + 1) := by
  have : k < 256 ^ (k + 1) := Nat.lt_trans (Nat.lt_succ_self k) (Nat.lt_pow_self (by decide))
  have e : ((256 ^ (k + 1) : Nat) : Int) = (256 : Int) ^ (k + 1) := by simp
  omega
theorem row_set1 {w : World} {b : Nat} {v0 v1 v2 v3 : Value} {t : TypeId} (h : w.heap[b]? = some (.cells #[v0, v1, v2, v3] t (0, 0))) (u : Value) : (w.setCell ⟨b, 1, none⟩ u).heap[b]? = some (.cells #[v0, u, v2, v3] t (0, 0)) := by
  simp [World.setCell, Array.getElem?_modify, h]
theorem row_set3 {w : World} {b : Nat} {v0 v1 v2 v3 : Value} {t : TypeId} (h : w.heap[b]? = some (.cells #[v0, v1, v2, v3] t (0, 0))) (u : Value) : (w.setCell ⟨b, 3, none⟩ u).heap[b]? = some (.cells #[v0, v1, v2, u] t (0, 0)) := by
  simp [World.setCell, Array.getElem?_modify, h]
set_option maxHeartbeats 8000000 in
set_option maxRecDepth 100000 in
theorem rnew_gen {w : World} {Ag : Option Addr} {ng cg : Nat} {G : Int} {bc off n c : Nat} {S : Nat → Stp} (hg : Nm w Ag ng cg G) (lg : ng ≤ 300) (hch : Ch w (some ⟨bc, off, none⟩) n c S) (h1 : 1 ≤ n) (h64 : n ≤ 64) (hl : ∀ i, i < n → (S i).n1 ≤ 60 ∧ (S i).n2 ≤ 60 ∧ (S i).n3 ≤ 60)
    (good : ∀ i, i < n → bdS S n i = 0) (safe : Safe (S 0).P (S 0).Q) (el : El (S 0).P (S 0).Q G) (g1 : G ≠ 1) :
    Calls Tryz.prog 17 #[.agg #[.slice Ag ng cg, .slice (some ⟨bc, off, none⟩) n c]] w (fun e w' => (9 ≤ nb (S 0).Q ∧ RNewP (S 0).P (S 0).Q G w e w') ∨ (nb (S 0).Q < 9 ∧ RNErr 14 (-1) w e w')) := by
  have G1 : 1 ≤ G := el.1
  have dP : dl (S 0).P ≤ 60 := by have := (hch.at_ 0 (by omega)).p.dl_le; have := (hl 0 (by omega)).1; omega
  have dG : dl G ≤ 64 := by have := dl_mono (N := G) (M := (S 0).P) (by omega) (by have := el.2.1; omega); omega
  have l2 : (S 0).n2 ≤ 1000 := by have := (hl 0 (by omega)).2.1; omega
  have pq := safe.pq
  have q3 := safe.q3
  have rP := dr_le (N := (S 0).P) (by omega) dP
  have rQ : dr (S 0).Q ≤ 240 := Nat.le_trans (dr_mono (N := (S 0).Q) (M := (S 0).P) (by omega) (by omega)) rP
  have rG : dr G ≤ 240 := Nat.le_trans (dr_mono (N := G) (M := (S 0).P) (by omega) (by have := el.2.1; omega)) rP
  have bx := Bx.new w Ag ng cg (some ⟨bc, off, none⟩) n c
  have ba := below_al w (.cells #[.slice Ag ng cg, .slice (some ⟨bc, off, none⟩) n c] 52)
  have GOOD := Lib.hid good
  have SAFE := Lib.hid safe
  have EL := Lib.hid el
  have HG1 := Lib.hid g1
  have HCH := Lib.hid (hch.below ba)
  have HG := Lib.hid (hg.below ba)
  have BA := Lib.hid ba
  have BX := Lib.hid bx
  have HL : Hid (∀ i, i < n → (S i).n1 ≤ 1000 ∧ (S i).n2 ≤ 1000 ∧ (S i).n3 ≤ 1000) := Lib.hid fun i hi => by have := hl i hi; omega
  have half : (S 0).P / 2 = (S 0).Q := by omega
  have HALF := Lib.hid half
  have PQ := Lib.hid pq
  have Q3 := Lib.hid q3
  clear good safe el g1 hg ba bx hl pq half q3
  go_enter Tryz.func17, Tryz.ntmps17
  go_wp2_with fail
  refine (rchk_any HCH.out h1 h64 HL.out).mono ?_
  rintro e w1 (⟨-, B1, m1, d1, rfl, k1, b1⟩ | ⟨k, cd, hk, -, hbd, hc0, -⟩)
  · have bx1 := BX.out.below b1
    have ch1 := HCH.out.below b1
    have b01 := BA.out.trans (b1.mono BA.out.size)
    have hg1 := HG.out.below b1
    have m1l : m1 ≤ 1000 := by have := k1.len_; omega
    have CH1 := Lib.hid ch1
    have BX1 := Lib.hid bx1
    have B01 := Lib.hid b01
    have HGW := Lib.hid hg1
    clear b1 ch1 BX HCH BA b01 HG
    go_upto_region 4 with fail
    go_cut [8] (fun p wx => RnC (S 0).P G w1 p wx)
    case first =>
      have bd := below_dr w1
      have KP := Lib.hid (k1.nm.below bd)
      have KG' := Lib.hid (hg1.below bd)
      have BD := Lib.hid bd
      have q0 := bx1.c0
      have LT := Lib.hid bx1.lt
      clear bd hg1 bx1
      go_wp2_with fail
      go_region_with (go_at_call 25; (first
        | ((with_reducible refine (of_nm KP.out m1l).mono ?_); rintro e w2 ⟨BP, nP, cP, rfl, kP, bP⟩; have HG2 := Lib.hid (KG'.out.below bP); have q2 := (bP.cell (p := ⟨w.heap.size, 0, none⟩) LT.out).trans q0)
        | ((with_reducible refine (of_nm HG2.out (by omega)).mono ?_); rintro e w3 ⟨BG, nG, cG, rfl, kG, bG⟩; have kP := kP.below bG; have b3 := bP.trans (bG.mono bP.size))
        | ((with_reducible refine (of_nm KG'.out (by omega)).mono ?_); rintro e w2 ⟨BG, nG, cG, rfl, kG, bG⟩; have HP2 := Lib.hid (KP.out.below bG))
        | ((with_reducible refine (of_nm HP2.out m1l).mono ?_); rintro e w3 ⟨BP, nP, cP, rfl, kP, bP⟩; have kG := kG.below bP; have b3 := bG.trans (bP.mono bG.size))))
      all_goals
        have s3 : w1.heap.size ≤ w3.heap.size := b3.size
        have p0 : 0 < (S 0).P := by have := PQ.out; have := Q3.out; omega
        have oP : Off BP w3.heap.size := fun a ha => by have := kP.lt p0 a ha; omega
        have oG : Off BG w3.heap.size := fun a ha => by have := kG.lt (by omega) a ha; omega
        have bl := below_al w3 (.cells #[.slice BP nP cP, .slice none 0 0, .slice BG nG cG, .int .i64 0] 75)
        have b4 := BD.out.trans (b3.mono BD.out.size)
        go_wp2_with fail
        go_meet
        exact ⟨_, w3.heap.size, BP, nP, cP, BG, nG, cG, rfl, rfl, heap_alloc_new w3 _, kP.below bl, kG.below bl, oP, oG, b4.trans (bl.mono b4.size), s3⟩
    case rest =>
      obtain ⟨w2, bX, AP, nP, cP, AG, nG, cG, rfl, rfl, hrow, kP, kG, oP, oG, b12, sX⟩ := hcut
      have bXlt : bX < w2.heap.size := (Array.getElem?_eq_some_iff.1 hrow).1
      have nPl : nP ≤ 1000 := by have := kP.len_; omega
      have q0 : 0 < (S 0).Q := by have := Q3.out; omega
      have L2 := Lib.hid (rlit w2 (x := 2) (by decide) (by decide))
      have KP2 := Lib.hid (kP.below (below_al w2 (.cells #[.int .i64 2] 3)))
      have c0 : w2.cell? ⟨bX, 0, none⟩ = some (.slice AP nP cP) := cell_of_row w2 bX 0 _ _ (0, 0) hrow
      have HR := Lib.hid hrow
      have KP := Lib.hid kP
      have KG2 := Lib.hid kG
      have OP := Lib.hid oP
      have OG := Lib.hid oG
      have B12 := Lib.hid b12
      have SX := Lib.hid sX
      have BXL := Lib.hid bXlt
      clear hrow kP kG oP oG b12 sX bXlt
      go_wp2_with fail
      refine (rdiv_any KP2.out L2.out nPl (by decide) (by decide)).mono ?_
      rintro e w3 ⟨B3, m3, d3, B3', m3', d3', rfl, kQ, -, b3⟩
      rw [HALF.out] at kQ
      have b23 := below_one b3
      have hrow3 := (b23.block bX BXL.out).trans HR.out
      have oQ : Off B3 bX := off_x hrow3 kQ (by decide) q0
      have row4 := row_set1 hrow3 (.slice B3 m3 d3)
      have rg : Rg (w3.setCell ⟨bX, 1, none⟩ (.slice B3 m3 d3)) bX ⟨AP, nP, cP, B3, m3, d3, AG, nG, cG, (S 0).P, (S 0).Q, G⟩ 0 :=
        ⟨row4, (KP.out.below b23).off OP.out _, kQ.off oQ _, (KG2.out.below b23).off OG.out _⟩
      have b13 := B12.out.trans (b23.mono B12.out.size)
      have b14 : Below w1.heap.size w1 (w3.setCell ⟨bX, 1, none⟩ (.slice B3 m3 d3)) := b13.setCell (p := ⟨bX, 1, none⟩) SX.out _
      have bx4 := BX1.out.below b14
      have ch4 := CH1.out.below b14
      obtain ⟨b', off', hbo, hb0, hcl⟩ := ch4.ex (by omega)
      simp only [Option.some.injEq, Addr.mk.injEq, and_true] at hbo
      obtain ⟨rfl, rfl⟩ := hbo
      have cq := (hcl 0 (by omega)).c1
      rw [Nat.zero_mul, Nat.add_zero] at cq
      have q1 := bx4.c1_
      have sq := (ch4.at_ 0 (by omega)).q
      have n0 : 0 < n := by omega
      have c1 : w3.cell? ⟨bX, 1, none⟩ = some (.slice none 0 0) := cell_of_row w3 bX 1 _ _ (0, 0) hrow3
      have f1 := frozen_of_row w3 bX 1 _ _ hrow3
      have RG := Lib.hid rg
      have B14 := Lib.hid b14
      have OQ := Lib.hid oQ
      clear hcl hb0 kQ b3 b23 hrow3 oQ row4 rg b13 b14 bx4 ch4 L2 KP2 c0 KP KG2 HR B12
      have t1 : ((cmpI (S 0).Q (S 0).Q : Int) != 0) = false := by rw [cmpI_eq]; rfl
      have t2 : decide (cmpI (S 0).Q 2 ≤ 0) = false := by simp; rw [cmpI_gt (show 2 < (S 0).Q by have := Q3.out; omega)]; decide
      have t3 : decide ((dl G : Int) ≤ 64) = true := by simp; omega
      have t4 : ((cmpI G 1 : Int) == 0) = false := by
        rcases Int.lt_or_gt_of_ne HG1.out with k | k
        · rw [cmpI_lt k]; rfl
        · rw [cmpI_gt k]; rfl
      go_wp2_with fail
      refine (of_nm sq (by omega)).mono ?_
      rintro e w5 ⟨B5, m5, d5, rfl, k5, b5⟩
      have rg5 := RG.out.below b5
      have b15 := B14.out.trans (b5.mono B14.out.size)
      have c1 := rg5.c1
      have m5l : m5 ≤ 1000 := by have := k5.len_; omega
      have m3l : m3 ≤ 300 := by have := rg5.q.len_; simp only at this; omega
      clear b5 RG B14 q1 cq sq f1
      go_wp2_with fail
      refine (rcmp_v rg5.q k5 (by show m3 ≤ _; omega) (by omega)).mono ?_
      rintro e w6 ⟨rfl, b6⟩
      have rg6 := rg5.below b6
      have b16 := b15.trans (b6.mono b15.size)
      have L2 := Lib.hid (rlit w6 (x := 2) (by decide) (by decide))
      have KQ := Lib.hid (rg6.q.below (below_al w6 (.cells #[.int .i64 2] 3)))
      clear b6 rg5 b15 c1 k5
      go_wp2_with fail
      refine (rcmp_v KQ.out L2.out (by show m3 ≤ _; omega) (by omega)).mono ?_
      rintro e w7 ⟨rfl, b7⟩
      have b67 := below_one b7
      have rg7 := rg6.below b67
      have b17 := b16.trans (b67.mono b16.size)
      have bx7 := BX1.out.below b17
      have x0 := bx7.c0
      have hg7 := HGW.out.below b17
      clear b7 b67 b16 rg6 L2 KQ
      go_wp2_with fail
      refine (Limbs_nm hg7).mono ?_
      rintro e w8 ⟨rfl, rfl⟩
      have x2 := rg7.c2
      clear x0 hg7 bx7
      have nGl : nG ≤ 300 := by have := rg7.g.len_; simp only at this; omega
      have nPl' : nP ≤ 300 := by have := rg7.p.len_; simp only at this; omega
      go_wp2_with fail
      refine (ris_any rg7 rg7.g nGl nPl' m3l true ⟨fun _ => EL.out, fun _ => rfl⟩).mono ?_
      rintro e w8 ⟨rfl, b8⟩
      have rg8 := rg7.below b8
      have b18 := b17.trans (b8.mono b17.size)
      obtain ⟨r, hr⟩ : ∃ r : Rgd, r = ⟨AP, nP, cP, B3, m3, d3, AG, nG, cG, (S 0).P, (S 0).Q, G⟩ := ⟨_, rfl⟩
      have HRr := Lib.hid hr
      have RG8 : Hid (Rg w8 bX r 0) := Lib.hid (by rw [hr]; exact rg8)
      have OFF : Hid (Off r.AP bX ∧ Off r.AQ bX ∧ Off r.AG bX) := Lib.hid (by rw [hr]; exact ⟨OP.out, OQ.out, OG.out⟩)
      have HQr : r.Q = (S 0).Q := by rw [hr]
      have HQR := Lib.hid HQr
      have hrq : r.nQ ≤ 300 := by rw [hr]; exact m3l
      have WB : Hid (w.heap.size ≤ bX) := Lib.hid (by have := B01.out.size; have := SX.out; omega)
      have lQ : dl (S 0).Q ≤ 60 := Nat.le_trans (dl_mono (N := (S 0).Q) (M := (S 0).P) (by omega) (by have := PQ.out; omega)) dP
      have LQ := Lib.hid lQ
      have PW0 : Hid ((256 : Int) ^ (0 + 1) = 256) := Lib.hid (by decide)
      have y2 := rg8.c2
      have LT := Lib.hid rg8.lt
      have BD := Lib.hid (below_dr w8)
      have KG8 := Lib.hid (rg8.g.below (below_dr w8))
      have B08 := Lib.hid (B01.out.trans (b18.mono B01.out.size))
      clear x2 b8 rg7 b17 rg8 b18 hr HQr lQ OP OQ OG
      go_upto_region 10 with fail
      go_cut [81] (fun p wx => p = .bool false ∧ ∃ wv, wv = wx ∧ Rg wv bX r 0 ∧ Below w.heap.size w wv)
      case first =>
        go_wp2_with fail
        go_region_held3 (fun w' => w'.cell? ⟨bX, 2, none⟩ = some (.slice AG nG cG)) (first | exact y2 | exact z2 | exact u2 | go_keep | assumption)
          (first
          | (go_at_call 45; (refine (rone_any w8.drew).mono ?_; rintro e w9 ⟨BO, nO, cO, rfl, kO, bO⟩; have hnO : nO ≤ 300 := (by have h1 := kO.len_; have h2 : dr 1 = 1 := (by unfold dr; rw [dgD_one (by decide) (by decide)]; rfl); omega); have KG9 := Lib.hid (KG8.out.below bO); have z2 := (bO.cell (p := ⟨bX, 2, none⟩) LT.out).trans y2))
          | (go_at_call 44; (refine (rcmp_v KG9.out kO (by omega) (by omega)).mono ?_; rintro e w10 ⟨rfl, b10⟩; have u2 := (b10.cell (p := ⟨bX, 2, none⟩) (Nat.lt_of_lt_of_le LT.out bO.size)).trans z2)))
        all_goals
          have b910 := BD.out.trans ((bO.trans (b10.mono bO.size)).mono BD.out.size)
          have RG10 := Lib.hid (RG8.out.below b910)
          have B10 := Lib.hid (B08.out.trans (b910.mono B08.out.size))
          clear b910 u2 z2 y2 kO bO b10
          go_wp2_with fail
          go_meet
          exact ⟨rfl, _, rfl, RG10.out, B10.out⟩
      case rest =>
        obtain ⟨rfl, w10, rfl, rg10, b10⟩ := hcut
        have RGr := Lib.hid rg10
        have B0 := Lib.hid b10
        clear rg10 b10 y2 KG8 BD RG8 B08 c1 bx1 hg1 k1 t1 t2 t3 t4 hch nPl nPl' nGl m3l m5l m1l
        go_wp2_with fail
        go_loopw [12] (fun p wr => SzR (S 0).Q bX r w p wr) (fun _ wr => (S 0).Q.toNat - szAt bX wr)
        case atStart =>
          refine ⟨0, _, _, _, rfl, ?_, RGr.out.below (below_al _ _), by have := Q3.out; simp; omega, B0.out.trans ((below_al _ _).mono B0.out.size)⟩
          rw [PW0.out]
          exact rlit w10 (by decide) (by decide)
        case round =>
          obtain ⟨k, A, nA, cA, rfl, kA, rg, hk, hb⟩ := hrel
          have k48 := k480 (Q := (S 0).Q) (by omega) LQ.out hk
          have kS := k_small (k := k)
          have pl := pow256_len hk
          have nAl : nA ≤ 300 := by have := kA.len_; omega
          have hsz := szAt_rg rg
          have c1 := rg.c1
          have HPS : Hid ((256 : Int) ^ (k + 1 + 1) = 256 ^ (k + 1) * 256) := Lib.hid (Int.pow_succ _ _)
          have HSE : Hid ((S 0).Q < 256 ^ (k + 1) → sz (S 0).Q = k) := Lib.hid (sz_end (by omega) hk)
          have HK := Lib.hid hk
          have HSZ := Lib.hid hsz
          obtain ⟨PW, hPW⟩ : ∃ PW, (256 : Int) ^ (k + 1) = PW := ⟨_, rfl⟩
          rw [hPW] at kA kS HPS HSE
          have HPW := Lib.hid hPW
          have HB := Lib.hid hb
          have KS := Lib.hid kS
          clear hPW hk hsz pl hb kS
          rcases Int.lt_or_le (S 0).Q PW with g | g
          · have t1 : decide (cmpI PW r.Q ≤ 0) = false := by rw [HQR.out]; simp; rw [cmpI_gt g]; decide
            have hs : Hid (sz (S 0).Q = k) := Lib.hid (HSE.out g)
            clear g
            go_wp2_with fail
            refine (rcmp_v kA rg.q (by omega) (by omega)).mono ?_
            rintro e w1' ⟨rfl, b1'⟩
            have rg1 := rg.below b1'
            have c3 := rg1.c3
            have RGE := Lib.hid rg1
            have BE := Lib.hid (HB.out.trans (b1'.mono HB.out.size))
            clear c1 rg b1' kA rg1
            rcases Nat.eq_zero_or_pos k with k0 | k0
            · have SM : Hid (nb (S 0).Q < 9) := Lib.hid (by have := hs.out; unfold sz at this; omega)
              have t2 : ((k : Int) == 0) = true := by simp; omega
              have t2' : (k == 0) = true := by simp; omega
              clear k0
              go_wp2
              go_ret3
              exact .inr ⟨SM.out, rfl, BE.out⟩
            · have BG : Hid (9 ≤ nb (S 0).Q) := Lib.hid (by have := hs.out; unfold sz at this; omega)
              have t2 : ((k : Int) == 0) = false := by simp; omega
              have t2' : (k == 0) = false := by simp; omega
              clear k0
              go_wp2
              go_ret3
              exact .inl ⟨BG.out, bX, r, rfl, by rw [hs.out]; exact RGE.out, by rw [HRr.out], by rw [HRr.out], by rw [HRr.out], BE.out⟩
          · have t1 : decide (cmpI PW r.Q ≤ 0) = true := by
              rw [HQR.out]; simp
              rcases Int.lt_or_eq_of_le g with g' | g'
              · rw [cmpI_lt g']; decide
              · rw [g', cmpI_eq]; decide
            have GE := Lib.hid g
            clear g
            go_wp2_with fail
            refine (rcmp_v kA rg.q (by omega) (by omega)).mono ?_
            rintro e w1' ⟨rfl, b1'⟩
            have rg1 := rg.below b1'
            have kA1 := kA.below b1'
            have c3 := rg1.c3
            have f3 := frozen_of_row w1' bX 3 _ _ rg1.row
            have hwk : IntKind.i64.wrap ((k : Int) + 1) = (k : Int) + 1 := IntWalk.i64_in _ (by omega)
            have row2 := row_set3 rg1.row (.int .i64 ((k : Int) + 1))
            have oA : Off A bX := off_x rg1.row kA1 (by omega) KS.out
            have ek : ((k + 1 : Nat) : Int) = (k : Int) + 1 := by omega
            have rg2 : Rg (w1'.setCell ⟨bX, 3, none⟩ (.int .i64 ((k : Int) + 1))) bX r (k + 1) :=
              ⟨by unfold Rgd.cells; rw [ek]; exact row2, rg1.p.off OFF.out.1 _, rg1.q.off OFF.out.2.1 _, rg1.g.off OFF.out.2.2 _⟩
            have b01' := HB.out.trans (b1'.mono HB.out.size)
            have b02' := b01'.setCell (p := ⟨bX, 3, none⟩) WB.out (.int .i64 ((k : Int) + 1))
            have bal := below_al (w1'.setCell ⟨bX, 3, none⟩ (.int .i64 ((k : Int) + 1))) (.cells #[.int .i64 256] 3)
            have KA3 := Lib.hid ((kA1.off oA (.int .i64 ((k : Int) + 1))).below bal)
            have l3 := rlit (w1'.setCell ⟨bX, 3, none⟩ (.int .i64 ((k : Int) + 1))) (x := 256) (by decide) (by decide)
            have s3 : (w1'.setCell ⟨bX, 3, none⟩ (.int .i64 ((k : Int) + 1))).heap.size = w1'.heap.size := by simp
            rw [s3] at l3
            have L3 := Lib.hid l3
            clear l3 s3
            have RG3 := Lib.hid (rg2.below bal)
            have B03 := Lib.hid (b02'.trans (bal.mono b02'.size))
            clear ek row2 oA rg2 b01' b02' bal kA kA1 rg b1' rg1 c1
            go_wp2_with fail
            refine (rmul_any KA3.out L3.out (by omega) (by omega)).mono ?_
            rintro e w4' ⟨B4, m4, d4, rfl, k4, b4⟩
            have rg4 := RG3.out.below b4
            have b04 := B03.out.trans (b4.mono B03.out.size)
            have RG4 := Lib.hid rg4
            have B04 := Lib.hid b04
            have K4 := Lib.hid k4
            have SZ4 := Lib.hid (szAt_rg rg4)
            clear rg4 b04 b4 k4 c3 f3
            go_wp2
            go_roundw
            case rel => exact ⟨k + 1, _, _, _, rfl, by rw [HPS.out]; exact K4.out, RG4.out, by rw [HPW.out]; exact GE.out, B04.out⟩
            case measure => rw [SZ4.out, HSZ.out]; have := GE.out; have := KS.out; omega
  · exact absurd (hbd.symm.trans (GOOD.out k hk)) hc0
/-- The document's New, of a group that is right. -/
theorem rnew_any {w : World} {Ag : Option Addr} {ng cg : Nat} {G : Int} {bc off n c : Nat} {S : Nat → Stp} (hg : Nm w Ag ng cg G) (lg : ng ≤ 300) (hch : Ch w (some ⟨bc, off, none⟩) n c S) (h1 : 1 ≤ n) (h64 : n ≤ 64) (hl : ∀ i, i < n → (S i).n1 ≤ 60 ∧ (S i).n2 ≤ 60 ∧ (S i).n3 ≤ 60)
    (good : ∀ i, i < n → bdS S n i = 0) (safe : Safe (S 0).P (S 0).Q) (el : El (S 0).P (S 0).Q G) (g1 : G ≠ 1) (big : 9 ≤ nb (S 0).Q) :
    Calls Tryz.prog 17 #[.agg #[.slice Ag ng cg, .slice (some ⟨bc, off, none⟩) n c]] w (RNewP (S 0).P (S 0).Q G w) :=
  (rnew_gen hg lg hch h1 h64 hl good safe el g1).mono fun e w' h => h.elim (fun h => h.2) (fun h => absurd h.1 (by omega))
end Go.Proofs.YtjalncdllegfoaaGreatDoor
/-
  The document's New of a known group; known: one of the groups, by the program and by the document; short.
-/
namespace Go.Proofs.YtjalncdllegfoaaGreatDoor
open Go.RowKit
set_option linter.unusedVariables false
theorem kg_rnew {k m : Nat} {w : World} {A : Option Addr} {n c : Nat} {A' : Option Addr} {n' c' : Nat} (hk : k < 11) (h : KG k m w A n c A' n' c') :
    Calls Tryz.prog 17 #[.agg #[.slice A n c, .slice A' n' c']] w (RNewP (kP k) (kQ k) 4 w) := by
  obtain ⟨⟨g, rfl, -, rfl, rfl, hr⟩, S, hch, hn, hS, -, -⟩ := h
  obtain ⟨sf, el, l1, l64⟩ := k_safe hk
  obtain ⟨bc, off, rfl, -, -⟩ := hch.ex (by omega)
  have e0 := hS 0 (by omega)
  have eP : (S 0).P = kP k := e0.1
  have eQ : (S 0).Q = kQ k := e0.2.1
  have good : ∀ i, i < n' → bdS S n' i = 0 := fun i hi => by
    have h1 := known_all k hk i (by omega)
    rw [← hn] at h1
    exact bd_move hi (fun j hj => ⟨(hS j hj).1, (hS j hj).2.1, (hS j hj).2.2.1⟩) h1
  have := rnew_any (S := S) (G := 4) (Nm.one hr (by decide) (by decide) (Nat.le_refl _) (by omega)) (by omega) hch (by omega) (by omega) (fun i hi => by have := hS i hi; omega) good (by rw [eP, eQ]; exact sf) (by rw [eP, eQ]; exact el) (by decide) (by rw [eQ]; exact (kq_big hk).1)
  rw [eP, eQ] at this
  exact this
/-- One of the groups, by the program and by the document. -/
def KnP2 (w : World) (e : Ending) (w' : World) : Prop :=
  ∃ b d b' r, e = .returned (.tuple #[.pointer (some ⟨b, 0, none⟩), .pointer (some ⟨b', 0, none⟩)]) ∧ Gr w' b d ∧ Rg w' b' r (sz d.Q) ∧ r.P = d.P ∧ r.Q = d.Q ∧ r.nP ≤ 300 ∧ r.nQ ≤ 300 ∧ Below w.heap.size w w'
theorem Told.take {w : World} {A : Option Addr} {n c : Nat} {xs : List Int} (h : Told w A n c xs) {m : Nat} (hm : m ≤ n) : Told w A m c (xs.take m) :=
  ⟨h.rd.take hm, fun x hx => h.dig_ x (List.mem_of_mem_take hx), by have := h.nc; omega, by have := h.c60; omega⟩
end Go.Proofs.YtjalncdllegfoaaGreatDoor
/-
  Layer 8's known and light: one of the groups, by the program and by the document; numbers that the document's way bears.
-/
namespace Go.Proofs.YtjalncdllegfoaaGreatDoor
open Go.RowKit
set_option linter.unusedVariables false
/-- One of the groups, by the program and by the document. -/
def KnP8 (w : World) (e : Ending) (w' : World) : Prop :=
  ∃ b d b' r, e = .returned (.tuple #[.pointer (some ⟨b, 0, none⟩), .pointer (some ⟨b', 0, none⟩)]) ∧ Gr w' b d ∧ Rg8 w' b' (sz d.Q) r ∧ r.P = d.P ∧ r.Q = d.Q ∧ r.G = d.G ∧ Below w.heap.size w w'
/-- Numbers that the document's way bears. -/
def LiN (S : Nat → Nsl) (n : Nat) : Prop := ∀ i, i < n → Li (S i).n (S i).N
def LtR (S : Nat → Nsl) (n : Nat) (w : World) (i : Value) (wr : World) : Prop := ∃ k : Nat, k ≤ n ∧ i = .int .i64 k ∧ (∀ j, j < k → Li (S j).n (S j).N) ∧ w = wr
/-! ### pairs -/
end Go.Proofs.YtjalncdllegfoaaGreatDoor
/-
  Layer 10's known and light: one of the groups, by the program and by the document; numbers that the document's way bears.
-/
namespace Go.Proofs.YtjalncdllegfoaaGreatDoor
open Go.RowKit
set_option linter.unusedVariables false
set_option maxHeartbeats 4000000 in
theorem known10_any (i : Int) (hi : -9223372036854775808 ≤ i ∧ i ≤ 9223372036854775807) (w : World) :
    Calls Tryz.prog 6 #[.int .i64 i] w (KnP8 w) := by
  obtain ⟨z, hz⟩ : ∃ z : Int, (if i < 0 then -(i + 1) else i) = z := ⟨_, rfl⟩
  have z0 : 0 ≤ z ∧ z ≤ 9223372036854775807 := by rw [← hz]; split <;> omega
  have HZ := Lib.hid hz
  have Z0 := Lib.hid z0
  have HI := Lib.hid hi
  clear hz z0 hi
  go_enter Tryz.func6, Tryz.ntmps6
  go_upto_if 11 with fail
  go_cut [0] (fun v wx => v = .int .i64 z ∧ w = wx)
  case first =>
    rcases Int.lt_or_le i 0 with g3 | g3
    · have e3 : decide (i < 0) = true := by simp; omega
      have e4 : IntKind.i64.wrap (i + 1) = i + 1 := IntWalk.i64_in _ (by have := HI.out; omega)
      have e5 : IntKind.i64.wrap (-(i + 1)) = -(i + 1) := IntWalk.i64_in _ (by have := HI.out; omega)
      have E6 := Lib.hid (show -(i + 1) = z by rw [← HZ.out, if_pos g3])
      go_wp2_with fail
      go_meet
      exact ⟨by rw [E6.out], rfl⟩
    · have e3 : decide (i < 0) = false := by simp; omega
      have E6 := Lib.hid (show i = z by rw [← HZ.out, if_neg (by omega)])
      go_wp2_with fail
      go_meet
      exact ⟨by rw [E6.out], rfl⟩
  case rest =>
  obtain ⟨rfl, rfl⟩ := hcut
  obtain ⟨y, hy⟩ : ∃ y : Int, z % 6 = y := ⟨_, rfl⟩
  have y0 : 0 ≤ y ∧ y < 6 := by omega
  have z0 := Z0.out.1
  have e7 : z.tmod 6 = y := by rw [Int.tmod_eq_emod_of_nonneg z0]; exact hy
  have e8 : IntKind.i64.wrap y = y := IntWalk.i64_in _ (by omega)
  clear HZ Z0
  go_wp2_with fail
  clear e7 e8 hy z0
  with_reducible refine (known_any y (by omega) w).mono ?_
  rintro e w1 ⟨A, n, c, A', n', c', rfl, kg, b1⟩
  have bl := below_al w1 (.cells #[.slice A n c, .slice A' n' c'] 52)
  have bx := Bx.new w1 A n c A' n' c'
  have b2 := b1.trans (bl.mono b1.size)
  have KG2 := Lib.hid (kg.below bl)
  have BX := Lib.hid bx
  have B2 := Lib.hid b2
  clear b1 kg bl bx b2
  go_wp2_with fail
  refine (kg_new (kix_lt y) KG2.out).mono ?_
  rintro e w3 ⟨b, d, rfl, gr, hP, hQ, hG, b3, -, -⟩
  have bx3 := BX.out.below b3
  have x0 := bx3.c0
  have x1 := bx3.c1_
  have KG3 := Lib.hid (KG2.out.below b3)
  have B3 := Lib.hid (B2.out.trans (b3.mono B2.out.size))
  have GR := Lib.hid gr
  have HPQ := Lib.hid (And.intro hP (And.intro hQ hG))
  clear b3 bx3 KG2 B2 BX gr hP hQ hG
  go_wp2_with fail
  refine (kg_rnew (kix_lt y) KG3.out).mono ?_
  rintro e w4 ⟨b', r, rfl, rg, hP', hQ', hG', b4⟩
  have gr4 := GR.out.below b4
  have eP : r.P = d.P := hP'.trans HPQ.out.1.symm
  have eQ : r.Q = d.Q := hQ'.trans HPQ.out.2.1.symm
  have eG : r.G = d.G := hG'.trans HPQ.out.2.2.symm
  have rg4 : Rg w4 b' r (sz d.Q) := by rw [HPQ.out.2.1]; exact rg
  have l1 : r.nP ≤ 300 := by
    have h1 := rg4.p.len_
    have h2 := dr_le (N := d.P) (by have := gr4.safe.p2; omega) gr4.lp
    rw [eP] at h1; omega
  have l2 : r.nQ ≤ 300 := by
    have h1 := rg4.q.len_
    have h2 := dr_le (N := d.Q) (by have := gr4.safe.q3; omega) gr4.lq
    rw [eQ] at h1; omega
  have pw : r.P ≤ W ^ 64 := by
    rw [eP]
    exact Int.le_of_lt (lt_dl (by have := gr4.safe.p2; omega) (Nat.le_trans gr4.lp (by decide)))
  have nbp : nb r.P ≤ 4096 := by
    have h1 := nb_le (N := r.P) (by rw [eP]; have := gr4.safe.p2; omega)
    have h2 := gr4.lp
    rw [eP] at h1 ⊢
    omega
  have FIN : Hid (Gr w4 b d ∧ Rg8 w4 b' (sz d.Q) r ∧ r.P = d.P ∧ r.Q = d.Q ∧ r.G = d.G ∧ Below w.heap.size w w4) :=
    Lib.hid ⟨gr4, ⟨⟨rg4, l1, l2, by rw [eP, eQ]; exact gr4.safe, by rw [eP, eQ, eG]; exact gr4.el, pw⟩, nbp⟩, eP, eQ, eG, B3.out.trans (b4.mono B3.out.size)⟩
  clear nbp gr4 eP eQ eG rg4 l1 l2 pw b4 rg hP' hQ' hG' KG3 B3 GR HPQ x0 x1
  go_wp2
  go_ret2
  exact ⟨b, d, b', r, rfl, FIN.out⟩
set_option maxHeartbeats 4000000 in
theorem light10_any {w : World} {A : Option Addr} {n c : Nat} {S : Nat → Nsl} (hl : Ns w A n c S) : Calls Tryz.prog 7 #[.slice A n c] w fun e w' => (∃ s : Bool, e = .returned (.bool s) ∧ (s = true ↔ LiN S n)) ∧ w = w' := by
  have HL := Lib.hid hl
  have h60 := hl.c60
  clear hl
  go_enter Tryz.func7, Tryz.ntmps7
  go_wp2_with fail
  go_loopw [3] (fun i wr => LtR S n w i wr) (fun i _ => n - (intOf i).toNat)
  case atStart => exact ⟨0, Nat.zero_le _, rfl, fun j h => absurd h (Nat.not_lt_zero j), rfl⟩
  case round =>
    obtain ⟨k, hk, rfl, hz, rfl⟩ := hrel
    have HZ := Lib.hid hz
    clear hz
    rcases Nat.lt_or_ge k n with hlt | hge
    · have hkn : (k : Int) < (n : Int) := by omega
      obtain ⟨b, off, eA, hb, hc⟩ := HL.out.ex (by omega)
      subst eA
      have hck := hc k hlt
      have HN := Lib.hid (HL.out.at_ k hlt)
      have h6 := (HL.out.at_ k hlt).c60
      obtain ⟨s, hs⟩ : ∃ s, S k = s := ⟨_, rfl⟩
      have HSK := Lib.hid hs
      rw [hs] at hck HN h6
      obtain ⟨Aj, nj, cj, Nj⟩ := s
      simp only at hck HN h6
      obtain ⟨q, hq⟩ : ∃ q, dl Nj = q := ⟨_, rfl⟩
      have HQ := Lib.hid hq
      have q6 : q ≤ 17592186044416 := by have := HN.out.dl_le; omega
      clear hc hs hq
      have no : ¬ Li nj Nj → ¬ LiN S n := fun g e => by have h := e k hlt; rw [HSK.out] at h; exact g h
      have NO := Lib.hid no
      clear no
      go_wp2_with fail
      refine (Limbs_nm HN.out).mono ?_
      rintro e w1 ⟨rfl, rfl⟩
      rw [HQ.out]
      rcases Nat.lt_or_ge 300 nj with g | g
      · have e1 : decide ((300 : Int) < (nj : Int)) = true := by simp; omega
        go_wp2_with fail
        go_ret
        exact ⟨⟨false, rfl, fun h => (by cases h), fun h => absurd h (NO.out fun l => by have := l.1; omega)⟩, rfl⟩
      have e1 : decide ((300 : Int) < (nj : Int)) = false := by simp; omega
      rcases Nat.lt_or_ge 6 q with g2 | g2
      · have e2 : decide ((6 : Int) < (q : Int)) = true := by simp; omega
        rcases Nat.lt_or_ge 64 q with g3 | g3
        · have e3 : decide ((q : Int) ≤ 64) = false := by simp; omega
          go_wp2_with fail
          go_roundw
          case rel =>
            refine ⟨k + 1, by omega, by go_num, fun j hj => ?_, rfl⟩
            rcases Nat.lt_or_ge j k with p | p
            · exact HZ.out j p
            · obtain rfl : j = k := by omega
              rw [HSK.out]
              exact ⟨g, .inr (by rw [HQ.out]; exact g3)⟩
          case measure => simp [intOf]; omega
        · have e3 : decide ((q : Int) ≤ 64) = true := by simp; omega
          go_wp2_with fail
          go_ret
          exact ⟨⟨false, rfl, fun h => (by cases h), fun h => absurd h (NO.out fun l => by have := l.2; rw [HQ.out] at this; omega)⟩, rfl⟩
      · have e2 : decide ((6 : Int) < (q : Int)) = false := by simp; omega
        go_wp2_with fail
        go_roundw
        case rel =>
          refine ⟨k + 1, by omega, by go_num, fun j hj => ?_, rfl⟩
          rcases Nat.lt_or_ge j k with p | p
          · exact HZ.out j p
          · obtain rfl : j = k := by omega
            rw [HSK.out]
            exact ⟨g, .inl (by rw [HQ.out]; exact g2)⟩
        case measure => simp [intOf]; omega
    · obtain rfl : k = n := by omega
      have hkn : decide ((k : Int) < (k : Int)) = false := by simp
      go_wp2_with fail
      go_ret
      exact ⟨⟨true, rfl, fun _ => HZ.out, fun _ => rfl⟩, rfl⟩
end Go.Proofs.YtjalncdllegfoaaGreatDoor
