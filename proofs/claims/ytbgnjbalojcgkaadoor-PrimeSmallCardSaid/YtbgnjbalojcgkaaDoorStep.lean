/-
  What checkStep answers: what is amiss with a step on its own, or nothing.
-/
import Derived.Test.YtbgnjbalojcgkaaDoorWitn
import Derived.Test.YtbgnjbalojcgkaaDoorSmal
namespace Go.Proofs.YtbgnjbalojcgkaaDoor
open Go.RowKit
set_option linter.unusedVariables false
theorem erv_zero : erv 0 = .nilIface := if_pos rfl
theorem erv_code {c : Int} (h : c ≠ 0) : erv c = .iface 44 (.int .i64 c) := if_neg h
theorem pLong_yes {A : Option Addr} {n c : Nat} {N : Int} {w : World} (h : Nm w A n c N) (hl : 64 < dl N) :
    Calls Tryd.prog 26 #[.slice A n c] w fun e w' => e = .returned (.bool true) ∧ w = w' :=
  (tooLong_any h).mono fun e w' ⟨he, hw⟩ => ⟨by rw [he, decide_eq_true hl], hw⟩
theorem pLong_no {A : Option Addr} {n c : Nat} {N : Int} {w : World} (h : Nm w A n c N) (hl : dl N ≤ 64) :
    Calls Tryd.prog 26 #[.slice A n c] w fun e w' => e = .returned (.bool false) ∧ w = w' :=
  (tooLong_any h).mono fun e w' ⟨he, hw⟩ => ⟨by rw [he, decide_eq_false (by omega)], hw⟩
theorem wit_iff {P Q A : Int} (hP : 3 ≤ P) (hc : Cof P Q) : Wit P Q A ↔ Wt P Q A ((P - 1) / Q) := by
  obtain ⟨q2, sq, hd⟩ := hc
  have e := toNat_mul_div (show 1 ≤ P by omega) q2 hd
  obtain ⟨k, hk⟩ : ∃ k : Nat, ((P - 1) / Q).toNat = k := ⟨_, rfl⟩
  have e2 : (P - 1).toNat = k * Q.toNat := by
    rw [hk] at e
    have : ((k * Q.toNat : Nat) : Int) = P - 1 := by
      rw [e, Int.natCast_mul, Int.toNat_of_nonneg (by omega), Int.mul_comm]
    omega
  have p1 : (A ^ k % P) ^ Q.toNat % P = A ^ (P - 1).toNat % P := by
    rw [e2, Int.pow_mul]
    exact Eqm.iff.1 ((Eqm.mod P (A ^ k)).pow Q.toNat)
  have p2 : (A ^ k % P - 1) % P = (A ^ k - 1) % P := Eqm.iff.1 ((Eqm.mod P (A ^ k)).sub (Eqm.refl P 1))
  unfold Wit Wt
  rw [hk, p1, p2]
  exact ⟨fun h => h.2.2.2, fun h => ⟨q2, sq, hd, h⟩⟩
section
variable {w : World} {A1 A2 A3 : Option Addr} {n1 c1 n2 c2 n3 c3 : Nat} {P Q A : Int}
set_option maxHeartbeats 1000000 in
theorem step_long (h1 : Nm w A1 n1 c1 P) (h2 : Nm w A2 n2 c2 Q) (h3 : Nm w A3 n3 c3 A) (hl : Lg P Q A) :
    Calls Tryd.prog 15 #[.agg #[.slice A1 n1 c1, .slice A2 n2 c2, .slice A3 n3 c3]] w (AnsV (.iface 44 (.int .i64 2)) w) := by
  have ba := below_al w (.cells #[.slice A1 n1 c1, .slice A2 n2 c2, .slice A3 n3 c3] 41)
  have k1 := h1.below ba
  have k2 := h2.below ba
  have k3 := h3.below ba
  have BA := Lib.hid ba
  clear ba
  rcases Nat.lt_or_ge 64 (dl Q) with g2 | g2
  · go_enter Tryd.func15, Tryd.ntmps15
    go_wp2_with fail
    refine (pLong_yes k2 g2).mono ?_
    rintro e w1 ⟨rfl, rfl⟩
    go_wp2
    go_ret
    exact ⟨rfl, BA.out⟩
  · rcases Nat.lt_or_ge 64 (dl A) with g3 | g3
    · go_enter Tryd.func15, Tryd.ntmps15
      go_wp2_with fail
      refine (pLong_no k2 g2).mono ?_
      rintro e w1 ⟨rfl, rfl⟩
      go_wp2_with fail
      refine (pLong_yes k3 g3).mono ?_
      rintro e w1 ⟨rfl, rfl⟩
      go_wp2
      go_ret
      exact ⟨rfl, BA.out⟩
    · have g1 : 32 < dl P := by rcases hl with g | g | g <;> omega
      go_enter Tryd.func15, Tryd.ntmps15
      go_wp2_with fail
      refine (pLong_no k2 g2).mono ?_
      rintro e w1 ⟨rfl, rfl⟩
      go_wp2_with fail
      refine (pLong_no k3 g3).mono ?_
      rintro e w1 ⟨rfl, rfl⟩
      go_wp2_with fail
      refine (new_long k1 g1).mono ?_
      rintro e w1 ⟨rfl, b1⟩
      have b01 := BA.out.trans (b1.mono BA.out.size)
      clear b1
      go_wp2
      go_ret
      exact ⟨rfl, b01⟩
set_option maxHeartbeats 1000000 in
theorem step_even (h1 : Nm w A1 n1 c1 P) (h2 : Nm w A2 n2 c2 Q) (h3 : Nm w A3 n3 c3 A) (hl : ¬ Lg P Q A) (he : Ev P) :
    Calls Tryd.prog 15 #[.agg #[.slice A1 n1 c1, .slice A2 n2 c2, .slice A3 n3 c3]] w (AnsV (.iface 44 (.int .i64 5)) w) := by
  have ba := below_al w (.cells #[.slice A1 n1 c1, .slice A2 n2 c2, .slice A3 n3 c3] 41)
  have k1 := h1.below ba
  have k2 := h2.below ba
  have k3 := h3.below ba
  have BA := Lib.hid ba
  have g1 : dl P ≤ 32 := Nat.not_lt.1 fun g => hl (.inl g)
  have g2 : dl Q ≤ 64 := Nat.not_lt.1 fun g => hl (.inr (.inl g))
  have g3 : dl A ≤ 64 := Nat.not_lt.1 fun g => hl (.inr (.inr g))
  have HE := Lib.hid he
  clear ba hl he
  go_enter Tryd.func15, Tryd.ntmps15
  go_wp2_with fail
  refine (pLong_no k2 g2).mono ?_
  rintro e w1 ⟨rfl, rfl⟩
  go_wp2_with fail
  refine (pLong_no k3 g3).mono ?_
  rintro e w1 ⟨rfl, rfl⟩
  go_wp2_with fail
  refine (new_even k1 g1 HE.out).mono ?_
  rintro e w1 ⟨rfl, b1⟩
  have b01 := BA.out.trans (b1.mono BA.out.size)
  clear b1
  go_wp2
  go_ret
  exact ⟨rfl, b01⟩
set_option maxHeartbeats 2000000 in
theorem step_rest (h1 : Nm w A1 n1 c1 P) (h2 : Nm w A2 n2 c2 Q) (h3 : Nm w A3 n3 c3 A) (hl : ¬ Lg P Q A) (he : ¬ Ev P) :
    Calls Tryd.prog 15 #[.agg #[.slice A1 n1 c1, .slice A2 n2 c2, .slice A3 n3 c3]] w (AnsV (erv (sc P Q A)) w) := by
  have ba := below_al w (.cells #[.slice A1 n1 c1, .slice A2 n2 c2, .slice A3 n3 c3] 41)
  have st := St3.new w A1 n1 c1 A2 n2 c2 A3 n3 c3
  have k1 := h1.below ba
  have k2 := h2.below ba
  have k3 := h3.below ba
  have BA := Lib.hid ba
  have g1 : dl P ≤ 32 := Nat.not_lt.1 fun g => hl (.inl g)
  have g2 : dl Q ≤ 64 := Nat.not_lt.1 fun g => hl (.inr (.inl g))
  have g3 : dl A ≤ 64 := Nat.not_lt.1 fun g => hl (.inr (.inr g))
  have hP : 3 ≤ P := Int.not_lt.1 fun g => he (.inr g)
  have odd : P % 2 = 1 := by rcases Int.emod_two_eq P with g | g; exact absurd (Or.inl g) he; exact g
  have HL := Lib.hid hl
  have HE := Lib.hid he
  have HO := Lib.hid odd
  have H3 := Lib.hid hP
  have lp1 : dl (P - 1) ≤ 64 := Nat.le_trans (dl_mono (by omega) (by omega)) (Nat.le_trans g1 (by omega))
  clear ba hl he odd hP
  go_enter Tryd.func15, Tryd.ntmps15
  go_wp2_with fail
  refine (pLong_no k2 g2).mono ?_
  rintro e w1 ⟨rfl, rfl⟩
  go_wp2_with fail
  refine (pLong_no k3 g3).mono ?_
  rintro e w1 ⟨rfl, rfl⟩
  go_wp2_with fail
  refine (new_any k1 g1 HO.out H3.out).mono ?_
  rintro e w1 ⟨b, A0, c0, low, B, cB, S, cS, rfl, md, b1, -, -, -, -⟩
  have b01 := BA.out.trans (b1.mono BA.out.size)
  have st1 := st.below b1
  have m1 := h1.below b01
  have m2 := h2.below b01
  have q0 := st1.c0
  have q1 := st1.c1_
  have B01 := Lib.hid b01
  clear b1 b01 st k1 k2 k3 BA
  rcases Int.lt_or_le Q 2 with d2 | d2
  · have HS := Lib.hid (sc_bad HL.out HE.out fun h : Wit P Q A => by have := h.1; omega)
    have D2 := Lib.hid d2
    clear d2
    go_wp2_with fail
    refine (cofactor_less m1 m2 D2.out).mono ?_
    rintro e w2 ⟨rfl, b2⟩
    have b02 := B01.out.trans (b2.mono B01.out.size)
    clear b2 q0 q1 st1 md
    go_wp2
    go_ret
    exact ⟨by rw [HS.out]; rfl, b02⟩
  · have D2 := Lib.hid d2
    clear d2
    rcases Int.lt_or_le P (Q * Q) with d3 | d3
    · have D3 := Lib.hid d3
      clear d3
      go_wp2_with fail
      refine (cofactor_any m1 m2 H3.out (by omega) g2 D2.out D3.out).mono ?_
      rintro e w2 ⟨hy, hn⟩
      by_cases hz : (P - 1) % Q = 0
      · obtain ⟨B2, m2', d2', rfl, k2, b2, -⟩ := hy hz
        have hC : Cof P Q := ⟨D2.out, D3.out, hz⟩
        have HI := Lib.hid (wit_iff (A := A) H3.out hC)
        have b02 := B01.out.trans (b2.mono B01.out.size)
        have st2 := st1.below b2
        have r0 := st2.c0
        have r1 := st2.c1_
        have r2 := st2.c2_
        have md2 := md.below b2
        have HK : (P - 1) / Q ≤ P - 1 := Int.ediv_le_self _ (by have := H3.out; omega)
        have lk : dl ((P - 1) / Q) ≤ 64 := Nat.le_trans (dl_mono k2.pos HK) lp1
        have n1' := h1.below b02
        have n2' := h2.below b02
        have n3' := h3.below b02
        have K2 := Lib.hid k2
        have B02 := Lib.hid b02
        clear hy hn hz hC HK b2 q0 q1 st1 m1 m2 md b02 k2
        rcases Int.lt_or_le A 2 with d4 | d4
        · have HS := Lib.hid (sc_bad HL.out HE.out fun h : Wit P Q A => by have := h.2.2.2.1; omega)
          have D4 := Lib.hid d4
          clear d4
          go_wp2_with fail
          refine (witness_less md2 n3' D4.out).mono ?_
          rintro e w3 ⟨rfl, b3⟩
          have b03 := B02.out.trans (b3.mono B02.out.size)
          clear b3 r0 r1 r2 st2 md2 n1' n2' n3'
          go_wp2
          go_ret
          exact ⟨by rw [HS.out]; rfl, b03⟩
        · have D4 := Lib.hid d4
          clear d4
          rcases Int.lt_or_le A P with d5 | d5
          · have D5 := Lib.hid d5
            clear d5
            go_wp2_with fail
            refine (witness_mid md2 n1' n2' n3' K2.out.nm g2 g3 lk D4.out D5.out).mono ?_
            rintro e w3 ⟨hy, hn⟩
            by_cases hw : Wt P Q A ((P - 1) / Q)
            · obtain ⟨rfl, b3⟩ := hy hw
              have HS := Lib.hid (sc_good HL.out HE.out (HI.out.2 hw))
              have b03 := B02.out.trans (b3.mono B02.out.size)
              clear b3 r0 r1 r2 st2 md2 n1' n2' n3' hy hn hw
              go_wp2
              go_ret
              exact ⟨by rw [HS.out]; rfl, b03⟩
            · obtain ⟨rfl, b3⟩ := hn hw
              have HS := Lib.hid (sc_bad HL.out HE.out fun h => hw (HI.out.1 h))
              have b03 := B02.out.trans (b3.mono B02.out.size)
              clear b3 r0 r1 r2 st2 md2 n1' n2' n3' hy hn hw
              go_wp2
              go_ret
              exact ⟨by rw [HS.out]; rfl, b03⟩
          · have HS := Lib.hid (sc_bad HL.out HE.out fun h : Wit P Q A => by have := h.2.2.2.2.1; omega)
            have D5 := Lib.hid d5
            clear d5
            go_wp2_with fail
            refine (witness_great md2 n1' n3' D4.out D5.out).mono ?_
            rintro e w3 ⟨rfl, b3⟩
            have b03 := B02.out.trans (b3.mono B02.out.size)
            clear b3 r0 r1 r2 st2 md2 n1' n2' n3'
            go_wp2
            go_ret
            exact ⟨by rw [HS.out]; rfl, b03⟩
      · obtain ⟨rfl, b2⟩ := hn hz
        have HS := Lib.hid (sc_bad HL.out HE.out fun h : Wit P Q A => hz h.2.2.1)
        have b02 := B01.out.trans (b2.mono B01.out.size)
        clear b2 q0 q1 st1 md hz hy hn
        go_wp2
        go_ret
        exact ⟨by rw [HS.out]; rfl, b02⟩
    · have HS := Lib.hid (sc_bad HL.out HE.out fun h : Wit P Q A => by have := h.2.1; omega)
      have D3 := Lib.hid d3
      clear d3
      go_wp2_with fail
      refine (cofactor_small m1 m2 g2 D2.out D3.out).mono ?_
      rintro e w2 ⟨rfl, b2⟩
      have b02 := B01.out.trans (b2.mono B01.out.size)
      clear b2 q0 q1 st1 md
      go_wp2
      go_ret
      exact ⟨by rw [HS.out]; rfl, b02⟩
/-- What checkStep answers. -/
theorem step_any (h1 : Nm w A1 n1 c1 P) (h2 : Nm w A2 n2 c2 Q) (h3 : Nm w A3 n3 c3 A) :
    Calls Tryd.prog 15 #[.agg #[.slice A1 n1 c1, .slice A2 n2 c2, .slice A3 n3 c3]] w (AnsV (erv (sc P Q A)) w) := by
  by_cases hl : Lg P Q A
  · rw [sc_long hl, erv_code (by decide)]; exact step_long h1 h2 h3 hl
  · by_cases he : Ev P
    · rw [sc_even hl he, erv_code (by decide)]; exact step_even h1 h2 h3 hl he
    · exact step_rest h1 h2 h3 hl he
end
end Go.Proofs.YtbgnjbalojcgkaaDoor
