/-
  The walk of NatSpreads: a product with a sum is the sum of the products; the square of a sum.
-/
import Derived.Test.YtejggejpafpahaaKit
namespace Go.Proofs.Ytejggejpafpahaa
open Go.RowKit
set_option linter.unusedVariables false
theorem sq_sum (N M : Int) : (N + M) * (N + M) = N * N + M * M + (N * M + N * M) := by grind
set_option maxHeartbeats 8000000 in
set_option maxRecDepth 100000 in
theorem natSpreads_walk0 {A A' A2 : Option Addr} {n c n' c' n2 c2 : Nat} {N M K : Int} {w : World} (ha : Nm w A n c N) (hb : Nm w A' n' c' M) (hc : Nm w A2 n2 c2 K) :
    Calls Try.prog 8 #[.slice A n c, .slice A' n' c', .slice A2 n2 c2] w fun e w' => e = .returned (.bool true) ∧ Below w.heap.size w w' := by
  by_cases hl : dl N ≤ 15 ∧ dl M ≤ 15 ∧ dl K ≤ 15
  · obtain ⟨l1, l2, l3⟩ := hl
    have n0 := ha.pos
    have m0 := hb.pos
    have k0 := hc.pos
    have s1 := dl_add m0 k0 l2 l3
    have s2 := dl_mul n0 (Int.add_nonneg m0 k0) l1 s1
    have s3 := dl_mul n0 m0 l1 l2
    have s4 := dl_mul n0 k0 l1 l3
    have s5 := dl_add n0 m0 l1 l2
    have s6 := dl_mul n0 n0 l1 l1
    have s7 := dl_mul m0 m0 l2 l2
    have s8 := dl_add (Int.mul_nonneg n0 n0) (Int.mul_nonneg m0 m0) s6 s7
    have s9 := dl_add (Int.mul_nonneg n0 m0) (Int.mul_nonneg n0 m0) s3 s3
    have t1 : decide ((15 : Int) < (dl N : Int)) = false := by simp; omega
    have t2 : decide ((15 : Int) < (dl M : Int)) = false := by simp; omega
    have t3 : decide ((15 : Int) < (dl K : Int)) = false := by simp; omega
    go_enter Try.func8, Try.ntmps8
    go_wp2_with fail
    refine (up_v _).mono ?_
    rintro e w1 ⟨rfl, b1⟩
    go_wp2_with fail
    refine (Limbs_nm (ha.below b1)).mono ?_
    rintro e w2 ⟨rfl, rfl⟩
    go_wp2_with fail
    refine (Limbs_nm (hb.below b1)).mono ?_
    rintro e w2 ⟨rfl, rfl⟩
    go_wp2_with fail
    refine (Limbs_nm (hc.below b1)).mono ?_
    rintro e w2 ⟨rfl, rfl⟩
    go_wp2_with fail
    refine (add_any (hb.below b1) (hc.below b1) (by omega) (by omega)).mono ?_
    rintro e w2 ⟨B2, m2, p2, rfl, vS, bn2, -⟩
    have b2 := b1.trans (bn2.mono b1.size)
    clear b1 bn2
    go_wp2_with fail
    refine (mul_any (ha.below b2) vS.nm (by omega) (by omega)).mono ?_
    rintro e w3 ⟨B3, m3, p3, rfl, vP, bn3, -⟩
    have b3 := b2.trans (bn3.mono b2.size)
    have vS := vS.below bn3
    clear b2 bn3
    go_wp2_with fail
    refine (mul_any (ha.below b3) (hb.below b3) (by omega) (by omega)).mono ?_
    rintro e w4 ⟨B4, m4, p4, rfl, vX, bn4, -⟩
    have b4 := b3.trans (bn4.mono b3.size)
    have vS := vS.below bn4
    have vP := vP.below bn4
    clear b3 bn4
    go_wp2_with fail
    refine (mul_any (ha.below b4) (hc.below b4) (by omega) (by omega)).mono ?_
    rintro e w5 ⟨B5, m5, p5, rfl, vY, bn5, -⟩
    have b5 := b4.trans (bn5.mono b4.size)
    have vS := vS.below bn5
    have vP := vP.below bn5
    have vX := vX.below bn5
    clear b4 bn5
    go_wp2_with fail
    refine (add_any vX.nm vY.nm (by omega) (by omega)).mono ?_
    rintro e w6 ⟨B6, m6, p6, rfl, vQ, bn6, -⟩
    have b6 := b5.trans (bn6.mono b5.size)
    have vS := vS.below bn6
    have vP := vP.below bn6
    have vX := vX.below bn6
    have vY := vY.below bn6
    clear b5 bn6
    go_wp2_with fail
    refine (same_cn (by have e : N * (M + K) = N * M + N * K := Int.mul_add _ _ _; rw [← e]; exact vP) vQ).mono ?_
    rintro e w7 ⟨rfl, bn7⟩
    have b7 := b6.trans (bn7.mono b6.size)
    have vS := vS.below bn7
    have vP := vP.below bn7
    have vX := vX.below bn7
    have vY := vY.below bn7
    have vQ := vQ.below bn7
    clear b6 bn7
    go_wp2_with fail
    refine (add_any (ha.below b7) (hb.below b7) (by omega) (by omega)).mono ?_
    rintro e w8 ⟨B8, m8, p8, rfl, vT, bn8, -⟩
    have b8 := b7.trans (bn8.mono b7.size)
    have vS := vS.below bn8
    have vP := vP.below bn8
    have vX := vX.below bn8
    have vY := vY.below bn8
    have vQ := vQ.below bn8
    clear b7 bn8
    go_wp2_with fail
    refine (mul_any vT.nm vT.nm (by omega) (by omega)).mono ?_
    rintro e w9 ⟨B9, m9, p9, rfl, vU, bn9, -⟩
    have b9 := b8.trans (bn9.mono b8.size)
    have vS := vS.below bn9
    have vP := vP.below bn9
    have vX := vX.below bn9
    have vY := vY.below bn9
    have vQ := vQ.below bn9
    have vT := vT.below bn9
    clear b8 bn9
    go_wp2_with fail
    refine (mul_any (ha.below b9) (ha.below b9) (by omega) (by omega)).mono ?_
    rintro e w10 ⟨B10, m10, p10, rfl, vD, bn10, -⟩
    have b10 := b9.trans (bn10.mono b9.size)
    have vS := vS.below bn10
    have vP := vP.below bn10
    have vX := vX.below bn10
    have vY := vY.below bn10
    have vQ := vQ.below bn10
    have vT := vT.below bn10
    have vU := vU.below bn10
    clear b9 bn10
    go_wp2_with fail
    refine (mul_any (hb.below b10) (hb.below b10) (by omega) (by omega)).mono ?_
    rintro e w11 ⟨B11, m11, p11, rfl, vE, bn11, -⟩
    have b11 := b10.trans (bn11.mono b10.size)
    have vS := vS.below bn11
    have vP := vP.below bn11
    have vX := vX.below bn11
    have vY := vY.below bn11
    have vQ := vQ.below bn11
    have vT := vT.below bn11
    have vU := vU.below bn11
    have vD := vD.below bn11
    clear b10 bn11
    go_wp2_with fail
    refine (add_any vD.nm vE.nm (by omega) (by omega)).mono ?_
    rintro e w12 ⟨B12, m12, p12, rfl, vV, bn12, -⟩
    have b12 := b11.trans (bn12.mono b11.size)
    have vS := vS.below bn12
    have vP := vP.below bn12
    have vX := vX.below bn12
    have vY := vY.below bn12
    have vQ := vQ.below bn12
    have vT := vT.below bn12
    have vU := vU.below bn12
    have vD := vD.below bn12
    have vE := vE.below bn12
    clear b11 bn12
    go_wp2_with fail
    refine (add_any vX.nm vX.nm (by omega) (by omega)).mono ?_
    rintro e w13 ⟨B13, m13, p13, rfl, vR, bn13, -⟩
    have b13 := b12.trans (bn13.mono b12.size)
    have vS := vS.below bn13
    have vP := vP.below bn13
    have vX := vX.below bn13
    have vY := vY.below bn13
    have vQ := vQ.below bn13
    have vT := vT.below bn13
    have vU := vU.below bn13
    have vD := vD.below bn13
    have vE := vE.below bn13
    have vV := vV.below bn13
    clear b12 bn13
    go_wp2_with fail
    refine (add_any vV.nm vR.nm (by omega) (by omega)).mono ?_
    rintro e w14 ⟨B14, m14, p14, rfl, vZ, bn14, -⟩
    have b14 := b13.trans (bn14.mono b13.size)
    have vS := vS.below bn14
    have vP := vP.below bn14
    have vX := vX.below bn14
    have vY := vY.below bn14
    have vQ := vQ.below bn14
    have vT := vT.below bn14
    have vU := vU.below bn14
    have vD := vD.below bn14
    have vE := vE.below bn14
    have vV := vV.below bn14
    have vR := vR.below bn14
    clear b13 bn14
    go_wp2_with fail
    refine (same_cn (by rw [← sq_sum]; exact vU) vZ).mono ?_
    rintro e w15 ⟨rfl, bn15⟩
    have b15 := b14.trans (bn15.mono b14.size)
    have vS := vS.below bn15
    have vP := vP.below bn15
    have vX := vX.below bn15
    have vY := vY.below bn15
    have vQ := vQ.below bn15
    have vT := vT.below bn15
    have vU := vU.below bn15
    have vD := vD.below bn15
    have vE := vE.below bn15
    have vV := vV.below bn15
    have vR := vR.below bn15
    have vZ := vZ.below bn15
    clear b14 bn15
    have BB := Lib.hid b15
    go_wp2
    go_ret
    exact ⟨rfl, BB.out⟩
  · rcases Nat.lt_or_ge 15 (dl N) with h1 | h1
    · have t1 : decide ((15 : Int) < (dl N : Int)) = true := by simp; omega
      clear hl
      go_enter Try.func8, Try.ntmps8
      go_wp2_with fail
      refine (up_v _).mono ?_
      rintro e w1 ⟨rfl, b1⟩
      go_wp2_with fail
      refine (Limbs_nm (ha.below b1)).mono ?_
      rintro e w2 ⟨rfl, rfl⟩
      go_wp2
      go_ret
      exact ⟨rfl, b1⟩
    · have t1 : decide ((15 : Int) < (dl N : Int)) = false := by simp; omega
      rcases Nat.lt_or_ge 15 (dl M) with h2 | h2
      · have t2 : decide ((15 : Int) < (dl M : Int)) = true := by simp; omega
        clear hl
        go_enter Try.func8, Try.ntmps8
        go_wp2_with fail
        refine (up_v _).mono ?_
        rintro e w1 ⟨rfl, b1⟩
        go_wp2_with fail
        refine (Limbs_nm (ha.below b1)).mono ?_
        rintro e w2 ⟨rfl, rfl⟩
        go_wp2_with fail
        refine (Limbs_nm (hb.below b1)).mono ?_
        rintro e w2 ⟨rfl, rfl⟩
        go_wp2
        go_ret
        exact ⟨rfl, b1⟩
      · have t2 : decide ((15 : Int) < (dl M : Int)) = false := by simp; omega
        have t3 : decide ((15 : Int) < (dl K : Int)) = true := by simp; omega
        clear hl
        go_enter Try.func8, Try.ntmps8
        go_wp2_with fail
        refine (up_v _).mono ?_
        rintro e w1 ⟨rfl, b1⟩
        go_wp2_with fail
        refine (Limbs_nm (ha.below b1)).mono ?_
        rintro e w2 ⟨rfl, rfl⟩
        go_wp2_with fail
        refine (Limbs_nm (hb.below b1)).mono ?_
        rintro e w2 ⟨rfl, rfl⟩
        go_wp2_with fail
        refine (Limbs_nm (hc.below b1)).mono ?_
        rintro e w2 ⟨rfl, rfl⟩
        go_wp2
        go_ret
        exact ⟨rfl, b1⟩
theorem natSpreads_walk {A A' A2 : Option Addr} {n c n' c' n2 c2 : Nat} {xs ys zs : List Int} {w : World} (ha : Told w A n c xs) (hb : Told w A' n' c' ys) (hc : Told w A2 n2 c2 zs) :
    Calls Try.prog 8 #[.slice A n c, .slice A' n' c', .slice A2 n2 c2] w fun e w' => e = .returned (.bool true) ∧ Below w.heap.size w w' := natSpreads_walk0 ha.nm hb.nm hc.nm
end Go.Proofs.Ytejggejpafpahaa
