/-
  The walk of NatBack: sums and products go back.
-/
import Derived.Test.YtejggejpafpahaaKit
namespace Go.Proofs.Ytejggejpafpahaa
open Go.RowKit
set_option linter.unusedVariables false
set_option maxHeartbeats 8000000 in
set_option maxRecDepth 100000 in
theorem natBack_walk0 {A A' : Option Addr} {n c n' c' : Nat} {N M : Int} {w : World} (ha : Nm w A n c N) (hb : Nm w A' n' c' M) :
    Calls Try.prog 5 #[.slice A n c, .slice A' n' c'] w fun e w' => e = .returned (.bool true) ∧ Below w.heap.size w w' := by
  by_cases hl : dl N ≤ 31 ∧ dl M ≤ 31
  · obtain ⟨l1, l2⟩ := hl
    have n0 := ha.pos
    have m0 := hb.pos
    have l3 : dl (N + M) ≤ 64 := by have := dl_add n0 m0 l1 l2; omega
    have l4 : dl (N * M) ≤ 64 := by have := dl_mul n0 m0 l1 l2; omega
    have l5 : dl N ≤ 64 := by omega
    have l6 : dl M ≤ 64 := by omega
    have t1 : decide ((31 : Int) < (dl N : Int)) = false := by simp; omega
    have t2 : decide ((31 : Int) < (dl M : Int)) = false := by simp; omega
    go_enter Try.func5, Try.ntmps5
    go_wp2_with fail
    refine (up_v _).mono ?_
    rintro e w1 ⟨rfl, b1⟩
    have ha1 := ha.below b1
    have hb1 := hb.below b1
    go_wp2_with fail
    refine (Limbs_nm ha1).mono ?_
    rintro e w2 ⟨rfl, rfl⟩
    go_wp2_with fail
    refine (Limbs_nm hb1).mono ?_
    rintro e w2 ⟨rfl, rfl⟩
    go_wp2_with fail
    refine (add_any ha1 hb1 l5 l6).mono ?_
    rintro e w2 ⟨B2, m2, p2, rfl, k2, b2, -⟩
    have b2' := b1.trans (b2.mono b1.size)
    have ha2 := ha.below b2'
    have hb2 := hb.below b2'
    go_wp2_with fail
    refine (sub_any k2.nm hb2 l3 l6 (by omega)).mono ?_
    rintro e w3 ⟨B3, m3, p3, rfl, k3, b3, -⟩
    have k3' : Cn w3 B3 m3 p3 N := by rw [Int.add_sub_cancel] at k3; exact k3
    have b3' := b2'.trans (b3.mono b2'.size)
    have ha3 := ha.below b3'
    have hb3 := hb.below b3'
    go_wp2_with fail
    refine (mul_any ha3 hb3 l5 l6).mono ?_
    rintro e w4 ⟨B4, m4, p4, rfl, k4, b4, -⟩
    have b4' := b3'.trans (b4.mono b3'.size)
    have ha4 := ha.below b4'
    have hb4 := hb.below b4'
    have d4 := k3'.below b4
    go_wp2_with fail
    refine (norm_any ha4).mono ?_
    rintro e w5 ⟨B5, m5, p5, rfl, k5, b5, -⟩
    have b5' := b4'.trans (b5.mono b4'.size)
    go_wp2_with fail
    refine (same_cn (d4.below b5) k5).mono ?_
    rintro e w6 ⟨rfl, b6⟩
    have b6' := b5'.trans (b6.mono b5'.size)
    have ha6 := ha.below b6'
    have hb6 := hb.below b6'
    have x6 := k5.below b6
    have p6 := (k4.below b5).below b6
    clear ha1 hb1 ha2 hb2 k2 k3 k3' ha3 hb3 ha4 hb4 d4 k4 k5 b2 b3 b4 b5 b6 b1 b2' b3' b4' b5'
    go_wp2_with fail
    refine (cmp_v hb6 (Cn.nil _).nm).mono ?_
    rintro e w7 ⟨rfl, b7⟩
    have b7' := b6'.trans (b7.mono b6'.size)
    have ha7 := ha.below b7'
    have hb7 := hb.below b7'
    have x7 := x6.below b7
    have p7 := p6.below b7
    clear ha6 hb6 x6 p6 b7 b6'
    rcases Int.lt_or_le 0 M with hM | hM
    · have z1 : (cmpI M 0 == 0) = false := by rw [cmpI_gt hM]; rfl
      go_wp2_with fail
      refine (div_any p7.nm hb7 l4 l6 hM).mono ?_
      rintro e w8 ⟨B8, m8, q8, B8', m8', q8', rfl, k8, r8, b8, -, -⟩
      have k8' : Cn w8 B8 m8 q8 N := by rw [Int.mul_ediv_cancel _ (by omega)] at k8; exact k8
      have r8' : Cn w8 B8' m8' q8' 0 := by rw [Int.mul_emod_left] at r8; exact r8
      obtain rfl : m8' = 0 := by have := r8'.len_; rw [this]; exact (dl_zero (Int.le_refl 0)).2 rfl
      have b8' := b7'.trans (b8.mono b7'.size)
      have x8 := x7.below b8
      go_wp2_with fail
      refine (same_cn k8' x8).mono ?_
      rintro e w9 ⟨rfl, b9⟩
      have b9' := b8'.trans (b9.mono b8'.size)
      have ha9 := ha.below b9'
      have hb9 := hb.below b9'
      have x9 := x8.below b9
      clear x8 k8 k8' r8 r8' b8 b9 b8' ha7 hb7 x7 p7
      go_wp2_with fail
      refine (div_any ha9 hb9 l5 l6 hM).mono ?_
      rintro e w10 ⟨B10, m10, q10, B11, m11, q11, rfl, k10, r10, b10, -, -⟩
      have b10' := b9'.trans (b10.mono b9'.size)
      have hb10 := hb.below b10'
      have x10 := x9.below b10
      have e1 := Int.emod_add_mul_ediv N M
      have q0 := k10.pos
      have r0 := r10.pos
      have r1 := Int.emod_lt_of_pos N hM
      have qm : N / M * M ≤ N := Int.ediv_mul_le N (by omega)
      have q1 : N / M ≤ N := Int.ediv_le_self _ n0
      have l7 : dl (N / M) ≤ 64 := by have := dl_mono q0 q1; omega
      have l8 : dl (N / M * M) ≤ 64 := by have := dl_mono (Int.mul_nonneg q0 m0) qm; omega
      have l9 : dl (N % M) ≤ 64 := by have := dl_mono r0 (show N % M ≤ M by omega); omega
      have E1 := Lib.hid e1
      clear e1 q1 qm
      go_wp2_with fail
      refine (mul_any k10.nm hb10 l7 l6).mono ?_
      rintro e w11 ⟨B12, m12, q12, rfl, k12, b11, -⟩
      have b11' := b10'.trans (b11.mono b10'.size)
      have r11 := r10.below b11
      have x11 := x10.below b11
      go_wp2_with fail
      refine (add_any k12.nm r11.nm l8 l9).mono ?_
      rintro e w12 ⟨B13, m13, q13, rfl, k13, b12, -⟩
      have k13' : Cn w12 B13 m13 q13 N := by
        have e : N / M * M + N % M = N := by have := E1.out; rw [Int.mul_comm (N / M)]; omega
        rw [e] at k13; exact k13
      have b12' := b11'.trans (b12.mono b11'.size)
      have r12 := r11.below b12
      have x12 := x11.below b12
      go_wp2_with fail
      refine (same_cn k13' x12).mono ?_
      rintro e w13 ⟨rfl, b13⟩
      have b13' := b12'.trans (b13.mono b12'.size)
      have r13 := r12.below b13
      have hb13 := hb.below b13'
      have z2 : decide (cmpI (N % M) M < 0) = true := by rw [cmpI_lt r1]; rfl
      clear k10 r10 k12 k13 k13' x9 x10 x11 x12 r11 r12 b9' b10 b10' b11 b11' b12 b12' b13 ha9 hb9 hb10
      go_wp2_with fail
      refine (cmp_v r13.nm hb13).mono ?_
      rintro e w14 ⟨rfl, b14⟩
      have B14 := Lib.hid (b13'.trans (b14.mono b13'.size))
      go_wp2
      go_ret
      exact ⟨rfl, B14.out⟩
    · obtain rfl : M = 0 := by omega
      have z1 : (cmpI 0 0 == 0) = true := by rw [cmpI_eq]; rfl
      obtain rfl : m4 = 0 := by have := p7.len_; rw [this, Int.mul_zero]; exact (dl_zero (Int.le_refl 0)).2 rfl
      have B7 := Lib.hid b7'
      go_wp2
      go_ret
      exact ⟨rfl, B7.out⟩
  · by_cases h1 : 31 < dl N
    · have t1 : decide ((31 : Int) < (dl N : Int)) = true := by simp; omega
      clear hl
      go_enter Try.func5, Try.ntmps5
      go_wp2_with fail
      refine (up_v _).mono ?_
      rintro e w1 ⟨rfl, b1⟩
      have ha1 := ha.below b1
      go_wp2_with fail
      refine (Limbs_nm ha1).mono ?_
      rintro e w2 ⟨rfl, rfl⟩
      go_wp2
      go_ret
      exact ⟨rfl, b1⟩
    · have t1 : decide ((31 : Int) < (dl N : Int)) = false := by simp; omega
      have t2 : decide ((31 : Int) < (dl M : Int)) = true := by simp; omega
      clear hl h1
      go_enter Try.func5, Try.ntmps5
      go_wp2_with fail
      refine (up_v _).mono ?_
      rintro e w1 ⟨rfl, b1⟩
      have ha1 := ha.below b1
      have hb1 := hb.below b1
      go_wp2_with fail
      refine (Limbs_nm ha1).mono ?_
      rintro e w2 ⟨rfl, rfl⟩
      go_wp2_with fail
      refine (Limbs_nm hb1).mono ?_
      rintro e w2 ⟨rfl, rfl⟩
      go_wp2
      go_ret
      exact ⟨rfl, b1⟩
theorem natBack_walk {A A' : Option Addr} {n c n' c' : Nat} {xs ys : List Int} {w : World} (ha : Told w A n c xs) (hb : Told w A' n' c' ys) :
    Calls Try.prog 5 #[.slice A n c, .slice A' n' c'] w fun e w' => e = .returned (.bool true) ∧ Below w.heap.size w w' := natBack_walk0 ha.nm hb.nm
end Go.Proofs.Ytejggejpafpahaa
