/-
  The walk of NatOrders: how any two numbers stand to one another, how many bits they have, and which.
-/
import Derived.Test.YtejggejpafpahaaKit
import Derived.Test.YtejggejpafpahaaRCmp
namespace Go.Proofs.Ytejggejpafpahaa
open Go.RowKit
set_option linter.unusedVariables false
theorem rcmp_v {A A' : Option Addr} {n c n' c' : Nat} {N M : Int} {w : World} (h : Rn w A n c N) (h' : Rn w A' n' c' M) (hn : n ≤ 100000) (hn' : n' ≤ 100000) :
    Calls Try.prog 19 #[.slice A n c, .slice A' n' c'] w (AnsV (.int .i64 (cmpI N M)) w) :=
  (rcmp_any h h' hn hn').mono fun e w' ⟨he, q, hq⟩ => ⟨he, hq ▸ below_drewN (Below.refl _ _) q⟩
theorem same_rd {B B' : Option Addr} {m m' cap cap' : Nat} {N : Int} {w : World} (h : Rd .u64 w B m (dg W N)) (h' : Rd .u64 w B' m' (dg W N)) (hm : m ≤ 17592186044416) :
    Calls Try.prog 14 #[.slice B m cap, .slice B' m' cap'] w (AnsV (.bool true) w) := by
  obtain rfl : m = m' := by rw [← h.len, ← h'.len]
  exact (same_yes h h' hm).mono fun e w' ⟨he, q, hq⟩ => ⟨he, hq ▸ below_drewN (Below.refl _ _) q⟩
theorem dr_le {N : Int} (h0 : 0 ≤ N) {k : Nat} (h : dl N ≤ k) : dr N ≤ 4 * k := by
  refine dg_len_le D_two h0 ?_
  rw [← W_D]
  exact lt_dl h0 h
theorem of_v {A : Option Addr} {n c : Nat} {xs : List Int} {w : World} (h : Told w A n c xs) (hn : n ≤ 1000) :
    Calls Try.prog 16 #[.slice A n c] w (AnsN (val W xs) w) := of_any A n c xs w h.rd h.dig_ hn
set_option maxHeartbeats 8000000 in
set_option maxRecDepth 100000 in
theorem natOrders_walk {A A' : Option Addr} {n c n' c' : Nat} {xs ys : List Int} {w : World} (ha : Told w A n c xs) (hb : Told w A' n' c' ys) (i : Int) (hi : -9223372036854775808 ≤ i ∧ i ≤ 9223372036854775807) :
    Calls Try.prog 6 #[.slice A n c, .slice A' n' c', .int .i64 i] w fun e w' => e = .returned (.bool true) ∧ Below w.heap.size w w' := by
  have na := ha.c60
  have nb' := hb.c60
  by_cases h1 : 300 < n
  · go_enter Try.func6, Try.ntmps6
    go_wp2_with fail
    refine (up_v _).mono ?_
    rintro e w1 ⟨rfl, b1⟩
    go_wp2
    go_ret
    exact ⟨rfl, b1⟩
  · by_cases h2 : 300 < n'
    · go_enter Try.func6, Try.ntmps6
      go_wp2_with fail
      refine (up_v _).mono ?_
      rintro e w1 ⟨rfl, b1⟩
      go_wp2
      go_ret
      exact ⟨rfl, b1⟩
    · have h1' : n ≤ 300 := by omega
      have h2' : n' ≤ 300 := by omega
      clear h1 h2
      have dn := ha.nm.dl_le
      have dm := hb.nm.dl_le
      have rn := dr_le ha.nm.pos (show dl (val W xs) ≤ 300 by omega)
      have rm := dr_le hb.nm.pos (show dl (val W ys) ≤ 300 by omega)
      obtain ⟨N, hN⟩ : ∃ N, val W xs = N := ⟨_, rfl⟩
      obtain ⟨M, hM⟩ : ∃ M, val W ys = M := ⟨_, rfl⟩
      have hoa := fun W' (h : Told W' A n c xs) => of_v h (show n ≤ 1000 by omega)
      have hob := fun W' (h : Told W' A' n' c' ys) => of_v h (show n' ≤ 1000 by omega)
      have hna := fun W' (h : Told W' A n c xs) => h.nm
      have hnb := fun W' (h : Told W' A' n' c' ys) => h.nm
      rw [hN] at dn rn hoa hna
      rw [hM] at dm rm hob hnb
      have HOA := Lib.hid hoa
      have HOB := Lib.hid hob
      have HNA := Lib.hid hna
      have HNB := Lib.hid hnb
      clear hoa hob hna hnb hN hM
      have cb := cmpI_bd N M
      have cb1 := cb.1
      have cb2 := cb.2
      have q1 : (cmpI N M == cmpI N M) = true := by simp
      have q2 : (cmpI M N == -cmpI N M) = true := by rw [cmpI_flip]; simp
      have q3 : ((nb N : Int) == (nb N : Int)) = true := by simp
      have q4 : (bt N i == bt N i) = true := by simp
      clear cb
      go_enter Try.func6, Try.ntmps6
      go_wp2_with fail
      refine (up_v _).mono ?_
      rintro e w1 ⟨rfl, b1⟩
      go_wp2_with fail
      refine (HOA.out _ (ha.below b1)).mono ?_
      rintro e w2 ⟨B2, m2, p2, rfl, k2, b2⟩
      have b2' := b1.trans (b2.mono b1.size)
      go_wp2_with fail
      refine (HOB.out _ (hb.below b2')).mono ?_
      rintro e w3 ⟨B3, m3, p3, rfl, k3, b3⟩
      have b3' := b2'.trans (b3.mono b2'.size)
      have k2' := k2.below b3
      have s2 : m2 ≤ 100000 := by have := k2.len_; omega
      have s3 : m3 ≤ 100000 := by have := k3.len_; omega
      go_wp2_with fail
      refine (norm_any (HNA.out _ (ha.below b3'))).mono ?_
      rintro e w4 ⟨B4, m4, p4, rfl, k4, b4, -⟩
      have b4' := b3'.trans (b4.mono b3'.size)
      have k2'' := k2'.below b4
      have k3' := k3.below b4
      go_wp2_with fail
      refine (to_any k2'' s2).mono ?_
      rintro e w5 ⟨B5, m5, p5, rfl, k5, b5⟩
      have b5' := b4'.trans (b5.mono b4'.size)
      go_wp2_with fail
      refine (same_rd (k4.below b5).rd k5 k4.c60).mono ?_
      rintro e w6 ⟨rfl, b6⟩
      have b6' := b5'.trans (b6.mono b5'.size)
      have p6 := (k2''.below b5).below b6
      have r6 := (k3'.below b5).below b6
      clear k2 k2' k2'' k3 k3' k4 k5 b2 b3 b4 b5 b6 b1 b2' b3' b4' b5'
      go_wp2_with fail
      refine (rcmp_v p6 r6 s2 s3).mono ?_
      rintro e w7 ⟨rfl, b7⟩
      have b7' := b6'.trans (b7.mono b6'.size)
      have p7 := p6.below b7
      clear p6 r6 b7 b6'
      go_wp2_with fail
      refine (cmp_v (HNA.out _ (ha.below b7')) (HNB.out _ (hb.below b7'))).mono ?_
      rintro e w8 ⟨rfl, b8⟩
      have b8' := b7'.trans (b8.mono b7'.size)
      have p8 := p7.below b8
      clear p7 b8 b7'
      go_wp2_with fail
      refine (cmp_v (HNB.out _ (hb.below b8')) (HNA.out _ (ha.below b8'))).mono ?_
      rintro e w9 ⟨rfl, b9⟩
      have b9' := b8'.trans (b9.mono b8'.size)
      have p9 := p8.below b9
      have a9 := HNA.out _ (ha.below b9')
      clear p8 b9 b8'
      go_wp2_with fail
      refine (bits_any a9).mono ?_
      rintro e w10 ⟨rfl, rfl⟩
      go_wp2_with fail
      refine (rbits_any p9 s2).mono ?_
      rintro e w10 ⟨rfl, rfl⟩
      go_wp2_with fail
      refine (bit_any a9 i hi.2).mono ?_
      rintro e w10 ⟨rfl, rfl⟩
      go_wp2_with fail
      refine (rbit_any p9 s2 i hi.2).mono ?_
      rintro e w10 ⟨rfl, rfl⟩
      have BB := Lib.hid b9'
      go_wp2
      go_ret
      exact ⟨by first | rfl | (simp [q1, q2, q3, q4]; done), BB.out⟩
end Go.Proofs.Ytejggejpafpahaa
