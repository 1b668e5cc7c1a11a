/-
  PrimeProves: walked through.
-/
import Derived.Test.YtbgnjbalojcgkaaDoorPri
import Derived.Test.YtbgnjbalojcgkaaDoorRDiv
import Derived.Test.YtbgnjbalojcgkaaDoorRefW
namespace Go.Proofs.YtbgnjbalojcgkaaDoor
open Go.RowKit
set_option linter.unusedVariables false
theorem of_nm {A : Option Addr} {n c : Nat} {N : Int} {w : World} (h : Nm w A n c N) (hn : n ≤ 1000) : Calls Tryd.prog 11 #[.slice A n c] w (AnsN N w) := by
  obtain ⟨⟨xs, h1, h2, h3⟩, -, -, -⟩ := h
  have := of_any A n c xs w h1 h2 hn
  rwa [h3] at this
/-- Check of any chain of at most 64 steps: an error and no number, or the number. -/
def ChkA (S : Nat → Stp) (n : Nat) (w : World) (e : Ending) (w' : World) : Prop :=
  (1 ≤ n ∧ (∀ i, i < n → bdS S n i = 0) ∧ Ans (S 0).P w e w') ∨ (¬ (1 ≤ n ∧ ∀ i, i < n → bdS S n i = 0) ∧ ∃ t v, e = .returned (.tuple #[.slice none 0 0, .iface t v]) ∧ Below w.heap.size w w')
theorem chk_all {w : World} {a : Option Addr} {n c : Nat} {S : Nat → Stp} (h : Ch w a n c S) (h2 : n ≤ 64) :
    Calls Tryd.prog 9 #[.slice a n c] w (ChkA S n w) := by
  rcases Nat.eq_zero_or_pos n with hn | hn
  · refine (chk_arg (.inl hn) (by omega)).mono fun e w' ⟨he, hb⟩ => .inr ⟨fun h => by omega, _, _, he, hb⟩
  · obtain ⟨b, off, rfl, -, -⟩ := h.ex hn
    refine (chk_any h hn h2).mono fun e w' hh => ?_
    rcases hh with ⟨hg, ha⟩ | ⟨k, cd, hk, hj, hbd, hc, b', he, -, hb⟩
    · exact .inl ⟨hn, hg, ha⟩
    · exact .inr ⟨fun h => hc (hbd.symm.trans (h.2 k hk)), _, _, he, hb⟩
theorem good_pr {S : Nat → Stp} {n : Nat} (hn : 1 ≤ n) (h : ∀ i, i < n → bdS S n i = 0) : Pr (S 0).P :=
  good_first (P := fun j => (S j).P) (Q := fun j => (S j).Q) (A := fun j => (S j).A) h hn
theorem good_len {S : Nat → Stp} {n : Nat} (hn : 1 ≤ n) (h : ∀ i, i < n → bdS S n i = 0) : dl (S 0).P ≤ 32 := by
  have := (sc_zero (bd_zero (h 0 (by omega))).1).1
  exact Nat.not_lt.1 fun g => this (.inl g)
set_option maxHeartbeats 4000000 in
theorem primeProves_walk {w : World} {a : Option Addr} {n c : Nat} {S : Nat → Stp} (hch : Ch w a n c S) (d : Int) (hd : 0 ≤ d ∧ d ≤ 18446744073709551615) (hg : Et w) :
    Calls Tryd.prog 4 #[.slice a n c, .int .u64 d] w fun e w' => e = .returned (.bool true) ∧ Below w.heap.size w w' := by
  obtain ⟨d0, d1⟩ := hd
  have n60 := hch.c60
  rcases Nat.lt_or_ge 8 n with h8 | h8
  · have t1 : decide ((8 : Int) < (n : Int)) = true := by simp; omega
    go_enter Tryd.func4, Tryd.ntmps4
    go_wp2_with fail
    refine (up_any w hg).mono ?_
    rintro e w1 ⟨rfl, b1⟩
    go_wp2
    go_ret
    exact ⟨rfl, b1⟩
  · have t1 : decide ((8 : Int) < (n : Int)) = false := by simp; omega
    go_enter Tryd.func4, Tryd.ntmps4
    go_wp2_with fail
    refine (up_any w hg).mono ?_
    rintro e w1 ⟨rfl, b1⟩
    go_wp2_with fail
    refine (chk_all (hch.below b1) (by omega)).mono ?_
    rintro e w2 (⟨hn, hz, B2, m2, d2, rfl, k2, b2, -⟩ | ⟨-, t, v, rfl, b2⟩)
    · have b12 := b1.trans (b2.mono b1.size)
      have hpr := good_pr hn hz
      have hlen := good_len hn hz
      obtain ⟨p, hp⟩ : ∃ p, p = (S 0).P := ⟨_, rfl⟩
      rw [← hp] at hpr hlen k2
      have HPR := Lib.hid hpr
      have p2 := hpr.1
      have B12 := Lib.hid b12
      clear hp hz hpr b1 b2 b12
      by_cases hs : p < 4294967296
      · obtain ⟨rfl, bb, oo, rfl, hb, hc⟩ := cn_one k2 (by omega) (by unfold W; omega)
        clear k2
        go_wp2_with fail
        go_loopw [8] (fun k wr => ∃ x : Int, k = .int .u64 x ∧ 2 ≤ x ∧ x ≤ 65537 ∧ w2 = wr) (fun k _ => (65538 - intOf k).toNat)
        case atStart => exact ⟨2, rfl, by omega, by omega, rfl⟩
        case round =>
          obtain ⟨x, rfl, x2, x6, rfl⟩ := hrel
          have m0 : 0 ≤ x * x := Int.mul_nonneg (by omega) (by omega)
          have m1 := Int.mul_le_mul x6 x6 (show 0 ≤ x by omega) (by omega)
          have hw : IntKind.u64.wrap (x * x) = x * x := IntWalk.u64_in _ (by omega)
          by_cases hl : x * x ≤ p
          · have xp : x < p := root_lt x2 hl
            have x5 : x ≤ 65536 := by
              rcases Int.lt_or_le x 65537 with g | g
              · omega
              · have := Int.mul_le_mul g g (by omega) (show 0 ≤ x by omega); omega
            have hne : p % x ≠ 0 := HPR.out.2 x x2 xp
            have hw1 : IntKind.u64.wrap (x + 1) = x + 1 := IntWalk.u64_in _ (by omega)
            go_wp2
            go_roundw
            case rel => exact ⟨x + 1, rfl, by omega, by omega, trivial⟩
            case measure => simp [intOf]; omega
          · go_wp2
            go_ret
            exact ⟨by simp, B12.out⟩
      · have hd0 : 0 ≤ d % 100000 := by omega
        have hd1 : d % 100000 < 100000 := by omega
        obtain ⟨x, hx⟩ : ∃ x, x = 2 + d % 100000 := ⟨_, rfl⟩
        have x2 : 2 ≤ x := by omega
        have x3 : x < 4294967296 := by omega
        have hw : IntKind.u64.wrap (2 + d % 100000) = x := by rw [hx]; exact IntWalk.u64_in _ (by omega)
        have HNE := Lib.hid (HPR.out.2 x x2 (by omega))
        have hm : m2 ≤ 32 := by rw [k2.len_]; exact hlen
        have hdp : dr p ≤ 128 := dr_le (by omega) hlen
        have hdx : dr x ≤ 4 := dr_le (by omega) (dl_one (by omega) (by unfold W; omega))
        have tail : ∀ (K : Act → World → Prop), True := fun _ => trivial
        clear hd0 hd1 hx tail
        by_cases h1 : m2 = 1
        · subst h1
          have hpW : p < W := by
            have := (dl_iff (show 0 ≤ p by omega) 1).1 (by rw [← k2.len_]; exact Nat.le_refl _)
            simpa [Int.pow_succ] using this
          obtain ⟨-, bb, oo, rfl, hb, hc⟩ := cn_one k2 (by omega) hpW
          have HCC := Lib.hid hc
          have t2 : decide (p < 4294967296) = false := by simp; omega
          go_wp2_with fail
          refine (of_nm k2.nm (by omega)).mono ?_
          rintro e w3 ⟨B3, m3, d3, rfl, k3, b3⟩
          have b13 := B12.out.trans (b3.mono B12.out.size)
          have L1 := Lib.hid (lit_one w3 x (by omega) (by unfold W; omega))
          clear hc
          clear b3
          go_wp2_with fail
          refine (of_nm L1.out (by omega)).mono ?_
          rintro e w4 ⟨B4, m4, d4, rfl, k4, b4⟩
          have b34 := below_one b4
          have b14 := b13.trans (b34.mono b13.size)
          have k34 := k3.below b34
          clear b4 b34 b13 k3 L1
          go_wp2_with fail
          refine (rdiv_any k34 k4 (by rw [k34.len_]; omega) (by rw [k4.len_]; omega) (by omega)).mono ?_
          rintro e w5 ⟨B5, m5, d5, B6, m6, d6, rfl, -, k6, b5⟩
          have b15 := b14.trans (b5.mono b14.size)
          have B15 := Lib.hid b15
          have hm6 : 0 < m6 := by
            rw [k6.len_]
            rcases Nat.eq_zero_or_pos (dr (p % x)) with g | g
            · exact absurd ((dg_nil_iff D_two k6.pos).1 g) HNE.out
            · exact g
          clear b5 b14 b15 k6 k34 k4 hdx hdp hw
          go_wp2
          go_ret
          exact ⟨rfl, B15.out⟩
        · have t2 : ((m2 : Int) == 1) = false := by simp; omega
          have t3 : (m2 == 1) = false := by simp; omega
          go_wp2_with fail
          refine (of_nm k2.nm (by omega)).mono ?_
          rintro e w3 ⟨B3, m3, d3, rfl, k3, b3⟩
          have b13 := B12.out.trans (b3.mono B12.out.size)
          have L1 := Lib.hid (lit_one w3 x (by omega) (by unfold W; omega))
          clear t2
          clear b3
          go_wp2_with fail
          refine (of_nm L1.out (by omega)).mono ?_
          rintro e w4 ⟨B4, m4, d4, rfl, k4, b4⟩
          have b34 := below_one b4
          have b14 := b13.trans (b34.mono b13.size)
          have k34 := k3.below b34
          clear b4 b34 b13 k3 L1
          go_wp2_with fail
          refine (rdiv_any k34 k4 (by rw [k34.len_]; omega) (by rw [k4.len_]; omega) (by omega)).mono ?_
          rintro e w5 ⟨B5, m5, d5, B6, m6, d6, rfl, -, k6, b5⟩
          have b15 := b14.trans (b5.mono b14.size)
          have B15 := Lib.hid b15
          have hm6 : 0 < m6 := by
            rw [k6.len_]
            rcases Nat.eq_zero_or_pos (dr (p % x)) with g | g
            · exact absurd ((dg_nil_iff D_two k6.pos).1 g) HNE.out
            · exact g
          clear b5 b14 b15 k6 k34 k4 hdx hdp hw
          go_wp2
          go_ret
          exact ⟨rfl, B15.out⟩
    · have b12 := b1.trans (b2.mono b1.size)
      clear b1 b2
      go_wp2
      go_ret
      exact ⟨rfl, b12⟩
end Go.Proofs.YtbgnjbalojcgkaaDoor
