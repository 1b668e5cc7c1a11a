/-
  PrimeSteps: walked through, where no number is told at too great a length.
-/
import Derived.Test.YtbgnjbalojcgkaaDoorWPrimeProves
import Derived.Test.YtbgnjbalojcgkaaDoorOfBig
namespace Go.Proofs.YtbgnjbalojcgkaaDoor
open Go.RowKit
set_option linter.unusedVariables false
theorem of_nmb {A : Option Addr} {n c : Nat} {N : Int} {w : World} (h : Nm w A n c N) (hn : n ≤ 1048576) : Calls Tryd.prog 11 #[.slice A n c] w (AnsN N w) := by
  obtain ⟨⟨xs, h1, h2, h3⟩, -, -, -⟩ := h
  have := of_big A n c xs w h1 h2 hn
  rwa [h3] at this
/-- All but the first i steps. -/
theorem Ch.drop {w : World} {b off n c i : Nat} {S : Nat → Stp} (h : Ch w (some ⟨b, off, none⟩) n c S) (hi : i < n) : Ch w (some ⟨b, off + i * 3, none⟩) (n - i) (c - i) (fun j => S (i + j)) := by
  obtain ⟨b', off', e, hb, hc⟩ := h.ex (by omega)
  simp only [Option.some.injEq, Addr.mk.injEq, and_true] at e
  obtain ⟨rfl, rfl⟩ := e
  have hnc := h.nc
  have h60 := h.c60
  refine ⟨by omega, by omega, fun _ => ⟨b, off + i * 3, rfl, hb, fun j hj => ?_⟩, fun j hj => h.at_ (i + j) (by omega)⟩
  have := hc (i + j) (by omega)
  rwa [show off + (i + j) * 3 = off + i * 3 + j * 3 by omega] at this
/-- All but the last steps. -/
theorem Ch.take {w : World} {b off n c m : Nat} {S : Nat → Stp} (h : Ch w (some ⟨b, off, none⟩) n c S) (hm : m ≤ n) (h0 : 0 < m) : Ch w (some ⟨b, off, none⟩) m c S := by
  obtain ⟨b', off', e, hb, hc⟩ := h.ex (by omega)
  have hnc := h.nc
  have h60 := h.c60
  exact ⟨by omega, by omega, fun _ => ⟨b', off', e, hb, fun j hj => hc j (by omega)⟩, fun j hj => h.at_ j (by omega)⟩
theorem bds_shift {S : Nat → Stp} {n i j : Nat} (hj : j < n - i) (h : bdS S n (i + j) = 0) : bdS (fun j => S (i + j)) (n - i) j = 0 := by
  obtain ⟨h1, h2, h3⟩ := bd_zero h
  by_cases g : i + j + 1 < n
  · exact bd_next (P := fun j => (S (i + j)).P) (Q := fun j => (S (i + j)).Q) (A := fun j => (S (i + j)).A) h1 (by omega) (h2 g)
  · exact bd_last (P := fun j => (S (i + j)).P) (Q := fun j => (S (i + j)).Q) (A := fun j => (S (i + j)).A) h1 (by omega) (h3 g)
theorem bds_less {S : Nat → Stp} {n j : Nat} (hj : j + 1 < n - 1) (h : bdS S n j = 0) : bdS S (n - 1) j = 0 := by
  obtain ⟨h1, h2, h3⟩ := bd_zero h
  exact bd_next (P := fun j => (S j).P) (Q := fun j => (S j).Q) (A := fun j => (S j).A) h1 hj (h2 (by omega))
theorem bds_last {S : Nat → Stp} {n j : Nat} (hj : j + 1 = n - 1) (h : bdS S n j = 0) : (Sm (S j).Q → bdS S (n - 1) j = 0) ∧ (¬ Sm (S j).Q → bdS S (n - 1) j = 7) := by
  obtain ⟨h1, h2, h3⟩ := bd_zero h
  exact ⟨fun g => bd_last (P := fun j => (S j).P) (Q := fun j => (S j).Q) (A := fun j => (S j).A) h1 (by omega) g, fun g => bd_end (P := fun j => (S j).P) (Q := fun j => (S j).Q) (A := fun j => (S j).A) h1 (by omega) g⟩
/-- Check of a chain in which nothing is amiss. -/
theorem chk_good {w : World} {a : Option Addr} {n c : Nat} {S : Nat → Stp} (h : Ch w a n c S) (h1 : 1 ≤ n) (h2 : n ≤ 64) (hz : ∀ i, i < n → bdS S n i = 0) :
    Calls Tryd.prog 9 #[.slice a n c] w (Ans (S 0).P w) :=
  (chk_all h h2).mono fun e w' hh => by
    rcases hh with ⟨-, -, ha⟩ | ⟨hn, -⟩
    · exact ha
    · exact absurd ⟨h1, hz⟩ hn
/-- Check of a chain in which something is. -/
theorem chk_bad {w : World} {a : Option Addr} {n c : Nat} {S : Nat → Stp} (h : Ch w a n c S) (h2 : n ≤ 64) (hz : ¬ (1 ≤ n ∧ ∀ i, i < n → bdS S n i = 0)) :
    Calls Tryd.prog 9 #[.slice a n c] w (fun e w' => ∃ t v, e = .returned (.tuple #[.slice none 0 0, .iface t v]) ∧ Below w.heap.size w w') :=
  (chk_all h h2).mono fun e w' hh => by
    rcases hh with ⟨g1, g2, -⟩ | ⟨-, ha⟩
    · exact absurd ⟨g1, g2⟩ hz
    · exact ha
theorem dl_dr3 {N : Int} (h : 0 ≤ N) : dl N ≤ dr N := by
  refine dl_le h ?_
  have a := dg_lt_pow D_two h (Nat.le_refl (dr N))
  have b := pow_pos' D_two (dr N)
  have e : W ^ dr N = D ^ (4 * dr N) := W_D (dr N)
  rw [e]
  have := pow_mono (b := D) (by decide) (show dr N ≤ 4 * dr N by omega)
  omega
def AnsCn3 (N : Int) (w : World) (e : Ending) (w' : World) : Prop := ∃ B m cap, e = .returned (.slice B m cap) ∧ Cn w' B m cap N ∧ Below w.heap.size w w'
theorem to_cn3 {A : Option Addr} {n c : Nat} {N : Int} {w : World} (h : Rn w A n c N) (hn : n ≤ 100000) :
    Calls Tryd.prog 13 #[.slice A n c] w (AnsCn3 N w) :=
  (to_any2 h hn).mono fun e w' ⟨B, m, cap, he, hr, hc, hb⟩ => ⟨B, m, cap, he, ⟨hr, hc, by have h1 := hr.len; have h2 := dl_dr3 h.pos; have h3 := h.len_; have h4 : (dg W N).length = dl N := rfl; omega, h.pos⟩, hb⟩
theorem good_dl {S : Nat → Stp} {n i : Nat} (h : bdS S n i = 0) : dl (S i).P ≤ 32 ∧ dl (S i).Q ≤ 64 := by
  have := (sc_zero (bd_zero h).1).1
  exact ⟨Nat.not_lt.1 fun g => this (.inl g), Nat.not_lt.1 fun g => this (.inr (.inl g))⟩
def StR (n : Nat) (w : World) (i : Value) (wr : World) : Prop := ∃ k : Nat, k ≤ n ∧ i = .int .i64 k ∧ Below w.heap.size w wr
set_option maxHeartbeats 4000000 in
theorem primeSteps_walk {w : World} {a : Option Addr} {n c : Nat} {S : Nat → Stp} (hch : Ch w a n c S) (hsz : ∀ i, i < n → (S i).n1 ≤ 1048576 ∧ (S i).n2 ≤ 1048576) (hg : Et w) :
    Calls Tryd.prog 5 #[.slice a n c] w fun e w' => e = .returned (.bool true) ∧ Below w.heap.size w w' := by
  have n60 := hch.c60
  rcases Nat.lt_or_ge 8 n with h8 | h8
  · have t1 : decide ((8 : Int) < (n : Int)) = true := by simp; omega
    go_enter Tryd.func5, Tryd.ntmps5
    go_wp2_with fail
    refine (up_any w hg).mono ?_
    rintro e w1 ⟨rfl, b1⟩
    go_wp2
    go_ret
    exact ⟨rfl, b1⟩
  · have t1 : decide ((8 : Int) < (n : Int)) = false := by simp; omega
    by_cases hz : 1 ≤ n ∧ ∀ i, i < n → bdS S n i = 0
    · obtain ⟨h1, hz⟩ := hz
      have HSZ := Lib.hid hsz
      have HZ := Lib.hid hz
      obtain ⟨b, off, rfl, -, -⟩ := hch.ex (by omega)
      have hnc := hch.nc
      clear hsz hz
      go_enter Tryd.func5, Tryd.ntmps5
      go_wp2_with fail
      refine (up_any w hg).mono ?_
      rintro e w1 ⟨rfl, b1⟩
      go_wp2_with fail
      refine (chk_good (hch.below b1) h1 (by omega) HZ.out).mono ?_
      rintro e w2 ⟨B2, m2, d2, rfl, -, b2, -⟩
      have b12 := b1.trans (b2.mono b1.size)
      clear b1 b2
      go_wp2_with fail
      go_loopw [6] (fun i wr => StR n w i wr) (fun i _ => n - (intOf i).toNat)
      case atStart => exact ⟨0, Nat.zero_le _, rfl, b12⟩
      case round =>
        obtain ⟨k, hk, rfl, hb⟩ := hrel
        have hr := hch.below hb
        rcases Nat.lt_or_ge k n with hlt | hge
        · have hcne : ¬ c = k := by omega
          have hle3 : (n : Int) ≤ (c : Int) := by omega
          go_wp2_with fail
          refine (chk_good (hr.drop hlt) (by omega) (by omega) fun j hj => bds_shift hj (HZ.out _ (by omega))).mono ?_
          rintro e w3 ⟨B3, m3, d3, rfl, k3, b3, -⟩
          have k3 : Cn w3 B3 m3 d3 (S k).P := k3
          have g3 := hb.trans (b3.mono hb.size)
          have hr3 := hch.below g3
          obtain ⟨b', off', hbo, hb1, hcl⟩ := hr3.ex (by omega)
          simp only [Option.some.injEq, Addr.mk.injEq, and_true] at hbo
          obtain ⟨rfl, rfl⟩ := hbo
          have q0 := (hcl k hlt).c0
          have sa := hr3.at_ k hlt
          clear hcl b3 hcne
          have hl1 := (HSZ.out k hlt).1
          have hdl := (good_dl (HZ.out k hlt)).1
          go_wp2_with fail
          refine (of_nmb sa.p hl1).mono ?_
          rintro e w4 ⟨B4, m4, d4, rfl, k4, b4⟩
          have g4 := g3.trans (b4.mono g3.size)
          have k34 := k3.below b4
          have hd4 : m4 ≤ 100000 := by rw [k4.len_]; have := dr_le k4.pos hdl; omega
          clear b4 g3 k3 q0
          go_wp2_with fail
          refine (to_cn3 k4 hd4).mono ?_
          rintro e w5 ⟨B5, m5, d5, rfl, k5, b5⟩
          have g5 := g4.trans (b5.mono g4.size)
          have k35 := k34.below b5
          clear b5 g4 k34 k4 hd4
          go_wp2_with fail
          refine (same_cn k35 k5).mono ?_
          rintro e w6 ⟨rfl, b6⟩
          have g6 := g5.trans (b6.mono g5.size)
          have G6 := Lib.hid g6
          clear b6 g5 k35 k5 g6 sa hr3
          have hw1 : IntKind.i64.wrap ((k : Int) + 1) = (k : Int) + 1 := IntWalk.i64_in _ (by omega)
          go_wp2
          go_roundw
          case rel => exact ⟨k + 1, hlt, by go_num, G6.out⟩
          case measure => simp [intOf]; omega
        · obtain rfl : k = n := by omega
          by_cases hone : k = 1
          · subst hone
            have B := Lib.hid hb
            clear hb
            go_wp2
            go_ret
            exact ⟨rfl, B.out⟩
          · have h2 : 2 ≤ k := by omega
            have hw1 : IntKind.i64.wrap ((k : Int) - 1) = ((k - 1 : Nat) : Int) := by rw [IntWalk.i64_in _ (by omega)]; omega
            have hw2 : IntKind.i64.wrap (((k - 1 : Nat) : Int) - 1) = ((k - 2 : Nat) : Int) := by rw [IntWalk.i64_in _ (by omega)]; omega
            have t2 : (((k - 1 : Nat) : Int) == 0) = false := by simp; omega
            have hc2 : ((k - 1 : Nat) : Int) ≤ (c : Int) := by omega
            have ht := hr.take (m := k - 1) (by omega) (by omega)
            have hl2 := (HSZ.out (k - 2) (by omega)).2
            have hdl := (good_dl (HZ.out (k - 2) (by omega))).2
            have hq0 := (hch.at_ (k - 2) (by omega)).q.pos
            have hbl := bds_last (S := S) (n := k) (j := k - 2) (by omega) (HZ.out _ (by omega))
            by_cases hsm : Sm (S (k - 2)).Q
            · have HSM := Lib.hid hsm
              have hq1 : 1 ≤ (S (k - 2)).Q := by have := hsm.2.1; omega
              have hqW : (S (k - 2)).Q < W := by have := hsm.1; unfold W; omega
              have hgood : ∀ i, i < k - 1 → bdS S (k - 1) i = 0 := fun i hi => by
                rcases Nat.lt_or_ge (i + 1) (k - 1) with g | g
                · exact bds_less g (HZ.out i (by omega))
                · obtain rfl : i = k - 2 := by omega
                  exact hbl.1 hsm
              clear hsm hbl
              go_wp2_with fail
              refine (chk_good ht (by omega) (by omega) hgood).mono ?_
              rintro e w3 ⟨B3, m3, d3, rfl, -, b3, -⟩
              have g3 := hb.trans (b3.mono hb.size)
              have hr3 := hch.below g3
              obtain ⟨b', off', hbo, hb1, hcl⟩ := hr3.ex (by omega)
              simp only [Option.some.injEq, Addr.mk.injEq, and_true] at hbo
              obtain ⟨rfl, rfl⟩ := hbo
              have q1 := (hcl (k - 2) (by omega)).c1
              have sa := hr3.at_ (k - 2) (by omega)
              clear hcl b3
              go_wp2_with fail
              refine (of_nmb sa.q hl2).mono ?_
              rintro e w4 ⟨B4, m4, d4, rfl, k4, b4⟩
              have g4 := g3.trans (b4.mono g3.size)
              have hd4 : m4 ≤ 100000 := by rw [k4.len_]; have := dr_le k4.pos hdl; omega
              clear b4 g3 q1
              go_wp2_with fail
              refine (to_cn3 k4 hd4).mono ?_
              rintro e w5 ⟨B5, m5, d5, rfl, k5, b5⟩
              have g5 := g4.trans (b5.mono g4.size)
              have G5 := Lib.hid g5
              clear b5 g4 k4 hd4 g5 sa hr3
              obtain ⟨rfl, bb, oo, rfl, hbb, hcc⟩ := cn_one k5 hq1 hqW
              clear k5
              go_wp2_with fail
              refine (small_yes _ _ (by omega) hqW HSM.out).mono ?_
              rintro e w6 ⟨rfl, rfl⟩
              go_wp2
              go_ret
              exact ⟨rfl, G5.out⟩
            · have HSM := Lib.hid hsm
              have hnot : ¬ (1 ≤ k - 1 ∧ ∀ i, i < k - 1 → bdS S (k - 1) i = 0) := fun h => by
                have h1 := h.2 (k - 2) (by omega)
                rw [hbl.2 hsm] at h1
                cases h1
              clear hsm hbl
              by_cases hq : 1 ≤ (S (k - 2)).Q ∧ (S (k - 2)).Q < W
              · go_wp2_with fail
                refine (chk_bad ht (by omega) hnot).mono ?_
                rintro e w3 ⟨tt, vv, rfl, b3⟩
                have g3 := hb.trans (b3.mono hb.size)
                have hr3 := hch.below g3
                obtain ⟨b', off', hbo, hb1, hcl⟩ := hr3.ex (by omega)
                simp only [Option.some.injEq, Addr.mk.injEq, and_true] at hbo
                obtain ⟨rfl, rfl⟩ := hbo
                have q1 := (hcl (k - 2) (by omega)).c1
                have sa := hr3.at_ (k - 2) (by omega)
                clear hcl b3
                go_wp2_with fail
                refine (of_nmb sa.q hl2).mono ?_
                rintro e w4 ⟨B4, m4, d4, rfl, k4, b4⟩
                have g4 := g3.trans (b4.mono g3.size)
                have hd4 : m4 ≤ 100000 := by rw [k4.len_]; have := dr_le k4.pos hdl; omega
                clear b4 g3 q1
                go_wp2_with fail
                refine (to_cn3 k4 hd4).mono ?_
                rintro e w5 ⟨B5, m5, d5, rfl, k5, b5⟩
                have g5 := g4.trans (b5.mono g4.size)
                have G5 := Lib.hid g5
                clear b5 g4 k4 hd4 g5 sa hr3
                obtain ⟨rfl, bb, oo, rfl, hbb, hcc⟩ := cn_one k5 hq.1 hq.2
                clear k5
                go_wp2_with fail
                refine (small_no _ _ (by omega) hq.2 HSM.out).mono ?_
                rintro e w6 ⟨rfl, rfl⟩
                go_wp2
                go_ret
                exact ⟨rfl, G5.out⟩
              · have hq1 := dl_not_one hq0 hq
                clear hq
                go_wp2_with fail
                refine (chk_bad ht (by omega) hnot).mono ?_
                rintro e w3 ⟨tt, vv, rfl, b3⟩
                have g3 := hb.trans (b3.mono hb.size)
                have hr3 := hch.below g3
                obtain ⟨b', off', hbo, hb1, hcl⟩ := hr3.ex (by omega)
                simp only [Option.some.injEq, Addr.mk.injEq, and_true] at hbo
                obtain ⟨rfl, rfl⟩ := hbo
                have q1 := (hcl (k - 2) (by omega)).c1
                have sa := hr3.at_ (k - 2) (by omega)
                clear hcl b3
                go_wp2_with fail
                refine (of_nmb sa.q hl2).mono ?_
                rintro e w4 ⟨B4, m4, d4, rfl, k4, b4⟩
                have g4 := g3.trans (b4.mono g3.size)
                have hd4 : m4 ≤ 100000 := by rw [k4.len_]; have := dr_le k4.pos hdl; omega
                clear b4 g3 q1
                go_wp2_with fail
                refine (to_cn3 k4 hd4).mono ?_
                rintro e w5 ⟨B5, m5, d5, rfl, k5, b5⟩
                have g5 := g4.trans (b5.mono g4.size)
                have G5 := Lib.hid g5
                clear b5 g4 k4 hd4 g5 sa hr3
                have hm5 : m5 ≠ 1 := by rw [k5.len_]; exact hq1
                have t3 : ((m5 : Int) == 1) = false := by simp; omega
                have t4 : (m5 == 1) = false := by simp; omega
                clear k5 hq1
                go_wp2
                go_ret
                exact ⟨rfl, G5.out⟩
    · go_enter Tryd.func5, Tryd.ntmps5
      go_wp2_with fail
      refine (up_any w hg).mono ?_
      rintro e w1 ⟨rfl, b1⟩
      go_wp2_with fail
      refine (chk_bad (hch.below b1) (by omega) hz).mono ?_
      rintro e w2 ⟨t, v, rfl, b2⟩
      have b12 := b1.trans (b2.mono b1.size)
      clear b1 b2
      go_wp2
      go_ret
      exact ⟨rfl, b12⟩
end Go.Proofs.YtbgnjbalojcgkaaDoor
