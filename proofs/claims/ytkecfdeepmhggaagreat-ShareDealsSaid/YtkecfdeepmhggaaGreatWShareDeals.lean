/-
  ShareDeals answers true: Deal answers what the document says.
-/
import Derived.Test.YtkecfdeepmhggaaGreatWShareChecks
namespace Go.Proofs.YtkecfdeepmhggaaGreat
open Go.RowKit
set_option linter.unusedVariables false
/-- The loop over the shares, and the one over the commitments. -/
def SdR (q : Nat) (w : World) (i : Value) (wr : World) : Prop := ∃ j : Nat, j ≤ q ∧ i = .int .i64 j ∧ Below w.heap.size w wr
set_option maxHeartbeats 16000000 in
set_option maxRecDepth 100000 in
theorem shareDeals_walk {w : World} (x : Int) (hx : -9223372036854775808 ≤ x ∧ x ≤ 9223372036854775807) {A : Option Addr} {n c : Nat} {S : Nat → Nsl} (hl : Ns w A n c S) (m : Int) (hm : -9223372036854775808 ≤ m ∧ m ≤ 9223372036854775807) :
    Calls Tryz.prog 3 #[.int .i64 x, .slice A n c, .int .i64 m] w (AnsV (.bool true) w) := by
  have HX := Lib.hid hx
  have HM := Lib.hid hm
  have HL := Lib.hid hl
  clear hx hm hl
  go_enter Tryz.func3, Tryz.ntmps3
  go_wp2_with fail
  refine (up9_any _).mono ?_
  rintro e w2 ⟨rfl, b2⟩
  have B2 := Lib.hid b2
  clear b2
  go_wp2_with fail
  refine (known9_any x HX.out w2).mono ?_
  rintro e w3 ⟨b, d, b', r, rfl, gr, rg, eP, eQ, eG, b3⟩
  have B3 := Lib.hid (B2.out.trans (b3.mono B2.out.size))
  have GR := Lib.hid gr
  have RG := Lib.hid rg
  have EP := Lib.hid (And.intro eP (And.intro eQ eG))
  have HL3 := Lib.hid (HL.out.below B3.out)
  have q1 := gp_eq9 b
  clear b3 gr rg eP eQ eG
  go_wp2_with fail
  refine (light9_any HL3.out).mono ?_
  rintro e w4 ⟨⟨l1, rfl, hl1⟩, rfl⟩
  have HL1 := Lib.hid hl1
  clear hl1
  cases l1 with
  | false =>
    go_wp2_with fail
    go_ret
    exact ⟨rfl, B3.out⟩
  | true =>
  have LS := Lib.hid (HL1.out.1 (by trivial))
  clear HL1
  rcases Classical.em (12 < m ∧ m ≤ 255) with g | g
  · have d1 : decide (12 < m) = true := by simp; omega
    have d2 : decide (m ≤ 255) = true := by simp; omega
    go_wp2_with fail
    go_ret
    exact ⟨rfl, B3.out⟩
  have K : Hid (dlC S n m = 0 → m ≤ 12) := Lib.hid fun k => by
    unfold dlC at k
    split at k
    · rename_i hh
      have := hh.2.2.2
      omega
    · omega
  obtain ⟨C, hC⟩ : ∃ C, dlC S n m = C := ⟨_, rfl⟩
  have RC := Lib.hid (show C = 0 ∨ (1 ≤ C ∧ C ≤ 15) from hC ▸ dlC_rng)
  have HC := Lib.hid hC
  have kD := pdeal_any GR.out HL3.out m
  clear hC
  have key : ∀ Q : Prop, (∀ d1 : decide (12 < m) = false, Q) → (∀ d1 : decide (12 < m) = true, decide (m ≤ 255) = false → Q) → Q := fun Q h1 h2 => by
    by_cases g3 : 12 < m
    · exact h2 (decide_eq_true g3) (decide_eq_false (by omega))
    · exact h1 (decide_eq_false g3)
  have KD := Lib.hid kD
  clear g kD
  refine key _ (fun d1 => ?_) (fun d1 d2 => ?_)
  all_goals
    go_wp2_with fail
    refine KD.out.mono ?_
    rintro e w5 h5
    unfold DealP at h5
    rw [HC.out] at h5
    rcases h5 with ⟨hc, rfl, b5⟩ | ⟨hc, q, As, cs, T, Ac, cc, U, rfl, rfl, hsh, hsf, hns, hcf, b5⟩
    · have B5 := Lib.hid (B3.out.trans (b5.mono B3.out.size))
      have b35 := Lib.hid b5
      have hne := hc
      clear b5
      go_wp2_with fail
      refine (rdeal_any (RG.out.below b35.out) (HL3.out.below b35.out) (fun _ i hi => by have := (LS.out.2.2 i hi).1; omega) m).mono ?_
      rintro e w6 h6
      unfold DealV at h6
      rw [HC.out] at h6
      rcases h6 with ⟨-, rfl, b6⟩ | ⟨h0, -⟩
      rotate_left
      · exact absurd h0 hc
      have B6 := Lib.hid (B5.out.trans (b6.mono B5.out.size))
      have ec := code9_any RC.out w6
      rw [erv9_yes hc] at ec
      have EC := Lib.hid ec
      clear b6 ec hc hne
      go_wp2_with fail
      refine EC.out.mono ?_
      rintro e w7 ⟨rfl, rfl⟩
      go_wp2_with fail
      refine wp_loop_rounds 1 ?_
      rw [rounds_succ]
      go_wp2_with fail
      refine wp_loop_rounds 1 ?_
      rw [rounds_succ]
      go_wp2_with fail
      go_ret
      exact ⟨rfl, B6.out⟩
    · have hq12 : (q : Int) ≤ 12 := K.out (HC.out.trans hc)
      have B5 := Lib.hid (B3.out.trans (b5.mono B3.out.size))
      have b35 := Lib.hid b5
      have HSH := Lib.hid hsh
      have HSF := Lib.hid hsf
      have HNS := Lib.hid hns
      have HCF := Lib.hid hcf
      have hC0 := hc
      clear b5 hsh hsf hns hcf
      go_wp2_with fail
      refine (rdeal_any (RG.out.below b35.out) (HL3.out.below b35.out) (fun _ i hi => by have := (LS.out.2.2 i hi).1; omega) (q : Int)).mono ?_
      rintro e w6 h6
      unfold DealV at h6
      rw [HC.out] at h6
      rcases h6 with ⟨h0, -⟩ | ⟨-, q', As', cs', T', Ac', cc', U', hqq, rfl, hsh', hsf', hns', hcf', b6⟩
      · exact absurd hc h0
      obtain rfl : q' = q := by omega
      subst hC0
      rw [EP.out.2.1] at hsf'
      rw [EP.out.1, EP.out.2.1, EP.out.2.2] at hcf'
      have B6 := Lib.hid (B5.out.trans (b6.mono B5.out.size))
      have SH6 := Lib.hid (HSH.out.sh.below b6)
      have SH6' := Lib.hid hsh'
      have NS6 := Lib.hid (HNS.out.ns.below b6)
      have NS6' := Lib.hid hns'
      have FE := Lib.hid (show ∀ u, u < q' → (T u).I = (T' u).I ∧ (T u).N = (T' u).N ∧ (T u).n = dl (T u).N ∧ (T' u).n = dl (T' u).N from fun u hu => ⟨(HSF.out u hu).1.trans (hsf' u hu).1.symm, (HSF.out u hu).2.1.trans (hsf' u hu).2.1.symm, (HSF.out u hu).2.2, (hsf' u hu).2.2⟩)
      have CE := Lib.hid (show ∀ u, u < n → (U u).N = (U' u).N ∧ (U u).n = dl (U u).N ∧ (U' u).n = dl (U' u).N from fun u hu => ⟨(HCF.out u hu).1.trans (hcf' u hu).1.symm, (HCF.out u hu).2, (hcf' u hu).2⟩)
      have ec := fun W => code9_any (c := 0) (.inl rfl) W
      have EC := Lib.hid ec
      have n60 := HNS.out.ns.c60
      clear b6 hsh' hsf' hns' hcf' ec hc
      go_wp2_with fail
      refine (EC.out _).mono ?_
      rintro e w7 ⟨rfl, rfl⟩
      go_wp2_with fail
      go_loopw [17] (fun i wr => SdR q' w6 i wr) (fun i _ => q' - (intOf i).toNat)
      case atStart => exact ⟨0, Nat.zero_le _, rfl, Below.refl _ _⟩
      case round =>
        obtain ⟨j, hj, rfl, hbw⟩ := hrel
        have HB := Lib.hid hbw
        clear hbw
        rcases Nat.lt_or_ge j q' with hlt | hge
        · have hjq : (j : Int) < (q' : Int) := by omega
          obtain ⟨g1, o1, rfl, lg1, hc1⟩ := SH6.out.ex (by omega)
          obtain ⟨g2, o2, rfl, lg2, hc2⟩ := SH6'.out.ex (by omega)
          obtain ⟨i1, v1⟩ := hc1 j hlt
          obtain ⟨i2, v2⟩ := hc2 j hlt
          have i1' := (HB.out.cell (p := ⟨g1, o1 + j * 2, none⟩) lg1).trans i1
          have v1' := (HB.out.cell (p := ⟨g1, o1 + j * 2 + 1, none⟩) lg1).trans v1
          have i2' := (HB.out.cell (p := ⟨g2, o2 + j * 2, none⟩) lg2).trans i2
          have v2' := (HB.out.cell (p := ⟨g2, o2 + j * 2 + 1, none⟩) lg2).trans v2
          obtain ⟨eI, eN, l1, l2⟩ := FE.out j hlt
          have K1 := Lib.hid (((SH6.out.at_ j hlt).2.cn9 l1).below HB.out)
          have K2 := Lib.hid (((SH6'.out.at_ j hlt).2.cn9 l2).below HB.out)
          have EN := Lib.hid eN
          rw [← eI] at i2'
          have e5 : ((T j).I != (T j).I) = false := by simp
          clear i1 v1 i2 v2 hc1 hc2 l1 l2 eN eI
          go_wp2_with fail
          go_quiet ((go_at_call 12; exact same9q K1.out K2.out EN.out))
          go_wp2_with fail
          go_quiet (fail)
          go_wp2_with fail
          go_roundw
          case rel => exact ⟨j + 1, by omega, by go_num, below_drewN HB.out _⟩
          case measure => simp [intOf]; omega
        · obtain rfl : j = q' := by omega
          have hjq : decide ((j : Int) < (j : Int)) = false := by simp
          have NS7 := Lib.hid (NS6.out.below HB.out)
          have NS7' := Lib.hid (NS6'.out.below HB.out)
          have B7 := Lib.hid (B6.out.trans (HB.out.mono B6.out.size))
          clear HB SH6 SH6' FE
          go_wp2_with fail
          clear hjq
          obtain ⟨wl, hwl⟩ : ∃ wl, wl = wr := ⟨_, rfl⟩
          subst hwl
          go_loopw [19] (fun i wr => SdR n wl i wr) (fun i _ => n - (intOf i).toNat)
          case atStart => exact ⟨0, Nat.zero_le _, rfl, Below.refl _ _⟩
          case round =>
            obtain ⟨t, ht, rfl, hbw⟩ := hrel
            have HB := Lib.hid hbw
            clear hbw
            rcases Nat.lt_or_ge t n with hlt | hge
            · have htn : (t : Int) < (n : Int) := by omega
              obtain ⟨g1, o1, rfl, lg1, hc1⟩ := NS7.out.ex (by omega)
              obtain ⟨g2, o2, rfl, lg2, hc2⟩ := NS7'.out.ex (by omega)
              have v1' := (HB.out.cell (p := ⟨g1, o1 + t, none⟩) lg1).trans (hc1 t hlt)
              have v2' := (HB.out.cell (p := ⟨g2, o2 + t, none⟩) lg2).trans (hc2 t hlt)
              obtain ⟨eN, l1, l2⟩ := CE.out t hlt
              have K1 := Lib.hid (((NS7.out.at_ t hlt).cn9 l1).below HB.out)
              have K2 := Lib.hid (((NS7'.out.at_ t hlt).cn9 l2).below HB.out)
              have EN := Lib.hid eN
              clear hc1 hc2 l1 l2 eN
              go_wp2_with fail
              go_quiet ((go_at_call 12; exact same9q K1.out K2.out EN.out))
              go_wp2_with fail
              go_roundw
              case rel => exact ⟨t + 1, by omega, by go_num, below_drewN HB.out _⟩
              case measure => simp [intOf]; omega
            · obtain rfl : t = n := by omega
              have htn : decide ((t : Int) < (t : Int)) = false := by simp
              go_wp2_with fail
              go_ret
              exact ⟨rfl, B7.out.trans (HB.out.mono B7.out.size)⟩
end Go.Proofs.YtkecfdeepmhggaaGreat
