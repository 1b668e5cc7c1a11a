/-
  What the document's own Check answers.
-/
import Derived.Test.YtloibmemlkfkfaaGreatDoorRStep
import Derived.Test.YtloibmemlkfkfaaGreatDoorPri
import Derived.Test.YtloibmemlkfkfaaGreatDoorRSma
namespace Go.Proofs.YtloibmemlkfkfaaGreatDoor
open Go.RowKit
set_option linter.unusedVariables false
theorem rn_one {w : World} {B : Option Addr} {m cap : Nat} {x : Int} (h : Rn w B m cap x) (h0 : 1 ≤ x) (h1 : x < 65536) : m = 1 ∧ ∃ b off, B = some ⟨b, off, none⟩ ∧ b < w.heap.size ∧ w.cell? ⟨b, off, none⟩ = some (.int .i64 x) := by
  have hr := h.rd
  rw [dgD_one h0 h1] at hr
  have hm : m = 1 := hr.len.symm
  subst hm
  obtain ⟨b, off, y, rfl, hb, hy, hc⟩ := hr.at_ (j := 0) (by omega)
  obtain rfl : x = y := by simpa using hy
  exact ⟨rfl, b, off, rfl, hb, by simpa using hc⟩
theorem dr_not_one {Q : Int} (h0 : 0 ≤ Q) (h : ¬ (1 ≤ Q ∧ Q < 65536)) : dr Q ≠ 1 := by
  intro e
  have a := dg_lt_pow D_two h0 (show (dg D Q).length ≤ 1 from Nat.le_of_eq e)
  have b := dg_nil_iff D_two h0
  refine h ⟨?_, by simpa [Int.pow_succ, D] using a⟩
  rcases Int.lt_or_eq_of_le h0 with g | g
  · omega
  · have := b.2 g.symm
    unfold dr at e
    omega
/-- The number, 0, and no place. -/
def RGood (N : Int) (w : World) (e : Ending) (w' : World) : Prop :=
  ∃ B m cap, e = .returned (.tuple #[.slice B m cap, .int .i64 0, .int .i64 (-1)]) ∧ Cn w' B m cap N ∧ Below w.heap.size w w'
/-- No number, an error's number, and its place. -/
def RBad (k : Nat) (c : Int) (w : World) (e : Ending) (w' : World) : Prop :=
  e = .returned (.tuple #[.slice none 0 0, .int .i64 c, .int .i64 k]) ∧ Below w.heap.size w w'
def RChkP (S : Nat → Stp) (n : Nat) (w : World) (e : Ending) (w' : World) : Prop :=
  ((∀ i, i < n → bdS S n i = 0) ∧ RGood (S 0).P w e w') ∨ ∃ k c, k < n ∧ (∀ j, j < k → bdS S n j = 0) ∧ bdS S n k = c ∧ c ≠ 0 ∧ RBad k c w e w'
theorem rchk_arg {w : World} {a : Option Addr} {n c : Nat} (hn : n = 0 ∨ 64 < n) (h1 : n ≤ 9223372036854775807) :
    Calls Tryz.prog 71 #[.slice a n c] w fun e w' => e = .returned (.tuple #[.slice none 0 0, .int .i64 1, .int .i64 (-1)]) ∧ w = w' := by
  rcases hn with rfl | hn
  · go_enter Tryz.func71, Tryz.ntmps71
    go_wp2
    refine bodyPost_ret (v := .tuple #[.slice none 0 0, .int .i64 1, .int .i64 (-1)]) (by simp [results, Tryz.results71, go_sem]) rfl ⟨rfl, rfl⟩
  · have t1 : ((n : Int) == 0) = false := by simp; omega
    have t2 : (n == 0) = false := by simp; omega
    have t3 : decide ((64 : Int) < (n : Int)) = true := by simp; omega
    go_enter Tryz.func71, Tryz.ntmps71
    go_wp2
    refine bodyPost_ret (v := .tuple #[.slice none 0 0, .int .i64 1, .int .i64 (-1)]) (by simp [results, Tryz.results71, go_sem]) rfl ⟨rfl, rfl⟩
theorem rstep_code {w : World} {s : Stp} {c : Int} (h : s.At w) (l : s.n1 ≤ 1000 ∧ s.n2 ≤ 1000 ∧ s.n3 ≤ 1000) (hs : scS s = c) :
    Calls Tryz.prog 108 #[.agg #[.slice s.A1 s.n1 s.c1, .slice s.A2 s.n2 s.c2, .slice s.A3 s.n3 s.c3]] w (AnsV (.int .i64 c) w) := by
  have := rstep_any h l.1 l.2.1 l.2.2
  rwa [hs] at this
set_option maxHeartbeats 4000000 in
theorem rchk_any {w : World} {b off n c : Nat} {S : Nat → Stp} (h : Ch w (some ⟨b, off, none⟩) n c S) (h1 : 1 ≤ n) (h2 : n ≤ 64) (hl : ∀ i, i < n → (S i).n1 ≤ 1000 ∧ (S i).n2 ≤ 1000 ∧ (S i).n3 ≤ 1000) :
    Calls Tryz.prog 71 #[.slice (some ⟨b, off, none⟩) n c] w (RChkP S n w) := by
  have t1 : ((n : Int) == 0) = false := by simp; omega
  have t2 : (n == 0) = false := by simp; omega
  have hnc := h.nc
  have HL := Lib.hid hl
  clear hl
  go_enter Tryz.func71, Tryz.ntmps71
  go_wp2_with fail
  go_loopw [5] (fun i wr => ChkR S n w i wr) (fun i _ => n - (intOf i).toNat)
  case atStart => exact ⟨0, Nat.zero_le _, rfl, fun j h => absurd h (by omega), Below.refl _ _⟩
  case round =>
    obtain ⟨k, hk, rfl, hz, hb⟩ := hrel
    have HZ := Lib.hid hz
    clear hz
    have hr := h.below hb
    rcases Nat.lt_or_ge k n with hlt | hge
    · obtain ⟨b', off', hbo, hb1, hcl⟩ := hr.ex (by omega)
      simp only [Option.some.injEq, Addr.mk.injEq, and_true] at hbo
      obtain ⟨rfl, rfl⟩ := hbo
      have q0 := (hcl k hlt).c0
      have q1 := (hcl k hlt).c1
      have q2 := (hcl k hlt).c2
      have sa := hr.at_ k hlt
      have lk := HL.out k hlt
      clear hcl
      have hkk : (k : Int) < 64 := by omega
      by_cases hs : scS (S k) = 0
      · have HS := Lib.hid hs
        clear hs
        go_wp2_with fail
        refine (rstep_code sa lk HS.out).mono ?_
        rintro e w2 ⟨rfl, b2⟩
        have gb := hb.trans (b2.mono hb.size)
        have sa2 := sa.below b2
        have hr2 := hr.below b2
        clear q0 q1 q2 sa
        obtain ⟨b', off', hbo, hb2, hcl⟩ := hr2.ex (by omega)
        simp only [Option.some.injEq, Addr.mk.injEq, and_true] at hbo
        obtain ⟨rfl, rfl⟩ := hbo
        have q1 := (hcl k hlt).c1
        clear hcl b2
        go_wp2_with fail
        refine (of_nm sa2.q lk.2.1).mono ?_
        rintro e w3 ⟨B3, m3, d3, rfl, k3, b3⟩
        have gb3 := gb.trans (b3.mono gb.size)
        have hr3 := hr2.below b3
        have Q0 := k3.pos
        have hw : IntKind.i64.wrap ((k : Int) + 1) = (k : Int) + 1 := IntWalk.i64_in _ (by omega)
        have hdq : dr (S k).Q ≤ 256 := by
          have := (sc_zero HS.out).1
          exact dr_le Q0 (Nat.not_lt.1 fun g => this (.inr (.inl g)))
        have lm3 : m3 ≤ 256 := by rw [k3.len_]; exact hdq
        clear b3 gb q1 sa2 hr2 hdq
        rcases Nat.lt_or_ge (k + 1) n with hm | hm
        · obtain ⟨b', off', hbo, hb3, hcl⟩ := hr3.ex (by omega)
          simp only [Option.some.injEq, Addr.mk.injEq, and_true] at hbo
          obtain ⟨rfl, rfl⟩ := hbo
          have q0 := (hcl (k + 1) hm).c0
          have sn := hr3.at_ (k + 1) hm
          have ln := HL.out (k + 1) hm
          have t4 : decide ((k : Int) + 1 < (n : Int)) = true := by simp; omega
          have hle2 : (0 : Int) ≤ (k : Int) + 1 := by omega
          have hle5 : ((k : Int) + 1).toNat = k + 1 := by omega
          clear hcl
          go_wp2_with fail
          refine (of_nm sn.p ln.1).mono ?_
          rintro e w4 ⟨B4, m4, d4, rfl, k4, b4⟩
          have gb4 := gb3.trans (b4.mono gb3.size)
          have k34 := k3.below b4
          have lm4 : m4 ≤ 4000 := by
            rw [k4.len_]
            have := sn.p.dl_le
            have := dr_le k4.pos (Nat.le_trans this ln.1)
            omega
          clear b4 gb3 k3 q0
          by_cases hq : (S k).Q = (S (k + 1)).P
          · have HB := Lib.hid (show bdS S n k = 0 from bd_next (P := fun j => (S j).P) (Q := fun j => (S j).Q) (A := fun j => (S j).A) HS.out hm hq)
            have y1 := cmp_same hq
            clear hq
            go_wp2_with fail
            refine (rcmp_v k34 k4 (by omega) (by omega)).mono ?_
            rintro e w5 ⟨rfl, b5⟩
            have G := Lib.hid (gb4.trans (b5.mono gb4.size))
            clear b5 gb4 k34 k4 sn hr3
            go_wp2
            go_roundw
            case rel => exact ⟨k + 1, hlt, by go_num, fun j hj => by
              rcases Nat.lt_or_ge j k with g | g
              · exact HZ.out j g
              · obtain rfl : j = k := by omega
                exact HB.out, G.out⟩
            case measure => simp [intOf]; omega
          · have HB := Lib.hid (show bdS S n k = 7 from bd_join (P := fun j => (S j).P) (Q := fun j => (S j).Q) (A := fun j => (S j).A) HS.out hm hq)
            have y1 := cmp_ne hq
            clear hq
            go_wp2_with fail
            refine (rcmp_v k34 k4 (by omega) (by omega)).mono ?_
            rintro e w5 ⟨rfl, b5⟩
            have G := Lib.hid (gb4.trans (b5.mono gb4.size))
            clear b5 gb4 k34 k4 sn hr3
            go_wp2
            refine bodyPost_ret (v := .tuple #[.slice none 0 0, .int .i64 7, .int .i64 k]) (by simp [results, Tryz.results71, go_sem]) rfl ?_
            exact .inr ⟨k, 7, hlt, HZ.out, HB.out, by decide, rfl, G.out⟩
        · have t4 : decide ((k : Int) + 1 < (n : Int)) = false := by simp; omega
          have hnot : ¬ k + 1 < n := by omega
          have G := Lib.hid gb3
          clear gb3
          by_cases hsm : Sm (S k).Q
          · have HB := Lib.hid (show bdS S n k = 0 from bd_last (P := fun j => (S j).P) (Q := fun j => (S j).Q) (A := fun j => (S j).A) HS.out hnot hsm)
            have hq1 : 1 ≤ (S k).Q := by have := hsm.2.1; omega
            have hq2 : (S k).Q < 65536 := hsm.1
            obtain ⟨rfl, bb, oo, rfl, hbb, hcc⟩ := rn_one k3 hq1 hq2
            have rs := rsmall_any (S k).Q w3 Q0 (by omega)
            rw [sm_yes hsm] at rs
            clear hsm k3
            go_wp2_with fail
            refine rs.mono ?_
            rintro e w4 ⟨rfl, rfl⟩
            clear rs hcc
            go_wp2
            go_roundw
            case rel => exact ⟨k + 1, hlt, by go_num, fun j hj => by
              rcases Nat.lt_or_ge j k with g | g
              · exact HZ.out j g
              · obtain rfl : j = k := by omega
                exact HB.out, G.out⟩
            case measure => simp [intOf]; omega
          · have HB := Lib.hid (show bdS S n k = 7 from bd_end (P := fun j => (S j).P) (Q := fun j => (S j).Q) (A := fun j => (S j).A) HS.out hnot hsm)
            by_cases hq : 1 ≤ (S k).Q ∧ (S k).Q < 65536
            · obtain ⟨hq1, hq2⟩ := hq
              obtain ⟨rfl, bb, oo, rfl, hbb, hcc⟩ := rn_one k3 hq1 hq2
              have rs := rsmall_any (S k).Q w3 Q0 (by omega)
              rw [sm_no hsm] at rs
              clear hsm k3
              go_wp2_with fail
              refine rs.mono ?_
              rintro e w4 ⟨rfl, rfl⟩
              clear rs hcc
              go_wp2
              refine bodyPost_ret (v := .tuple #[.slice none 0 0, .int .i64 7, .int .i64 k]) (by simp [results, Tryz.results71, go_sem]) rfl ?_
              exact .inr ⟨k, 7, hlt, HZ.out, HB.out, by decide, rfl, G.out⟩
            · have hm3 : m3 ≠ 1 := by rw [k3.len_]; exact dr_not_one Q0 hq
              have t5 : ((m3 : Int) == 1) = false := by simp; omega
              have t6 : (m3 == 1) = false := by simp; omega
              clear k3 hq hsm
              go_wp2
              refine bodyPost_ret (v := .tuple #[.slice none 0 0, .int .i64 7, .int .i64 k]) (by simp [results, Tryz.results71, go_sem]) rfl ?_
              exact .inr ⟨k, 7, hlt, HZ.out, HB.out, by decide, rfl, G.out⟩
      · obtain ⟨cd, hcd⟩ : ∃ cd, scS (S k) = cd := ⟨_, rfl⟩
        have hc0 : cd ≠ 0 := hcd ▸ hs
        have HC0 := Lib.hid hc0
        have HCD := Lib.hid hcd
        have HB := Lib.hid (show bdS S n k = cd from (bd_own (P := fun j => (S j).P) (Q := fun j => (S j).Q) (A := fun j => (S j).A) (n := n) hs).trans hcd)
        have t3 : ((cd : Int) != 0) = true := by simpa using hc0
        have t3' : ((cd : Int) == 0) = false := by simpa using hc0
        clear hs hcd hc0
        go_wp2_with fail
        refine (rstep_code sa lk HCD.out).mono ?_
        rintro e w2 ⟨rfl, b2⟩
        have G := Lib.hid (hb.trans (b2.mono hb.size))
        clear b2 q0 q1 q2 sa
        go_wp2
        refine bodyPost_ret (v := .tuple #[.slice none 0 0, .int .i64 cd, .int .i64 k]) (by simp [results, Tryz.results71, go_sem]) rfl ?_
        exact .inr ⟨k, cd, hlt, HZ.out, HB.out, HC0.out, rfl, G.out⟩
    · obtain rfl : k = n := by omega
      obtain ⟨b', off', hbo, hb1, hcl⟩ := hr.ex (by omega)
      simp only [Option.some.injEq, Addr.mk.injEq, and_true] at hbo
      obtain ⟨rfl, rfl⟩ := hbo
      have q0 := (hcl 0 (by omega)).c0
      simp only [Nat.zero_mul, Nat.add_zero] at q0
      have sa := hr.at_ 0 (by omega)
      have lk := HL.out 0 (by omega)
      clear hcl
      go_wp2_with fail
      refine (of_nm sa.p lk.1).mono ?_
      rintro e w2 ⟨B2, m2, d2, rfl, k2, b2⟩
      have gb := hb.trans (b2.mono hb.size)
      have lm2 : m2 ≤ 4000 := by
        rw [k2.len_]
        have := sa.p.dl_le
        have := dr_le k2.pos (Nat.le_trans this lk.1)
        omega
      clear b2 q0
      go_wp2_with fail
      refine (to_cn k2 (by omega)).mono ?_
      rintro e w3 ⟨B3, m3, d3, rfl, k3, b3⟩
      have G := Lib.hid (gb.trans (b3.mono gb.size))
      have K3 := Lib.hid k3
      clear b3 gb k2 k3 sa
      go_wp2
      refine bodyPost_ret (v := .tuple #[.slice B3 m3 d3, .int .i64 0, .int .i64 (-1)]) (by simp [results, Tryz.results71, go_sem]) rfl ?_
      exact .inl ⟨HZ.out, _, _, _, rfl, K3.out, G.out⟩
end Go.Proofs.YtloibmemlkfkfaaGreatDoor
