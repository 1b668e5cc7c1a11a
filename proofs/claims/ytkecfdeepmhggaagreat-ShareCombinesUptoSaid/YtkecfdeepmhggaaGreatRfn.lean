/-
  Several texts in one: R9e, R9f, R9g, R9d.
-/
import Derived.Test.YtkecfdeepmhggaaGreatRfo
import Derived.Test.YtkecfdeepmhggaaGreatDoc
import Derived.Deep.QuietTactic
import Derived.BigQuiet
import Derived.Test.YtkecfdeepmhggaaGreatMxx
import Derived.Test.YtkecfdeepmhggaaGreatPkf
import Derived.Test.YtkecfdeepmhggaaGreatOwk
import Derived.Deep.RegionLaw
/-
  The document's layer 9: what places and Weight answer.
-/
namespace Go.Proofs.YtkecfdeepmhggaaGreat
open Go.RowKit
set_option linter.unusedVariables false
/-- A list of ints in memory. -/
structure Ils (w : World) (a : Option Addr) (n c : Nat) (X : Nat → Int) : Prop where
  nc : n ≤ c
  c60 : n ≤ 17592186044416
  ex : 0 < n → ∃ b off, a = some ⟨b, off, none⟩ ∧ b < w.heap.size ∧ ∀ i, i < n → w.cell? ⟨b, off + i, none⟩ = some (.int .i64 (X i))
  rg : ∀ i, i < n → -9223372036854775808 ≤ X i ∧ X i ≤ 9223372036854775807
theorem Ils.below {w w' : World} {a : Option Addr} {n c : Nat} {X : Nat → Int} (h : Ils w a n c X) (hb : Below w.heap.size w w') : Ils w' a n c X :=
  ⟨h.nc, h.c60, fun hn => by
    obtain ⟨b, off, e, hl, hc⟩ := h.ex hn
    exact ⟨b, off, e, Nat.lt_of_lt_of_le hl hb.size, fun i hi => (hb.cell (p := ⟨b, _, none⟩) hl).trans (hc i hi)⟩, h.rg⟩
/-- Several places at once. -/
def PlsI (Q : Int) (X : Nat → Int) (n : Nat) : Prop := 1 ≤ n ∧ n ≤ 255 ∧ 255 < Q ∧ (∀ i, i < n → PlI (X i)) ∧ ∀ i j, i < n → j < i → X j ≠ X i
theorem PlsI.ne {Q : Int} {X : Nat → Int} {n : Nat} (h : PlsI Q X n) : ∀ i j, i < n → j < n → i ≠ j → X i ≠ X j := fun i j hi hj ij e => by
  rcases Nat.lt_or_gt_of_ne ij with g | g
  · exact h.2.2.2.2 j i hj g e
  · exact h.2.2.2.2 i j hi g e.symm
section
variable {w : World} {b k : Nat} {r : Rgd}
def PoR (X : Nat → Int) (n : Nat) (w : World) (i : Value) (wr : World) : Prop :=
  ∃ t : Nat, i = .int .i64 t ∧ t ≤ n ∧ (∀ u, u < t → PlI (X u)) ∧ (∀ u v, u < t → v < u → X v ≠ X u) ∧ Below w.heap.size w wr
def PiR (X : Nat → Int) (t : Nat) (w : World) (i : Value) (wr : World) : Prop :=
  ∃ v : Nat, i = .int .i64 v ∧ v ≤ t ∧ (∀ u, u < v → X u ≠ X t) ∧ Below w.heap.size w wr
theorem cmpI_le {N M : Int} : decide (cmpI N M ≤ 0) = decide (N ≤ M) := by
  unfold cmpI
  split
  · simp; omega
  · split
    · simp; omega
    · simp; omega
set_option maxHeartbeats 400000 in
set_option maxRecDepth 100000 in
theorem rplaces_any (h : Rg7 w b r k) {A : Option Addr} {n c : Nat} {X : Nat → Int} (hl : Ils w A n c X) (s : Bool) (hs : s = true ↔ PlsI r.Q X n) :
    Calls Tryz.prog 51 #[.pointer (some ⟨b, 0, none⟩), .slice A n c] w (AnsV (.bool s) w) := by
  have n60 := hl.c60
  have HG := Lib.hid h
  have HL := Lib.hid hl
  have HS := Lib.hid hs
  have no : ¬ PlsI r.Q X n → s = false := fun q => by
    cases s with
    | false => rfl
    | true => exact absurd (hs.1 rfl) q
  have NO := Lib.hid no
  clear h hl hs no
  go_enter Tryz.func51, Tryz.ntmps51
  rcases Nat.lt_or_ge n 1 with g1 | g1
  · have e1 : decide ((n : Int) < 1) = true := by simp; omega
    have es := NO.out fun q => by have := q.1; omega
    subst es
    go_wp2_with fail
    go_quiet (fail)
    all_goals
      go_wp2_with fail
      go_ret
      exact ⟨rfl, below_drewN (Below.refl _ _) _⟩
  have e1 : decide ((n : Int) < 1) = false := by simp; omega
  rcases Nat.lt_or_ge 255 n with g2 | g2
  · have e2 : decide ((255 : Int) < (n : Int)) = true := by simp; omega
    have es := NO.out fun q => by have := q.2.1; omega
    subst es
    go_wp2_with fail
    go_quiet (fail)
    all_goals
      go_wp2_with fail
      go_ret
      exact ⟨rfl, below_drewN (Below.refl _ _) _⟩
  have e2 : decide ((255 : Int) < (n : Int)) = false := by simp; omega
  obtain ⟨q, hq⟩ : ∃ q, decide (cmpI r.Q 255 ≤ 0) = q := ⟨_, rfl⟩
  have HQ := Lib.hid (hq.symm.trans cmpI_le)
  have bd := below_dr w
  have BD := Lib.hid bd
  have GD := Lib.hid (HG.out.below bd)
  have v1 := GD.out.c1
  have LT := Lib.hid GD.out.lt
  clear bd
  go_wp2_with fail
  go_region_held (fun w' => w'.cell? ⟨b, 1, none⟩ = some (.slice r.AQ r.nQ r.cQ)) (first | exact v1 | exact f1 | exact f2 | go_keep | assumption)
    (first
    | (go_at_call 45; (with_reducible refine (rcmp_v (rn_bel9 GD.out.q C1.out) K1.out (by have := GD.out.lq; omega) (by have := N1.out; omega)).mono ?_); rintro e u2 ⟨rfl, b2⟩; have C2 := Lib.hid (C1.out.trans (b2.mono C1.out.size)); have f2 := (C2.out.cell (p := ⟨b, 1, none⟩) LT.out).trans v1; clear b2)
    | (go_at_call 44; (with_reducible refine (rsmall9 255 (by decide) (by decide) _).mono ?_); rintro e u1 ⟨D1, m1, d1, rfl, k1, b1⟩; have C1 := Lib.hid b1; have K1 := Lib.hid k1; have N1 := Lib.hid (show m1 ≤ 256 by
        have h1 := k1.len_
        have h2 := dr_le k1.pos (dl_sm9 k1.pos (by decide))
        omega); have f1 := (C1.out.cell (p := ⟨b, 1, none⟩) LT.out).trans v1; clear k1 b1))
  all_goals
    have B3 := Lib.hid (BD.out.trans (C2.out.mono BD.out.size))
    have LD := Lib.hid (HL.out.below B3.out)
    clear v1 f1 f2
    cases q with
    | true =>
      have es := NO.out fun q => by
        have h1 := q.2.2.1
        have h2 := of_decide_eq_true HQ.out.symm
        omega
      subst es
      go_wp2_with fail
      go_ret
      exact ⟨rfl, B3.out⟩
    | false =>
      have Q255 := Lib.hid (show 255 < r.Q by have := of_decide_eq_false HQ.out.symm; omega)
      obtain ⟨bA, off, rfl, hbA, hc⟩ := LD.out.ex (by omega)
      have HC := Lib.hid hc
      clear hq hc
      go_wp2_with fail
      go_loopw [5] (fun i wr => PoR X n u2 i wr) (fun i _ => n - (intOf i).toNat)
      case atStart => exact ⟨0, rfl, Nat.zero_le _, fun u h => absurd h (by omega), fun u v h => absurd h (by omega), Below.refl _ _⟩
      case round =>
        obtain ⟨t, rfl, ht, hpl, hne, hb⟩ := hrel
        have PL := Lib.hid hpl
        have NE := Lib.hid hne
        clear hpl hne
        rcases Nat.lt_or_ge t n with hlt | hge
        · have e3 : decide ((t : Int) < (n : Int)) = true := by simp; omega
          have hw1 : IntKind.i64.wrap ((t : Int) + 1) = (t : Int) + 1 := IntWalk.i64_in _ (by omega)
          have q0 := (hb.cell (p := ⟨bA, off + t, none⟩) hbA).trans (HC.out t hlt)
          go_wp2_with fail
          refine (rplace_any (X t) wr).mono ?_
          rintro e u3 ⟨rfl, rfl⟩
          rcases Classical.em (PlI (X t)) with g5 | g5
          · have e5 : decide (PlI (X t)) = true := by simp [g5]
            rw [e5]
            go_wp2_with fail
            go_loopw [7] (fun i wr => PiR X t u2 i wr) (fun i _ => t - (intOf i).toNat)
            case atStart => exact ⟨0, rfl, Nat.zero_le _, fun u h => absurd h (by omega), hb⟩
            case round =>
              obtain ⟨v, rfl, hv, hnv, hb⟩ := hrel
              have NV := Lib.hid hnv
              clear hnv
              rcases Nat.lt_or_ge v t with vlt | vge
              · have e6 : decide ((v : Int) < (t : Int)) = true := by simp; omega
                have hw2 : IntKind.i64.wrap ((v : Int) + 1) = (v : Int) + 1 := IntWalk.i64_in _ (by omega)
                have q1 := (hb.cell (p := ⟨bA, off + v, none⟩) hbA).trans (HC.out v (by omega))
                have q2 := (hb.cell (p := ⟨bA, off + t, none⟩) hbA).trans (HC.out t hlt)
                rcases Classical.em (X v = X t) with g6 | g6
                · have e7 : (X v == X t) = true := by simp [g6]
                  have es := NO.out fun q => q.2.2.2.2 t v hlt vlt g6
                  subst es
                  have B4 := Lib.hid (B3.out.trans (hb.mono B3.out.size))
                  go_wp2_with fail
                  go_quiet (fail)
                  all_goals
                    go_wp2_with fail
                    go_ret
                    exact ⟨rfl, below_drewN B4.out _⟩
                · have e7 : (X v == X t) = false := by simp [g6]
                  have NV2 := Lib.hid (show ∀ u, u < v + 1 → X u ≠ X t from fun u hu => by
                    rcases Nat.lt_or_ge u v with h | h
                    · exact NV.out u h
                    · obtain rfl : u = v := by omega
                      exact g6)
                  have HB := Lib.hid hb
                  go_wp2_with fail
                  go_quiet (fail)
                  all_goals
                    go_wp2_with fail
                    go_roundw
                    case rel => exact ⟨v + 1, by simp, vlt, NV2.out, below_drewN HB.out _⟩
                    case measure => simp [intOf]; omega
              · obtain rfl : v = t := by omega
                have e6 : decide ((v : Int) < (v : Int)) = false := by simp
                have PL2 := Lib.hid (show ∀ u, u < v + 1 → PlI (X u) from fun u hu => by
                  rcases Nat.lt_or_ge u v with h | h
                  · exact PL.out u h
                  · obtain rfl : u = v := by omega
                    exact g5)
                have NE2 := Lib.hid (show ∀ u z, u < v + 1 → z < u → X z ≠ X u from fun u z hu hz => by
                  rcases Nat.lt_or_ge u v with h | h
                  · exact NE.out u z h hz
                  · obtain rfl : u = v := by omega
                    exact NV.out z hz)
                go_wp2_with fail
                go_roundw
                case rel => exact ⟨v + 1, by simp, hlt, PL2.out, NE2.out, hb⟩
                case measure => simp [intOf]; omega
          · have e5 : decide (PlI (X t)) = false := by simp [g5]
            have es := NO.out fun q => g5 (q.2.2.2.1 t hlt)
            subst es
            rw [e5]
            have B4 := Lib.hid (B3.out.trans (hb.mono B3.out.size))
            go_wp2_with fail
            go_ret
            exact ⟨rfl, B4.out⟩
        · obtain rfl : t = n := by omega
          have e3 : decide ((t : Int) < (t : Int)) = false := by simp
          have es := HS.out.2 ⟨g1, g2, Q255.out, PL.out, NE.out⟩
          subst es
          have B4 := Lib.hid (B3.out.trans (hb.mono B3.out.size))
          go_wp2_with fail
          go_ret
          exact ⟨rfl, B4.out⟩
end
end Go.Proofs.YtkecfdeepmhggaaGreat
/-
  The document's layer 9: what Weight answers.
-/
namespace Go.Proofs.YtkecfdeepmhggaaGreat
open Go.RowKit
set_option linter.unusedVariables false
open Classical in
/-- What Weight says is amiss. -/
noncomputable def wgC (Q : Int) (X : Nat → Int) (n : Nat) (y : Int) : Int := if PlsI Q X n ∧ ∃ u, u < n ∧ X u = y then 0 else 1
section
variable {w : World} {b k : Nat} {r : Rgd}
def WaR (X : Nat → Int) (n : Nat) (y : Int) (w : World) (a i : Value) (wr : World) : Prop :=
  ∃ (t : Nat) (m : Bool), a = .bool m ∧ i = .int .i64 t ∧ t ≤ n ∧ (m = true ↔ ∃ u, u < t ∧ X u = y) ∧ Below w.heap.size w wr
def WgR (Q : Int) (X : Nat → Int) (n : Nat) (y : Int) (w : World) (o i : Value) (wr : World) : Prop :=
  ∃ t A1 n1 c1, o = .slice A1 n1 c1 ∧ i = .int .i64 (t : Nat) ∧ t ≤ n ∧ Rn wr A1 n1 c1 (wgN Q X y t) ∧ Below w.heap.size w wr
theorem pls_bool (Q : Int) (X : Nat → Int) (n : Nat) : ∃ s : Bool, s = true ↔ PlsI Q X n := by
  by_cases h : PlsI Q X n
  · exact ⟨true, fun _ => h, fun _ => rfl⟩
  · exact ⟨false, fun e => (by cases e), fun e => absurd e h⟩
theorem wgC_no {Q : Int} {X : Nat → Int} {n : Nat} {y : Int} (h : ¬ (PlsI Q X n ∧ ∃ u, u < n ∧ X u = y)) : wgC Q X n y = 1 := if_neg h
set_option maxHeartbeats 4000000 in
set_option maxRecDepth 100000 in
theorem rweight_any (h : Rg7 w b r k) {A : Option Addr} {n c : Nat} {X : Nat → Int} (hl : Ils w A n c X) (y : Int) :
    Calls Tryz.prog 21 #[.pointer (some ⟨b, 0, none⟩), .slice A n c, .int .i64 y] w (DocN (wgC r.Q X n y) (wgN r.Q X y n) w) := by
  have n60 := hl.c60
  have Q0 := Lib.hid (show 0 < r.Q by have := h.safe.q1; omega)
  have Q2 := Lib.hid (show 2 ≤ r.Q by have := h.safe.q3; omega)
  have HG := Lib.hid h
  have HL := Lib.hid hl
  obtain ⟨s, hs⟩ := pls_bool r.Q X n
  have HS := Lib.hid hs
  clear h hl hs
  go_enter Tryz.func21, Tryz.ntmps21
  go_wp2_with fail
  refine (rplaces_any HG.out HL.out s HS.out).mono ?_
  rintro e w1 ⟨rfl, b1⟩
  have C1 := Lib.hid b1
  have LD := Lib.hid (HL.out.below b1)
  clear b1
  go_wp2_with fail
  go_loopw [9, 10] (fun a i wr => WaR X n y w1 a i wr) (fun _ i _ => n - (intOf i).toNat)
  case atStart => exact ⟨0, false, rfl, rfl, Nat.zero_le _, ⟨fun h => (by cases h), fun ⟨u, h, _⟩ => absurd h (by omega)⟩, Below.refl _ _⟩
  case round =>
    obtain ⟨t, m, rfl, rfl, ht, hm, hb⟩ := hrel
    have HM := Lib.hid hm
    have HB := Lib.hid hb
    clear hm
    rcases Nat.lt_or_ge t n with hlt | hge
    · have e3 : decide ((t : Int) < (n : Int)) = true := by simp; omega
      have hw1 : IntKind.i64.wrap ((t : Int) + 1) = (t : Int) + 1 := IntWalk.i64_in _ (by omega)
      obtain ⟨bA, off, rfl, hbA, hc⟩ := LD.out.ex (by omega)
      have q0 := (hb.cell (p := ⟨bA, off + t, none⟩) hbA).trans (hc t hlt)
      clear hc
      cases m with
      | true =>
        have HM2 := Lib.hid (show true = true ↔ ∃ u, u < t + 1 ∧ X u = y from ⟨fun _ => by
          obtain ⟨u, h1, h2⟩ := HM.out.1 rfl
          exact ⟨u, by omega, h2⟩, fun _ => rfl⟩)
        go_wp2_with fail
        go_roundw
        case rel => exact ⟨t + 1, true, rfl, by simp, hlt, HM2.out, HB.out⟩
        case measure => simp [intOf]; omega
      | false =>
        have HM2 := Lib.hid (show (X t == y) = true ↔ ∃ u, u < t + 1 ∧ X u = y from ⟨fun h => ⟨t, by omega, by simpa using h⟩, fun ⟨u, h1, h2⟩ => by
          rcases Nat.lt_or_ge u t with g | g
          · exact absurd (HM.out.2 ⟨u, g, h2⟩) (by decide)
          · obtain rfl : u = t := by omega
            simp [h2]⟩)
        go_wp2_with fail
        go_roundw
        case rel => exact ⟨t + 1, _, rfl, by simp, hlt, HM2.out, HB.out⟩
        case measure => simp [intOf]; omega
    · obtain rfl : t = n := by omega
      have e3 : decide ((t : Int) < (t : Int)) = false := by simp
      have B2 := Lib.hid (C1.out.trans (hb.mono C1.out.size))
      clear hb
      cases s with
      | false =>
        have ec : wgC r.Q X t y = 1 := wgC_no fun q => by have := HS.out.2 q.1; cases this
        go_wp2_with fail
        go_ret2
        try rw [ec]
        exact docN_no (by decide) rfl B2.out
      | true =>
        cases m with
        | false =>
          have ec : wgC r.Q X t y = 1 := wgC_no fun q => by have := HM.out.2 q.2; cases this
          go_wp2_with fail
          go_ret2
          try rw [ec]
          exact docN_no (by decide) rfl B2.out
        | true =>
          have PL := Lib.hid (HS.out.1 rfl)
          have AM := Lib.hid (HM.out.1 rfl)
          have ec : wgC r.Q X t y = 0 := if_pos ⟨PL.out, AM.out⟩
          have EC := Lib.hid ec
          have y01 : 1 ≤ y ∧ y ≤ 255 := by
            obtain ⟨u, h1, h2⟩ := AM.out
            rw [← h2]
            exact PL.out.2.2.2.1 u h1
          have y0 : 0 ≤ y := by omega
          have y1 := y01.2
          clear ec e3 y01
          go_wp2_with fail
          refine (rone_any _).mono ?_
          rintro e w2 ⟨B1, m1, p1, rfl, k1, b2⟩
          have K1 := Lib.hid k1
          have C2 := Lib.hid (B2.out.trans (b2.mono B2.out.size))
          clear k1 b2
          go_wp2_with fail
          go_loopw [11, 12] (fun o i wr => WgR r.Q X t y w o i wr) (fun _ i _ => t - (intOf i).toNat)
          case atStart => exact ⟨0, _, _, _, rfl, rfl, Nat.zero_le _, K1.out, C2.out⟩
          case round =>
            obtain ⟨z, A1, n1, c1, rfl, rfl, hz, k1, hb⟩ := hrel
            have C3 := Lib.hid hb
            have HB := Lib.hid hb
            rcases Nat.lt_or_ge z t with hlt | hge
            · have e3 : decide ((z : Int) < (t : Int)) = true := by simp; omega
              have hw1 : IntKind.i64.wrap ((z : Int) + 1) = (z : Int) + 1 := IntWalk.i64_in _ (by omega)
              have LW := Lib.hid (HL.out.below C3.out)
              obtain ⟨bA, off, rfl, hbA, hc⟩ := LW.out.ex (by omega)
              have q0 := hc z hlt
              clear hc hb
              rcases Classical.em (X z = y) with g | g
              · have e4 : (X z == y) = true := by simp [g]
                have K1 := Lib.hid (show Rn wr A1 n1 c1 (wgN r.Q X y (z + 1)) by rw [wgN, if_pos g]; exact k1)
                clear k1
                go_wp2_with fail
                go_roundw
                case rel => exact ⟨z + 1, _, _, _, rfl, by simp, hlt, K1.out, HB.out⟩
                case measure => simp [intOf]; omega
              · have e4 : (X z == y) = false := by simp [g]
                have px := PL.out.2.2.2.1 z hlt
                have x0 : 0 ≤ X z := by have := px.1; omega
                have x1 := px.2
                have yle : y ≤ X z + r.Q := by have := PL.out.2.2.1; omega
                have WN := Lib.hid (show wgN r.Q X y (z + 1) = wgN r.Q X y z * X z * (((X z + r.Q - y) % r.Q) ^ (r.Q - 2).toNat % r.Q) % r.Q from by rw [wgN, if_neg g]; rfl)
                have bd := below_dr wr
                have aB := Lib.hid (C3.out.trans (bd.mono C3.out.size))
                have aG := Lib.hid (HG.out.below aB.out)
                have aO := Lib.hid (k1.below bd)
                have l1 : n1 ≤ 300 := HG.out.q3 k1 (Int.le_of_lt (wgN_rng Q2.out z).2)
                have ra0 := aG.out.c1
                have sa0 := (bd.cell (p := ⟨bA, off + z, none⟩) hbA).trans q0
                have aT := Lib.hid aG.out.lt
                have aA := Lib.hid (Nat.lt_of_lt_of_le hbA bd.size)
                have a0C := Lib.hid (Below.refl wr.drew.heap.size wr.drew)
                clear bd k1 px
                go_wp2_with fail
                go_region_held (fun w' => w'.cell? ⟨b, 1, none⟩ = some (.slice r.AQ r.nQ r.cQ) ∧ w'.cell? ⟨bA, off + z, none⟩ = some (.int .i64 (X z))) (first | exact ⟨ra5, sa5⟩ | exact ⟨ra4, sa4⟩ | exact ⟨ra3, sa3⟩ | exact ⟨ra2, sa2⟩ | exact ⟨ra1, sa1⟩ | exact ⟨ra0, sa0⟩ | go_keep | assumption)
                (first
                | (go_at_call 42; (with_reducible refine (rrest_any a4K.out (rn_bel9 aG.out.q a4C.out) (by have := a4N.out; omega) (by have := aG.out.lq; omega) Q0.out).mono ?_); rintro e ua5 ⟨Da5, ma5, da5, rfl, ka5, ba5⟩; have a5C := Lib.hid (a4C.out.trans (ba5.mono a4C.out.size)); have a5K := Lib.hid ka5; have a5N := Lib.hid (show ma5 ≤ 300 by
                  have h1 := ka5.len_
                  have h2 := aG.out.q3 ka5 (Int.le_of_lt (Int.emod_lt_of_pos _ Q0.out))
                  omega); have ra5 := (a5C.out.cell (p := ⟨b, 1, none⟩) aT.out).trans ra0; have sa5 := (a5C.out.cell (p := ⟨bA, off + z, none⟩) aA.out).trans sa0; clear ka5 ba5)
                | (go_at_call 52; (with_reducible refine (rsub_any a2M.out a3K.out (by have := a2N.out; omega) yle).mono ?_); rintro e ua4 ⟨Da4, ma4, da4, rfl, ka4, ba4⟩; have a4C := Lib.hid (a3C.out.trans (ba4.mono a3C.out.size)); have a4K := Lib.hid ka4; have a4N := Lib.hid (show ma4 ≤ 301 by
                  have h1 := ka4.len_
                  have h2 := dr_mono ka4.pos (show X z + r.Q - y ≤ X z + r.Q by omega)
                  have h3 := a2K.out.len_
                  have h4 := a2N.out
                  omega); have ra4 := (a4C.out.cell (p := ⟨b, 1, none⟩) aT.out).trans ra0; have sa4 := (a4C.out.cell (p := ⟨bA, off + z, none⟩) aA.out).trans sa0; clear ka4 ba4)
                | (go_at_call 44; (with_reducible refine (rsmall9 y y0 y1 _).mono ?_); rintro e ua3 ⟨Da3, ma3, da3, rfl, ka3, ba3⟩; have a3C := Lib.hid (a2C.out.trans (ba3.mono a2C.out.size)); have a3K := Lib.hid ka3; have a3N := Lib.hid (show ma3 ≤ 256 by
                  have h1 := ka3.len_
                  have h2 := dr_le ka3.pos (dl_sm9 ka3.pos (by omega))
                  omega); have a2M := Lib.hid (a2K.out.below ba3); have ra3 := (a3C.out.cell (p := ⟨b, 1, none⟩) aT.out).trans ra0; have sa3 := (a3C.out.cell (p := ⟨bA, off + z, none⟩) aA.out).trans sa0; clear ka3 ba3)
                | (go_at_call 53; (with_reducible refine (radd_any a1K.out (rn_bel9 aG.out.q a1C.out) (by have := a1N.out; omega) (by have := aG.out.lq; omega)).mono ?_); rintro e ua2 ⟨Da2, ma2, da2, rfl, ka2, ba2⟩; have a2C := Lib.hid (a1C.out.trans (ba2.mono a1C.out.size)); have a2K := Lib.hid ka2; have a2N := Lib.hid (show ma2 ≤ 301 by
                  have h1 := ka2.len_
                  have h2 := dr_add9 a1K.out.pos aG.out.q.pos (m := 300) (by have h3 := a1K.out.len_; have h4 := a1N.out; omega) (by have h3 := aG.out.q.len_; have h4 := aG.out.lq; omega)
                  omega); have ra2 := (a2C.out.cell (p := ⟨b, 1, none⟩) aT.out).trans ra0; have sa2 := (a2C.out.cell (p := ⟨bA, off + z, none⟩) aA.out).trans sa0; clear ka2 ba2)
                | (go_at_call 44; (with_reducible refine (rsmall9 (X z) x0 x1 _).mono ?_); rintro e ua1 ⟨Da1, ma1, da1, rfl, ka1, ba1⟩; have a1C := Lib.hid (a0C.out.trans (ba1.mono a0C.out.size)); have a1K := Lib.hid ka1; have a1N := Lib.hid (show ma1 ≤ 256 by
                  have h1 := ka1.len_
                  have h2 := dr_le ka1.pos (dl_sm9 ka1.pos (by omega))
                  omega); have ra1 := (a1C.out.cell (p := ⟨b, 1, none⟩) aT.out).trans ra0; have sa1 := (a1C.out.cell (p := ⟨bA, off + z, none⟩) aA.out).trans sa0; clear ka1 ba1))
                all_goals
                  have bd := below_dr ua5
                  have bD := Lib.hid (a5C.out.trans (bd.mono a5C.out.size))
                  have bB := Lib.hid (aB.out.trans (bD.out.mono aB.out.size))
                  have bG := Lib.hid (HG.out.below bB.out)
                  have bY := Lib.hid (a5K.out.below bd)
                  have bO := Lib.hid (rn_bel9 aO.out bD.out)
                  have rb0 := bG.out.c1
                  have sb0 := (bD.out.cell (p := ⟨bA, off + z, none⟩) aA.out).trans sa0
                  have bT := Lib.hid bG.out.lt
                  have bA' := Lib.hid (Nat.lt_of_lt_of_le aA.out bD.out.size)
                  have b0C := Lib.hid (Below.refl ua5.drew.heap.size ua5.drew)
                  clear bd
                  go_wp2_with fail
                  go_region_held (fun w' => w'.cell? ⟨b, 1, none⟩ = some (.slice r.AQ r.nQ r.cQ) ∧ w'.cell? ⟨bA, off + z, none⟩ = some (.int .i64 (X z))) (first | exact ⟨rb3, sb3⟩ | exact ⟨rb2, sb2⟩ | exact ⟨rb1, sb1⟩ | exact ⟨rb0, sb0⟩ | go_keep | assumption)
                (first
                | (go_at_call 54; (with_reducible refine (rexp_any (rn_bel9 bY.out b2C.out) b2K.out (rn_bel9 bG.out.q b2C.out) a5N.out b2N.out bG.out.lq Q0.out).mono ?_); rintro e ub3 ⟨Db3, mb3, db3, rfl, kb3, bb3⟩; have b3C := Lib.hid (b2C.out.trans (bb3.mono b2C.out.size)); have b3K := Lib.hid kb3; have b3N := Lib.hid (show mb3 ≤ 300 by
                  have h1 := kb3.len_
                  have h2 := bG.out.q3 kb3 (Int.le_of_lt (Int.emod_lt_of_pos _ Q0.out))
                  omega); have rb3 := (b3C.out.cell (p := ⟨b, 1, none⟩) bT.out).trans rb0; have sb3 := (b3C.out.cell (p := ⟨bA, off + z, none⟩) bA'.out).trans sb0; clear kb3 bb3)
                | (go_at_call 52; (with_reducible refine (rsub_any (rn_bel9 bG.out.q b1C.out) b1K.out (by have := bG.out.lq; omega) Q2.out).mono ?_); rintro e ub2 ⟨Db2, mb2, db2, rfl, kb2, bb2⟩; have b2C := Lib.hid (b1C.out.trans (bb2.mono b1C.out.size)); have b2K := Lib.hid kb2; have b2N := Lib.hid (show mb2 ≤ 300 by
                  have h1 := kb2.len_
                  have h2 := dr_mono kb2.pos (show r.Q - 2 ≤ r.Q by omega)
                  have h3 := bG.out.q.len_
                  have h4 := bG.out.lq
                  omega); have rb2 := (b2C.out.cell (p := ⟨b, 1, none⟩) bT.out).trans rb0; have sb2 := (b2C.out.cell (p := ⟨bA, off + z, none⟩) bA'.out).trans sb0; clear kb2 bb2)
                | (go_at_call 44; (with_reducible refine (rsmall9 2 (by decide) (by decide) _).mono ?_); rintro e ub1 ⟨Db1, mb1, db1, rfl, kb1, bb1⟩; have b1C := Lib.hid (b0C.out.trans (bb1.mono b0C.out.size)); have b1K := Lib.hid kb1; have b1N := Lib.hid (show mb1 ≤ 256 by
                  have h1 := kb1.len_
                  have h2 := dr_le kb1.pos (dl_sm9 kb1.pos (by omega))
                  omega); have rb1 := (b1C.out.cell (p := ⟨b, 1, none⟩) bT.out).trans rb0; have sb1 := (b1C.out.cell (p := ⟨bA, off + z, none⟩) bA'.out).trans sb0; clear kb1 bb1))
                  all_goals
                    have bd := below_dr ub3
                    have cD := Lib.hid (b3C.out.trans (bd.mono b3C.out.size))
                    have cB := Lib.hid (bB.out.trans (cD.out.mono bB.out.size))
                    have cG := Lib.hid (HG.out.below cB.out)
                    have cI := Lib.hid (b3K.out.below bd)
                    have cO := Lib.hid (rn_bel9 bO.out cD.out)
                    have rc0 := cG.out.c1
                    have sc0 := (cD.out.cell (p := ⟨bA, off + z, none⟩) bA'.out).trans sb0
                    have cT := Lib.hid cG.out.lt
                    have cA := Lib.hid (Nat.lt_of_lt_of_le bA'.out cD.out.size)
                    have c0C := Lib.hid (Below.refl ub3.drew.heap.size ub3.drew)
                    clear bd
                    go_wp2_with fail
                    go_region_held (fun w' => w'.cell? ⟨b, 1, none⟩ = some (.slice r.AQ r.nQ r.cQ) ∧ w'.cell? ⟨bA, off + z, none⟩ = some (.int .i64 (X z))) (first | exact ⟨rc4, sc4⟩ | exact ⟨rc3, sc3⟩ | exact ⟨rc2, sc2⟩ | exact ⟨rc1, sc1⟩ | exact ⟨rc0, sc0⟩ | go_keep | assumption)
                (first
                | (go_at_call 42; (with_reducible refine (rrest_any c3K.out (rn_bel9 cG.out.q c3C.out) (by have := c3N.out; omega) (by have := cG.out.lq; omega) Q0.out).mono ?_); rintro e uc4 ⟨Dc4, mc4, dc4, rfl, kc4, bc4⟩; have c4C := Lib.hid (c3C.out.trans (bc4.mono c3C.out.size)); have c4K := Lib.hid kc4; have rc4 := (c4C.out.cell (p := ⟨b, 1, none⟩) cT.out).trans rc0; have sc4 := (c4C.out.cell (p := ⟨bA, off + z, none⟩) cA.out).trans sc0; clear kc4 bc4)
                | (go_at_call 43; (with_reducible refine (rmul_any c2K.out (rn_bel9 cI.out c2C.out) (by have := c2N.out; omega) (by have := b3N.out; omega)).mono ?_); rintro e uc3 ⟨Dc3, mc3, dc3, rfl, kc3, bc3⟩; have c3C := Lib.hid (c2C.out.trans (bc3.mono c2C.out.size)); have c3K := Lib.hid kc3; have c3N := Lib.hid (show mc3 ≤ 856 by
                  have h1 := kc3.len_
                  have h3 := dr_mul c2K.out.pos cI.out.pos
                  have h4 := c2K.out.len_
                  have h5 := cI.out.len_
                  have h6 := c2N.out
                  have h7 := b3N.out
                  omega); have rc3 := (c3C.out.cell (p := ⟨b, 1, none⟩) cT.out).trans rc0; have sc3 := (c3C.out.cell (p := ⟨bA, off + z, none⟩) cA.out).trans sc0; clear kc3 bc3)
                | (go_at_call 43; (with_reducible refine (rmul_any (rn_bel9 cO.out c1C.out) c1K.out (by omega) (by have := c1N.out; omega)).mono ?_); rintro e uc2 ⟨Dc2, mc2, dc2, rfl, kc2, bc2⟩; have c2C := Lib.hid (c1C.out.trans (bc2.mono c1C.out.size)); have c2K := Lib.hid kc2; have c2N := Lib.hid (show mc2 ≤ 556 by
                  have h1 := kc2.len_
                  have h3 := dr_mul cO.out.pos c1K.out.pos
                  have h4 := cO.out.len_
                  have h5 := c1K.out.len_
                  have h6 := c1N.out
                  omega); have rc2 := (c2C.out.cell (p := ⟨b, 1, none⟩) cT.out).trans rc0; have sc2 := (c2C.out.cell (p := ⟨bA, off + z, none⟩) cA.out).trans sc0; clear kc2 bc2)
                | (go_at_call 44; (with_reducible refine (rsmall9 (X z) x0 x1 _).mono ?_); rintro e uc1 ⟨Dc1, mc1, dc1, rfl, kc1, bc1⟩; have c1C := Lib.hid (c0C.out.trans (bc1.mono c0C.out.size)); have c1K := Lib.hid kc1; have c1N := Lib.hid (show mc1 ≤ 256 by
                  have h1 := kc1.len_
                  have h2 := dr_le kc1.pos (dl_sm9 kc1.pos (by omega))
                  omega); have rc1 := (c1C.out.cell (p := ⟨b, 1, none⟩) cT.out).trans rc0; have sc1 := (c1C.out.cell (p := ⟨bA, off + z, none⟩) cA.out).trans sc0; clear kc1 bc1))
                    all_goals
                      have hB9 := Lib.hid (cB.out.trans (c4C.out.mono cB.out.size))
                      go_wp2_with fail
                      go_roundw
                      case rel => exact ⟨z + 1, _, _, _, rfl, by simp, hlt, by rw [WN.out]; exact c4K.out, hB9.out⟩
                      case measure => simp [intOf]; omega
            · obtain rfl : z = t := by omega
              have e3 : decide ((z : Int) < (z : Int)) = false := by simp
              have K1 := Lib.hid k1
              clear hb k1
              go_wp2_with fail
              go_ret2
              try rw [EC.out]
              exact ⟨_, _, _, rfl, by rw [if_pos rfl]; exact K1.out, C3.out⟩
end
end Go.Proofs.YtkecfdeepmhggaaGreat
/-
  The document's layer 9: what Combine answers.
-/
namespace Go.Proofs.YtkecfdeepmhggaaGreat
open Go.RowKit
set_option linter.unusedVariables false
open Classical in
/-- What Combine says is amiss. -/
noncomputable def cbC (Q : Int) (S : Nat → Shr) (n : Nat) : Int := if PlsI Q (fun i => (S i).I) n then (if ∃ i, i < n ∧ 64 < dl (S i).N then 2 else 0) else 1
theorem of_nm9w {w : World} {A : Option Addr} {n c : Nat} {X : Int} (h : Nm w A n c X) (hn : n ≤ 1000000000000) : Calls Tryz.prog 35 #[.slice A n c] w (AnsN X w) := by
  obtain ⟨⟨ys, y1, y2, y3⟩, -, -, -⟩ := h
  have := (of_wide A n c ys w y1 y2 hn).mono fun e w' ⟨B, m, cap, h1, h2, h3, _⟩ => (⟨B, m, cap, h1, h2, h3⟩ : AnsN (val W ys) w e w')
  rwa [y3] at this
theorem infoI9 : (Tryz.prog.info? 3).map (fun i => (i.zero, i.size, i.bytes)) = some (some (.int .i64 0), 1, 8) := by kernel_rfl
theorem one_at9 (w : World) (u : Value) (t : TypeId) : (w.alloc (.cells #[u] t)).cell? ⟨w.heap.size, 0, none⟩ = some u := by simp [World.cell?_alloc_at]
theorem Owg.ils {e : TypeId} {w : World} {base : Nat} {v : Value} {n : Nat} {L X : Nat → Int} (h : Owg kInt e w base v n L) (hn : n ≤ 17592186044416) (hL : ∀ u, u < n → L u = X u) (hX : ∀ u, u < n → -9223372036854775808 ≤ X u ∧ X u ≤ 9223372036854775807) : ∃ A c, v = .slice A n c ∧ Ils w A n c X := by
  obtain ⟨A, c, rfl, hnc, hb, hc⟩ := h.form
  refine ⟨A, c, rfl, hnc, hn, fun h0 => ?_, hX⟩
  obtain ⟨g, eg, hl, hx⟩ := hc h0
  refine ⟨g, 0, eg, hl, fun i hi => ?_⟩
  rw [Nat.zero_add, ← hL i hi]
  exact hx i hi
section
variable {w : World} {b k : Nat} {r : Rgd}
def CaR (S : Nat → Shr) (n : Nat) (w : World) (v i : Value) (wr : World) : Prop :=
  ∃ (t : Nat) (L : Nat → Int), i = .int .i64 t ∧ t ≤ n ∧ Owg kInt 3 wr w.heap.size v t L ∧ (∀ u, u < t → L u = (S u).I) ∧ Below w.heap.size w wr
def ClR (S : Nat → Shr) (n : Nat) (w : World) (i : Value) (wr : World) : Prop :=
  ∃ t : Nat, i = .int .i64 t ∧ t ≤ n ∧ (∀ u, u < t → dl (S u).N ≤ 64) ∧ w = wr
def CsR (Q : Int) (S : Nat → Shr) (n : Nat) (w : World) (s i : Value) (wr : World) : Prop :=
  ∃ t A1 n1 c1, s = .slice A1 n1 c1 ∧ i = .int .i64 (t : Nat) ∧ t ≤ n ∧ Rn wr A1 n1 c1 (cbN Q (fun i => (S i).I) (fun i => (S i).N) n t) ∧ Below w.heap.size w wr
set_option maxHeartbeats 4000000 in
set_option maxRecDepth 100000 in
theorem rcombine_any (h : Rg7 w b r k) {A : Option Addr} {n c : Nat} {S : Nat → Shr} (hl : Shs w A n c S) (hn : n ≤ 1000) (hS : ∀ i, i < n → (S i).n ≤ 1000000000000) :
    Calls Tryz.prog 22 #[.pointer (some ⟨b, 0, none⟩), .slice A n c] w (DocN (cbC r.Q S n) (cbN r.Q (fun i => (S i).I) (fun i => (S i).N) n n) w) := by
  have Q0 := Lib.hid (show 0 < r.Q by have := h.safe.q1; omega)
  have Q2 := Lib.hid (show 2 ≤ r.Q by have := h.safe.q3; omega)
  have HG := Lib.hid h
  have HL := Lib.hid hl
  have HS := Lib.hid hS
  clear h hl hS
  go_enter Tryz.func22, Tryz.ntmps22
  go_wp2_with fail
  go_loopw [6, 7] (fun v i wr => CaR S n w v i wr) (fun _ i _ => n - (intOf i).toNat)
  case atStart => exact ⟨0, fun _ => 0, rfl, Nat.zero_le _, Owg.nil _ _ _ _ _, fun u h => absurd h (by omega), Below.refl _ _⟩
  case round =>
    obtain ⟨t, L, rfl, ht, hown, hLe, hb⟩ := hrel
    have HO := Lib.hid hown
    have BL := Lib.hid hb
    have LE := Lib.hid hLe
    clear hown hb hLe
    rcases Nat.lt_or_ge t n with hlt | hge
    · have e1 : decide ((t : Int) < (n : Int)) = true := by simp; omega
      have hw1 : IntKind.i64.wrap ((t : Int) + 1) = (t : Int) + 1 := IntWalk.i64_in _ (by omega)
      obtain ⟨bA, off, rfl, hbA, hc⟩ := HL.out.ex (by omega)
      have q0 := (BL.out.cell (p := ⟨bA, off + t * 2, none⟩) hbA).trans (hc t hlt).1
      obtain ⟨z, hz⟩ : ∃ z, (S t).I = z := ⟨_, rfl⟩
      have HZ := Lib.hid hz
      rw [hz] at q0
      clear hc hz
      have bx := below_al wr (.cells #[.int .i64 z] 3)
      have O1 := Lib.hid (HO.out.below bx)
      have BX := Lib.hid (BL.out.trans (bx.mono BL.out.size))
      have szb := BX.out.size
      have U1 := Lib.hid (show (wr.alloc (.cells #[.int .i64 z] 3)).cell? ⟨wr.heap.size, 0, none⟩ = some (kInt.v z) from one_at9 wr _ _)
      clear bx
      go_wp2_with (at_builtin; refine wpList_owg rfl (.tmp 20) (.tmp 26) 46 rfl w.heap.size 3 8 (.int .i64 0) Tryz.underlying46 infoI9 rfl u6 t 1 L z rfl O1.out wr.heap.size rfl U1.out trivial (fun b hb => hb.elim) (by unfold maxLen; omega) (by omega) szb ?_)
      rintro v' w5' hown5 hg5
      have HO5 := Lib.hid hown5
      have HB5 := Lib.hid (BX.out.grown hg5 BX.out.size (fun g e => (HO.out.lt e).1))
      have LE5 := Lib.hid (show ∀ u, u < t + 1 → snocG L t z u = (S u).I from fun u hu => by
        rcases Nat.lt_or_ge u t with g | g
        · rw [snocG_lt g]; exact LE.out u g
        · obtain rfl : u = t := by omega
          rw [snocG_at]; exact HZ.out.symm)
      clear hown5 hg5
      go_wp2_with fail
      go_roundw
      case rel => exact ⟨t + 1, _, by simp, hlt, HO5.out, LE5.out, HB5.out⟩
      case measure => simp [intOf]; omega
    · obtain rfl : t = n := by omega
      have e1 : decide ((t : Int) < (t : Int)) = false := by simp
      obtain ⟨Aa, ca, rfl, hil⟩ := HO.out.ils (by omega) LE.out (fun u hu => (HL.out.at_ u hu).1)
      obtain ⟨s, hs⟩ := pls_bool r.Q (fun i => (S i).I) t
      have IL := Lib.hid hil
      have SB := Lib.hid hs
      clear hil hs
      go_wp2_with fail
      refine (rplaces_any (HG.out.below BL.out) IL.out s SB.out).mono ?_
      rintro e w2 ⟨rfl, b2⟩
      have B2 := Lib.hid (BL.out.trans (b2.mono BL.out.size))
      have IL2 := Lib.hid (IL.out.below b2)
      clear b2
      cases s with
      | false =>
        have ec : cbC r.Q S t = 1 := if_neg fun q => by have := SB.out.2 q; cases this
        go_wp2_with fail
        go_ret2
        try rw [ec]
        exact docN_no (by decide) rfl B2.out
      | true =>
        have PL := Lib.hid (SB.out.1 rfl)
        have LS := Lib.hid (HL.out.below B2.out)
        go_wp2_with fail
        go_loopw [10] (fun i wr => ClR S t w2 i wr) (fun i _ => t - (intOf i).toNat)
        case atStart => exact ⟨0, rfl, Nat.zero_le _, fun u h => absurd h (by omega), rfl⟩
        case round =>
          obtain ⟨z, rfl, hz, hsh, rfl⟩ := hrel
          have SH := Lib.hid hsh
          clear hsh
          rcases Nat.lt_or_ge z t with hlt | hge
          · have e3 : decide ((z : Int) < (t : Int)) = true := by simp; omega
            have hw1 : IntKind.i64.wrap ((z : Int) + 1) = (z : Int) + 1 := IntWalk.i64_in _ (by omega)
            obtain ⟨bA, off, rfl, hbA, hc⟩ := LS.out.ex (by omega)
            have q1 := (hc z hlt).2
            have SA := Lib.hid (LS.out.at_ z hlt).2
            obtain ⟨s0, hs0⟩ : ∃ s0, S z = s0 := ⟨_, rfl⟩
            have HS0 := Lib.hid hs0
            rw [hs0] at q1 SA
            obtain ⟨I, As, ns, cs, V⟩ := s0
            simp only at q1 SA
            clear hc hs0
            go_wp2_with fail
            refine (rlong9 SA.out).mono ?_
            rintro e w3 ⟨rfl, rfl⟩
            rcases Nat.lt_or_ge 64 (dl V) with g4 | g4
            · have e4 : decide (64 < dl V) = true := by simp; omega
              have ec : cbC r.Q S t = 2 := (if_pos PL.out).trans (if_pos ⟨z, hlt, by rw [HS0.out]; exact g4⟩)
              rw [e4]
              go_wp2_with fail
              go_ret2
              try rw [ec]
              exact docN_no (by decide) rfl B2.out
            · have e4 : decide (64 < dl V) = false := by simp; omega
              rw [e4]
              have SH2 := Lib.hid (show ∀ u, u < z + 1 → dl (S u).N ≤ 64 from fun u hu => by
                rcases Nat.lt_or_ge u z with g | g
                · exact SH.out u g
                · obtain rfl : u = z := by omega
                  rw [HS0.out]; exact g4)
              go_wp2_with fail
              go_roundw
              case rel => exact ⟨z + 1, by simp, hlt, SH2.out, rfl⟩
              case measure => simp [intOf]; omega
          · obtain rfl : z = t := by omega
            have e3 : decide ((z : Int) < (z : Int)) = false := by simp
            have ec : cbC r.Q S z = 0 := (if_pos PL.out).trans (if_neg fun ⟨i, h1, h2⟩ => by have := SH.out i h1; omega)
            have EC := Lib.hid ec
            clear ec
            go_wp2_with fail
            obtain ⟨t, ht9⟩ : ∃ t, z = t := ⟨_, rfl⟩
            subst ht9
            go_loopw [9, 11] (fun s i wr => CsR r.Q S z w2 s i wr) (fun _ i _ => z - (intOf i).toNat)
            case atStart => exact ⟨0, _, _, _, rfl, rfl, Nat.zero_le _, Rn.nil _, Below.refl _ _⟩
            case round =>
              obtain ⟨y, A1, n1, c1, rfl, rfl, hy, k1, hb⟩ := hrel
              have C3 := Lib.hid (B2.out.trans (hb.mono B2.out.size))
              rcases Nat.lt_or_ge y z with hlt | hge
              · have e3 : decide ((y : Int) < (z : Int)) = true := by simp; omega
                have hw1 : IntKind.i64.wrap ((y : Int) + 1) = (y : Int) + 1 := IntWalk.i64_in _ (by omega)
                have HB := Lib.hid hb
                have IL3 := Lib.hid (IL2.out.below hb)
                have LW := Lib.hid (LS.out.below hb)
                have GR := Lib.hid (HG.out.below C3.out)
                obtain ⟨bA, off, rfl, hbA, hc⟩ := LW.out.ex (by omega)
                have q0 := (hc y hlt).1
                have q1 := (hc y hlt).2
                have SA := Lib.hid (LW.out.at_ y hlt).2
                have SN0 := HS.out y hlt
                have DL0 := SH.out y hlt
                have KN := Lib.hid (show cbN r.Q (fun i => (S i).I) (fun i => (S i).N) z (y + 1) = (cbN r.Q (fun i => (S i).I) (fun i => (S i).N) z y + wgN r.Q (fun i => (S i).I) (S y).I z * (S y).N) % r.Q from rfl)
                have EW := Lib.hid (show wgC r.Q (fun i => (S i).I) z (S y).I = 0 from if_pos ⟨PL.out, y, hlt, rfl⟩)
                obtain ⟨s0, hs0⟩ : ∃ s0, S y = s0 := ⟨_, rfl⟩
                rw [hs0] at q0 q1 SA SN0 DL0 KN EW
                obtain ⟨I, As, ns, cs, V⟩ := s0
                simp only at q0 q1 SA SN0 DL0 KN EW
                have SN := Lib.hid SN0
                have DL := Lib.hid DL0
                have K1 := Lib.hid k1
                have l1 : n1 ≤ 300 := HG.out.q3 k1 (by
                  cases y with
                  | zero => simp only [cbN]; have := Q0.out; omega
                  | succ y => exact Int.le_of_lt (Int.emod_lt_of_pos _ Q0.out))
                clear hc hs0 hb k1 SN0 DL0
                go_wp2_with fail
                refine (rweight_any GR.out IL3.out I).mono ?_
                rintro e w4 ⟨Dw, mw, cw, rfl, kw, bw⟩
                rw [EW.out, if_pos rfl] at kw
                have bd := below_dr w4
                have BD := Lib.hid (bw.trans (bd.mono bw.size))
                have WK := Lib.hid (kw.below bd)
                have WN := Lib.hid (show mw ≤ 300 from GR.out.q3 kw (Int.le_of_lt (wgN_rng Q2.out z).2))
                have SK := Lib.hid (rn_bel9 K1.out BD.out)
                have V1 := Lib.hid (SA.out.below BD.out)
                have GD := Lib.hid (GR.out.below BD.out)
                have v1 := GD.out.c1
                have v2 := (BD.out.cell (p := ⟨bA, off + y * 2 + 1, none⟩) hbA).trans q1
                have LT := Lib.hid GD.out.lt
                have LA := Lib.hid (Nat.lt_of_lt_of_le hbA BD.out.size)
                have Cw0 := Lib.hid (Below.refl w4.drew.heap.size w4.drew)
                clear kw bw bd
                go_wp2_with fail
                go_region_held (fun w' => w'.cell? ⟨b, 1, none⟩ = some (.slice r.AQ r.nQ r.cQ) ∧ w'.cell? ⟨bA, off + y * 2 + 1, none⟩ = some (.slice As ns cs)) (first | exact ⟨pw4, qw4⟩ | exact ⟨pw3, qw3⟩ | exact ⟨pw2, qw2⟩ | exact ⟨pw1, qw1⟩ | exact ⟨v1, v2⟩ | go_keep | assumption)
                  (first
            | (go_at_call 42; (with_reducible refine (rrest_any Kw3.out (rn_bel9 GD.out.q Cw3.out) (by have := Nw3.out; omega) (by have := GD.out.lq; omega) Q0.out).mono ?_); rintro e uw4 ⟨Dw4, mw4, dw4, rfl, kw4, bw4⟩; have Cw4 := Lib.hid (Cw3.out.trans (bw4.mono Cw3.out.size)); have Kw4 := Lib.hid kw4; have pw4 := (Cw4.out.cell (p := ⟨b, 1, none⟩) LT.out).trans v1; have qw4 := (Cw4.out.cell (p := ⟨bA, off + y * 2 + 1, none⟩) LA.out).trans v2; clear kw4 bw4)
            | (go_at_call 53; (with_reducible refine (radd_any (rn_bel9 SK.out Cw2.out) Kw2.out (by omega) (by have := Nw2.out; omega)).mono ?_); rintro e uw3 ⟨Dw3, mw3, dw3, rfl, kw3, bw3⟩; have Cw3 := Lib.hid (Cw2.out.trans (bw3.mono Cw2.out.size)); have Kw3 := Lib.hid kw3; have Nw3 := Lib.hid (show mw3 ≤ 600 by
            have h1 := kw3.len_
            have h4 := SK.out.len_
            have h5 := Nw2.out
            have h6 := Kw2.out.len_
            have h2 := dr_add9 SK.out.pos Kw2.out.pos (m := 556) (by omega) (by omega)
            omega); have pw3 := (Cw3.out.cell (p := ⟨b, 1, none⟩) LT.out).trans v1; have qw3 := (Cw3.out.cell (p := ⟨bA, off + y * 2 + 1, none⟩) LA.out).trans v2; clear kw3 bw3)
            | (go_at_call 43; (with_reducible refine (rmul_any (rn_bel9 WK.out Cw1.out) Kw1.out (by have := WN.out; omega) (by have := Nw1.out; omega)).mono ?_); rintro e uw2 ⟨Dw2, mw2, dw2, rfl, kw2, bw2⟩; have Cw2 := Lib.hid (Cw1.out.trans (bw2.mono Cw1.out.size)); have Kw2 := Lib.hid kw2; have Nw2 := Lib.hid (show mw2 ≤ 556 by
            have h1 := kw2.len_
            have h3 := dr_mul WK.out.pos Kw1.out.pos
            have h4 := WK.out.len_
            have h5 := Kw1.out.len_
            have h6 := Nw1.out
            have h7 := WN.out
            omega); have pw2 := (Cw2.out.cell (p := ⟨b, 1, none⟩) LT.out).trans v1; have qw2 := (Cw2.out.cell (p := ⟨bA, off + y * 2 + 1, none⟩) LA.out).trans v2; clear kw2 bw2)
            | (go_at_call 35; (with_reducible refine (of_nm9w V1.out SN.out).mono ?_); rintro e uw1 ⟨Dw1, mw1, dw1, rfl, kw1, bw1⟩; have Cw1 := Lib.hid (Cw0.out.trans (bw1.mono Cw0.out.size)); have Kw1 := Lib.hid kw1; have Nw1 := Lib.hid (show mw1 ≤ 256 by
            have h1 := kw1.len_
            have h2 := dr_le kw1.pos DL.out
            omega); have pw1 := (Cw1.out.cell (p := ⟨b, 1, none⟩) LT.out).trans v1; have qw1 := (Cw1.out.cell (p := ⟨bA, off + y * 2 + 1, none⟩) LA.out).trans v2; clear kw1 bw1))
                all_goals
                  have B9 := Lib.hid (HB.out.trans ((BD.out.trans (Cw4.out.mono BD.out.size)).mono HB.out.size))
                  go_wp2_with fail
                  go_roundw
                  case rel => exact ⟨y + 1, _, _, _, rfl, by simp, hlt, by rw [KN.out]; exact Kw4.out, B9.out⟩
                  case measure => simp [intOf]; omega
              · obtain rfl : y = z := by omega
                have e3 : decide ((y : Int) < (y : Int)) = false := by simp
                have K1 := Lib.hid k1
                clear hb k1
                go_wp2_with fail
                go_ret2
                try rw [EC.out]
                exact ⟨_, _, _, rfl, by rw [if_pos rfl]; exact K1.out, C3.out⟩
end
end Go.Proofs.YtkecfdeepmhggaaGreat
/-
  The document's layer 9: what Deal's walk will want (the walk itself is not written).
-/
namespace Go.Proofs.YtkecfdeepmhggaaGreat
open Go.RowKit
set_option linter.unusedVariables false
open Classical in
/-- What Deal says is amiss. -/
noncomputable def dlC (S : Nat → Nsl) (n : Nat) (m : Int) : Int := if 1 ≤ n ∧ n ≤ 32 ∧ PlI m then (if ∃ i, i < n ∧ 64 < dl (S i).N then 2 else 0) else 1
/-- A number in new memory. -/
def AnsT9 (N : Int) (w : World) (e : Ending) (w' : World) : Prop := ∃ B m cap, e = .returned (.slice B m cap) ∧ Cn w' B m cap N ∧ (∀ a, B = some a → w.heap.size ≤ a.block) ∧ Below w.heap.size w w'
theorem to_new9 {A : Option Addr} {n c : Nat} {N : Int} {w : World} (h : Rn w A n c N) (hn : n ≤ 100000) : Calls Tryz.prog 17 #[.slice A n c] w (AnsT9 N w) :=
  (to_own h hn).mono fun e w' ⟨v, m, he, ho, hb⟩ => by
    obtain ⟨B, cap, rfl, h1, h2, h3⟩ := own_rd ho
    have hl := h1.len
    have hd : (dg W N).length = dl N := rfl
    have h4 := dl_dr h.pos
    have h5 := h.len_
    exact ⟨B, _, cap, he, ⟨h1, h2, by omega, h.pos⟩, h3, hb⟩
theorem one_at9d (w : World) (u : Value) (t : TypeId) : (w.alloc (.cells #[u] t)).cell? ⟨w.heap.size, 0, none⟩ = some u := by simp [World.cell?_alloc_at]
theorem infoS9 : (Tryz.prog.info? 41).map (fun i => (i.zero, i.size, i.bytes)) = some (some (.agg #[.int .i64 0, .slice none 0 0]), 2, 32) := by kernel_rfl
section
variable {w : World} {b k : Nat} {r : Rgd}
def DlR (S : Nat → Nsl) (n : Nat) (w : World) (i : Value) (wr : World) : Prop :=
  ∃ t : Nat, i = .int .i64 t ∧ t ≤ n ∧ (∀ u, u < t → dl (S u).N ≤ 64) ∧ w = wr
/-- The first shares of a polynomial. -/
def ShF (Q : Int) (S : Nat → Nsl) (n : Nat) (T : Nat → Shr) (t : Nat) : Prop := ∀ u, u < t → (T u).I = (u : Int) + 1 ∧ (T u).N = vlN Q (fun i => (S i).N) ((u : Int) + 1) n ∧ (T u).n = dl (T u).N
def DsR (Q : Int) (S : Nat → Nsl) (n m : Nat) (w : World) (v i : Value) (wr : World) : Prop :=
  ∃ (t : Nat) (T : Nat → Shr) (I : Int), i = .int .i64 I ∧ I = (t : Int) + 1 ∧ t ≤ m ∧ Owk kSh 41 wr w.heap.size v t T ∧ ShF Q S n T t ∧ Below w.heap.size w wr
/-- The first commitments. -/
def CmF (P Q G : Int) (S U : Nat → Nsl) (t : Nat) : Prop := ∀ u, u < t → (U u).N = gx P Q G (S u).N ∧ (U u).n = dl (U u).N
def DcR (P Q G : Int) (S : Nat → Nsl) (n : Nat) (w : World) (v i : Value) (wr : World) : Prop :=
  ∃ (t : Nat) (U : Nat → Nsl), i = .int .i64 t ∧ t ≤ n ∧ Owg kNm 39 wr w.heap.size v t U ∧ CmF P Q G S U t ∧ Below w.heap.size w wr
def DealV (P Q G : Int) (S : Nat → Nsl) (n : Nat) (m : Int) (w : World) (e : Ending) (w' : World) : Prop :=
  (dlC S n m ≠ 0 ∧ e = .returned (.tuple #[.slice none 0 0, .slice none 0 0, .int .i64 (dlC S n m)]) ∧ Below w.heap.size w w') ∨
  (dlC S n m = 0 ∧ ∃ (q : Nat) (As : Option Addr) (cs : Nat) (T : Nat → Shr) (Ac : Option Addr) (cc : Nat) (U : Nat → Nsl), m = q ∧ e = .returned (.tuple #[.slice As q cs, .slice Ac n cc, .int .i64 0]) ∧ Shs w' As q cs T ∧ ShF Q S n T q ∧ Ns w' Ac n cc U ∧ CmF P Q G S U n ∧ Below w.heap.size w w')
theorem infoN9 : (Tryz.prog.info? 39).map (fun i => (i.zero, i.size, i.bytes)) = some (some (.slice none 0 0), 1, 24) := by kernel_rfl
theorem deal_no {P Q G : Int} {S : Nat → Nsl} {n : Nat} {m c : Int} {w w' : World} {e : Ending} (hd : dlC S n m = c) (hc : c ≠ 0) (he : e = .returned (.tuple #[.slice none 0 0, .slice none 0 0, .int .i64 c])) (hb : Below w.heap.size w w') : DealV P Q G S n m w e w' :=
  .inl ⟨by rw [hd]; exact hc, by rw [hd]; exact he, hb⟩
set_option maxHeartbeats 4000000 in
set_option maxRecDepth 100000 in
theorem rdeal_any (h : Rg7 w b r k) {A : Option Addr} {n c : Nat} {S : Nat → Nsl} (hp : Ns w A n c S) (hS : n ≤ 40 → ∀ i, i < n → (S i).n ≤ 1000) (m : Int) :
    Calls Tryz.prog 10 #[.pointer (some ⟨b, 0, none⟩), .slice A n c, .int .i64 m] w (DealV r.P r.Q r.G S n m w) := by
  have Q0 := Lib.hid (show 0 < r.Q by have := h.safe.q1; omega)
  have GP := Lib.hid (show 0 < r.P by have := h.safe.p2; omega)
  have HG := Lib.hid h
  have HP := Lib.hid hp
  have HS := Lib.hid hS
  have n60 := hp.c60
  clear h hp hS
  go_enter Tryz.func10, Tryz.ntmps10
  rcases Nat.lt_or_ge n 1 with g1 | g1
  · have e1 : decide ((n : Int) < 1) = true := by simp; omega
    have ec : dlC S n m = 1 := if_neg fun q => by have := q.1; omega
    go_wp2_with fail
    go_ret3
    exact deal_no ec (by decide) rfl (Below.refl _ _)
  have e1 : decide ((n : Int) < 1) = false := by simp; omega
  rcases Nat.lt_or_ge 32 n with g2 | g2
  · have e2 : decide ((32 : Int) < (n : Int)) = true := by simp; omega
    have ec : dlC S n m = 1 := if_neg fun q => by have := q.2.1; omega
    go_wp2_with fail
    go_ret3
    exact deal_no ec (by decide) rfl (Below.refl _ _)
  have e2 : decide ((32 : Int) < (n : Int)) = false := by simp; omega
  go_wp2_with fail
  refine (rplace_any m w).mono ?_
  rintro e w0 ⟨rfl, rfl⟩
  rcases Classical.em (PlI m) with g3 | g3
  · have e3 : decide (PlI m) = true := by simp [g3]
    rw [e3]
    obtain ⟨q, rfl⟩ : ∃ q : Nat, m = q := ⟨m.toNat, by have := g3.1; omega⟩
    clear e1 e2 e3
    go_wp2_with fail
    go_loopw [9] (fun i wr => DlR S n w i wr) (fun i _ => n - (intOf i).toNat)
    case atStart => exact ⟨0, rfl, Nat.zero_le _, fun u h => absurd h (by omega), rfl⟩
    case round =>
      obtain ⟨z, rfl, hz, hsh, rfl⟩ := hrel
      have SH := Lib.hid hsh
      clear hsh
      rcases Nat.lt_or_ge z n with hlt | hge
      · have e3 : decide ((z : Int) < (n : Int)) = true := by simp; omega
        have hw1 : IntKind.i64.wrap ((z : Int) + 1) = (z : Int) + 1 := IntWalk.i64_in _ (by omega)
        obtain ⟨bA, off, rfl, hbA, hc⟩ := HP.out.ex (by omega)
        have q1 := hc z hlt
        have SA := Lib.hid (HP.out.at_ z hlt)
        obtain ⟨s0, hs0⟩ : ∃ s0, S z = s0 := ⟨_, rfl⟩
        have HS0 := Lib.hid hs0
        rw [hs0] at q1 SA
        obtain ⟨As, ns, cs, V⟩ := s0
        simp only at q1 SA
        clear hc hs0
        go_wp2_with fail
        refine (rlong9 SA.out).mono ?_
        rintro e w3 ⟨rfl, rfl⟩
        rcases Nat.lt_or_ge 64 (dl V) with g4 | g4
        · have e4 : decide (64 < dl V) = true := by simp; omega
          have ec : dlC S n (q : Int) = 2 := (if_pos ⟨g1, g2, g3⟩).trans (if_pos ⟨z, hlt, by rw [HS0.out]; exact g4⟩)
          rw [e4]
          go_wp2_with fail
          go_ret3
          exact deal_no ec (by decide) rfl (Below.refl _ _)
        · have e4 : decide (64 < dl V) = false := by simp; omega
          rw [e4]
          have SH2 := Lib.hid (show ∀ u, u < z + 1 → dl (S u).N ≤ 64 from fun u hu => by
            rcases Nat.lt_or_ge u z with g | g
            · exact SH.out u g
            · obtain rfl : u = z := by omega
              rw [HS0.out]; exact g4)
          go_wp2_with fail
          go_roundw
          case rel => exact ⟨z + 1, by simp, hlt, SH2.out, rfl⟩
          case measure => simp [intOf]; omega
      · obtain rfl : z = n := by omega
        have e3 : decide ((z : Int) < (z : Int)) = false := by simp
        go_wp2_with fail
        go_loopw [10, 12] (fun v i wr => DsR r.Q S z q w v i wr) (fun _ i _ => q + 1 - (intOf i).toNat)
        case atStart => exact ⟨0, fun _ => ⟨0, none, 0, 0, 0⟩, 1, rfl, rfl, Nat.zero_le _, Owk.nil _ _ _ _ _, fun u h => absurd h (by omega), Below.refl _ _⟩
        case round =>
          obtain ⟨t, T, I, rfl, hI, ht, hown, hf, hb⟩ := hrel
          have I1 : 1 ≤ I ∧ I ≤ 256 := by have := g3.2; omega
          rcases Nat.lt_or_ge t q with hlt | hge
          · have I2 : I ≤ 255 := by have := g3.2; omega
            have q255 : q ≤ 255 := by have := g3.2; omega
            have e4 : decide (I ≤ (q : Int)) = true := by simp; omega
            have hw1 : IntKind.i64.wrap (I + 1) = I + 1 := IntWalk.i64_in _ (by have := g3.2; omega)
            have HO := Lib.hid hown
            have HF := Lib.hid hf
            have BL := Lib.hid hb
            have HI := Lib.hid hI
            have IQ : I ≤ (q : Int) := by omega
            clear hown hf hb hI
            go_wp2_with fail
            refine (rvalue_any (HG.out.below BL.out) (HP.out.below BL.out) (by omega) (fun i hi => ⟨HS.out (by omega) i hi, SH.out i hi⟩) I (by omega) I2).mono ?_
            rintro e w1 ⟨B1, m1, c1, rfl, k1, b1⟩
            have N1 := Lib.hid (show m1 ≤ 300 from HG.out.q3 k1 (vlN_rng (by have := Q0.out; omega) _).2)
            go_wp2_with fail
            refine (to_new9 k1 (by have := N1.out; omega)).mono ?_
            rintro e w2 ⟨B2, m2, c2, rfl, k2, n2, b2⟩
            have HB2 := Lib.hid (BL.out.trans ((b1.trans (b2.mono b1.size)).mono BL.out.size))
            have K2 := Lib.hid k2
            have bx := below_al w2 (.cells #[.int .i64 I, .slice B2 m2 c2] 41)
            have px := sh_box w2 (.int .i64 I) (.slice B2 m2 c2)
            have sz := Nat.le_trans b1.size b2.size
            have O1 := Lib.hid (HO.out.below ((b1.trans (b2.mono b1.size)).trans (bx.mono sz)))
            have BX := Lib.hid (HB2.out.trans (bx.mono HB2.out.size))
            have szb := BX.out.size
            have U0 := Lib.hid (show Shr.At (w2.alloc (.cells #[.int .i64 I, .slice B2 m2 c2] 41)) ⟨I, B2, m2, c2, vlN r.Q (fun i => (S i).N) I z⟩ from ⟨(⟨by omega, by omega⟩ : -9223372036854775808 ≤ I ∧ I ≤ 9223372036854775807), (k2.below bx).nm⟩)
            have F0 := Lib.hid (show ∀ g, BlN B2 m2 g → u10.ownBlock ≠ some g from fun g hg e => by
              have h1 := (HO.out.lt e).2
              obtain ⟨a, ha, hb⟩ : ∃ a, B2 = some a ∧ a.block = g := by
                obtain ⟨a, ha, h0, hb⟩ := hg
                exact ⟨a, ha, hb⟩
              have h2 := n2 a ha
              have h3 := b1.size
              omega)
            have U1 := Lib.hid (show ∀ j u, (kSh.v ⟨I, B2, m2, c2, vlN r.Q (fun i => (S i).N) I z⟩)[j]? = some u → (w2.alloc (.cells #[.int .i64 I, .slice B2 m2 c2] 41)).cell? ⟨w2.heap.size, j, none⟩ = some u from fun j u hu => by
              match j, hu with
              | 0, hu => injection hu with hu; subst hu; exact px.1
              | 1, hu => injection hu with hu; subst hu; exact px.2)
            clear bx px k1 k2 b1 b2 n2
            go_wp2_with (at_builtin; refine wpList_owk rfl (.tmp 43) (.tmp 51) 29 rfl w.heap.size 41 32 (.agg #[.int .i64 0, .slice none 0 0]) Tryz.underlying29 infoS9 rfl (by decide) u10 t 1 T ⟨I, B2, m2, c2, vlN r.Q (fun i => (S i).N) I z⟩ rfl O1.out w2.heap.size rfl U1.out U0.out F0.out (by unfold maxLen; omega) (by omega) szb ?_)
            rintro v' w5' hown5 hg5
            have HO5 := Lib.hid hown5
            have HB5 := Lib.hid (BX.out.grown hg5 BX.out.size (fun g e => (HO.out.lt e).1))
            have HF5 := Lib.hid (show ShF r.Q S z (snocG T t ⟨I, B2, m2, c2, vlN r.Q (fun i => (S i).N) I z⟩) (t + 1) from fun u hu => by
              rcases Nat.lt_or_ge u t with g | g
              · rw [snocG_lt g]; exact HF.out u g
              · obtain rfl : u = t := by omega
                rw [snocG_at]
                have hi := HI.out
                exact ⟨hi, by rw [← hi], K2.out.rd.len.symm⟩)
            have HI5 := Lib.hid (show I + 1 = ((t + 1 : Nat) : Int) + 1 by have := HI.out; omega)
            clear hown5 hg5
            go_wp2_with fail
            go_roundw
            case rel => exact ⟨t + 1, _, _, rfl, HI5.out, hlt, HO5.out, HF5.out, HB5.out⟩
            case measure => simp [intOf]; omega
          · obtain rfl : t = q := by omega
            have e4 : decide (I ≤ (t : Int)) = false := by simp; omega
            obtain ⟨As, cs, rfl, hAs, hsh⟩ := hown.shs (by have := g3.2; omega)
            have EC := Lib.hid (show dlC S z (t : Int) = 0 from (if_pos ⟨g1, g2, g3⟩).trans (if_neg fun ⟨i, h1, h2⟩ => by have := SH.out i h1; omega))
            have HSS := Lib.hid hsh
            have HF := Lib.hid hf
            have BL := Lib.hid hb
            clear hown hf hb hsh hAs hI I1
            go_wp2_with fail
            obtain ⟨wb, rfl⟩ : ∃ wb, wb = wr := ⟨_, rfl⟩
            go_loopw [11, 13] (fun v i wr => DcR r.P r.Q r.G S z wb v i wr) (fun _ i _ => z - (intOf i).toNat)
            case atStart => exact ⟨0, fun _ => ⟨none, 0, 0, 0⟩, rfl, Nat.zero_le _, Owg.nil _ _ _ _ _, fun u h => absurd h (by omega), Below.refl _ _⟩
            case round =>
              obtain ⟨j, U, rfl, hj, hown, hcm, hb⟩ := hrel
              have HO := Lib.hid hown
              have CM := Lib.hid hcm
              have HB := Lib.hid hb
              have B2 := Lib.hid (BL.out.trans (hb.mono BL.out.size))
              clear hown hcm hb
              rcases Nat.lt_or_ge j z with hlt | hge
              · have e5 : decide ((j : Int) < (z : Int)) = true := by simp; omega
                have hw1 : IntKind.i64.wrap ((j : Int) + 1) = (j : Int) + 1 := IntWalk.i64_in _ (by omega)
                have bd := below_dr wr
                have GD := Lib.hid (HG.out.below (B2.out.trans (bd.mono B2.out.size)))
                have PD := Lib.hid (HP.out.below (B2.out.trans (bd.mono B2.out.size)))
                obtain ⟨bA, off, eA, hbA, hc⟩ := PD.out.ex (by omega)
                subst eA
                have y0 := hc j hlt
                have SN := Lib.hid (PD.out.at_ j hlt)
                have L9 := HS.out (by omega) j hlt
                have D9 := Lib.hid (SH.out j hlt)
                obtain ⟨s0, hs0⟩ : ∃ s0, S j = s0 := ⟨_, rfl⟩
                have HS0 := Lib.hid hs0
                rw [hs0] at y0 SN L9 D9
                obtain ⟨Aj, nj, cj, V⟩ := s0
                simp only at y0 SN L9 D9
                have v1 := GD.out.c2
                have LT := Lib.hid GD.out.lt
                have LG := Lib.hid (GD.out.p3 GD.out.g (Int.le_of_lt GD.out.el.2.1))
                have O0 := Lib.hid (HO.out.below bd)
                have C0 := Lib.hid (HB.out.trans (bd.mono HB.out.size))
                have szd := bd.size
                clear hc hs0 bd
                go_wp2_with fail
                go_region_law (first
                  | (go_simp; go_at_call 35; (with_reducible refine (of_nm9 SN.out L9).mono ?_); rintro e u1 ⟨D1, m1, d1, rfl, k1, b1⟩; have C1 := Lib.hid b1; have K1 := Lib.hid k1; have N1 := Lib.hid (show m1 ≤ 256 by
                      have h1 := k1.len_
                      have h2 := dr_le k1.pos D9.out
                      omega); have f1 := (C1.out.cell (p := ⟨b, 2, none⟩) LT.out).trans v1; clear k1 b1)
                  | (go_simp; go_at_call 34; (with_reducible refine (rgx_any (GD.out.below C1.out).toRg GD.out.lp GD.out.lq GP.out Q0.out (rn_bel9 GD.out.g C1.out) K1.out LG.out (by have := N1.out; omega)).mono ?_); rintro e u2 ⟨D2, m2, d2, rfl, k2, b2⟩; have C2 := Lib.hid (C1.out.trans (b2.mono C1.out.size)); have K2 := Lib.hid k2; have N2 := Lib.hid (show m2 ≤ 300 from GD.out.p3 k2 (Int.le_of_lt (Int.emod_lt_of_pos _ GP.out))); clear k2 b2)
                  | (go_simp; go_at_call 17; (with_reducible refine (to_new9 K2.out (by have := N2.out; omega)).mono ?_); rintro e u3 ⟨D3, m3, d3, rfl, k3, n3, b3⟩; have C3 := Lib.hid (C2.out.trans (b3.mono C2.out.size)); have K3 := Lib.hid k3; have bx := below_al u3 (.cells #[.slice D3 m3 d3] 39); have U0 := Lib.hid (k3.below bx).nm; have U1 := Lib.hid (one_at9d u3 (.slice D3 m3 d3) 39); have O3 := Lib.hid (O0.out.below (C3.out.trans (bx.mono C3.out.size))); have X3 := Lib.hid (C0.out.trans ((C3.out.trans (bx.mono C3.out.size)).mono C0.out.size)); have sz3 := X3.out.size; have U2 := Lib.hid (show ∀ g, BlN D3 m3 g → u11.ownBlock ≠ some g from fun g hg e => by
                      have h1 := (O0.out.lt e).2
                      obtain ⟨a, ha, h0, hb⟩ := hg
                      have h2 := n3 a ha
                      have h3 := C2.out.size
                      omega); clear k3 b3 n3 bx)
                  | (refine step_owg rfl (.tmp 59) (.tmp 72) 22 rfl wb.heap.size 39 24 (.slice none 0 0) Tryz.underlying22 infoN9 rfl u11 j 1 U ⟨D3, m3, d3, gx r.P r.Q r.G V⟩ rfl O3.out u3.heap.size rfl U1.out U0.out U2.out (by unfold maxLen; omega) (by omega) sz3 ?_; intro vz wz hownz hgz; have HOZ := Lib.hid hownz; have HGZ := Lib.hid hgz; clear hownz hgz))
                all_goals
                  have B9 := Lib.hid (X3.out.grown HGZ.out X3.out.size (fun g e => (HO.out.lt e).1))
                  have CM9 := Lib.hid (show CmF r.P r.Q r.G S (snocG U j ⟨D3, m3, d3, gx r.P r.Q r.G V⟩) (j + 1) from fun u hu => by
                    rcases Nat.lt_or_ge u j with g | g
                    · rw [snocG_lt g]; exact CM.out u g
                    · obtain rfl : u = j := by omega
                      rw [snocG_at, HS0.out]
                      exact ⟨rfl, K3.out.rd.len.symm⟩)
                  go_wp2_with fail
                  go_roundw
                  case rel => exact ⟨j + 1, _, by simp, hlt, HOZ.out, CM9.out, B9.out⟩
                  case measure => simp [intOf]; omega
              · obtain rfl : j = z := by omega
                have e5 : decide ((j : Int) < (j : Int)) = false := by simp
                obtain ⟨Ac, cc, rfl, -, hns⟩ := HO.out.nsl (by omega)
                have NS := Lib.hid hns
                have SS := Lib.hid (HSS.out.below HB.out)
                clear hns
                go_wp2_with fail
                go_ret3
                exact .inr ⟨EC.out, t, As, cs, T, Ac, cc, U, rfl, rfl, SS.out, HF.out, NS.out, CM.out, B2.out⟩
  · have e3 : decide (PlI m) = false := by simp [g3]
    have ec : dlC S n m = 1 := if_neg fun q => g3 q.2.2
    rw [e3]
    go_wp2_with fail
    go_ret3
    exact deal_no ec (by decide) rfl (Below.refl _ _)
end
end Go.Proofs.YtkecfdeepmhggaaGreat
