/-
  The document's layer 7: what Mix answers.
-/
import Derived.Test.YtpmnghealjgkeaaGreatR7w
import Derived.Test.YtpmnghealjgkeaaGreatOwm
import Derived.Test.YtpmnghealjgkeaaGreatPmx
namespace Go.Proofs.YtpmnghealjgkeaaGreat
open Go.RowKit
set_option linter.unusedVariables false
/-- A batch of the document's, or a number. -/
def DbtP (code : Int) (T : Nat → Nat → Trp) (n m : Nat) (w : World) (e : Ending) (w' : World) : Prop :=
  (code = 0 ∧ ∃ A c B, e = .returned (.tuple #[.slice A n c, .int .i64 0]) ∧ Bat w' A n c B ∧ (∀ i, i < n → (B i).n = m ∧ CanL (B i).S (B i).n ∧ ∀ j, j < m → Trp.of ((B i).S j) = T i j) ∧ Below w.heap.size w w') ∨
  (code ≠ 0 ∧ e = .returned (.tuple #[.slice none 0 0, .int .i64 code]) ∧ Below w.heap.size w w')
/-- One place of a batch, its permutation and its scalars. -/
def MxO (B : Nat → Lsl) (Rs : Nat → Rsl) (f : Nat → Int) (nb p : Nat) : Prop := 1 ≤ (B p).n ∧ (B p).n ≤ 32 ∧ (B p).n = (Rs p).n ∧ (B p).n = (B 0).n ∧ 0 ≤ f p ∧ f p < nb
def DmC (B : Nat → Lsl) (Rs : Nat → Rsl) (f : Nat → Int) (nb : Nat) (w : World) (i : Value) (wr : World) : Prop :=
  ∃ j : Nat, j ≤ nb ∧ i = .int .i64 j ∧ (∀ p, p < j → MxO B Rs f nb p) ∧ (∀ p q, q < p → p < j → f q ≠ f p) ∧ Below w.heap.size w wr
def DmI (f : Nat → Int) (j : Nat) (w : World) (i : Value) (wr : World) : Prop :=
  ∃ k : Nat, k ≤ j ∧ i = .int .i64 k ∧ (∀ q, q < k → f q ≠ f j) ∧ Below w.heap.size w wr
/-- A flag says whether something is so. -/
def IffB (q : Bool) (p : Prop) : Prop := q = true ↔ p
def DmL (P Q : Int) (B : Nat → Lsl) (Rs : Nat → Rsl) (nb : Nat) (w : World) (a b i : Value) (wr : World) : Prop :=
  ∃ (j : Nat) (q1 q2 : Bool), j ≤ nb ∧ a = .bool q1 ∧ b = .bool q2 ∧ i = .int .i64 j ∧ IffB q1 (∃ p, p < j ∧ LgS (Rs p).S (Rs p).n) ∧ IffB q2 (∃ p, p < j ∧ ¬ ElL P Q (B p).S (B p).n) ∧ Below w.heap.size w wr
def DmR (T : Nat → Nat → Trp) (nb m : Nat) (w : World) (v i : Value) (wr : World) : Prop :=
  ∃ (j : Nat) (B : Nat → Lsl), j ≤ nb ∧ i = .int .i64 j ∧ Owg kCh 25 wr w.heap.size v j B ∧ (∀ p, p < j → (B p).n = m ∧ CanL (B p).S (B p).n ∧ ∀ t, t < m → Trp.of ((B p).S t) = T p t) ∧ Below w.heap.size w wr
/-- One more that is so, or not. -/
theorem ex_more {p : Nat → Prop} {j : Nat} {s : Bool} (h : IffB false (∃ i, i < j ∧ p i)) (hs : s = true ↔ p j) : IffB s (∃ i, i < j + 1 ∧ p i) := by
  unfold IffB
  rw [hs]
  constructor
  · intro g; exact ⟨j, by omega, g⟩
  · rintro ⟨i, hi, g⟩
    rcases Nat.lt_or_ge i j with k | k
    · exact absurd (h.2 ⟨i, k, g⟩) (by decide)
    · obtain rfl : i = j := by omega
      exact g
theorem ex_keep {p : Nat → Prop} {j : Nat} (h : IffB true (∃ i, i < j ∧ p i)) : IffB true (∃ i, i < j + 1 ∧ p i) :=
  ⟨fun _ => by obtain ⟨i, hi, g⟩ := h.1 rfl; exact ⟨i, by omega, g⟩, fun _ => rfl⟩
theorem fits_val {a b : Nat} {s : Bool} (hs : s = true ↔ (1 ≤ a ∧ a ≤ 32 ∧ a = b)) (ha : a ≤ 17592186044416) (hb : b ≤ 17592186044416) (w : World) :
    Calls Tryz.prog 49 #[.int .i64 (a : Int), .int .i64 (b : Int)] w fun e w' => e = .returned (.bool s) ∧ w = w' :=
  (fits7_any a b ha hb w).mono fun e w' ⟨⟨q, h1, h2⟩, h3⟩ => ⟨by
    have : q = s := by
      cases q with
      | true => exact (hs.2 (h2.1 rfl)).symm
      | false => cases s with
        | true => exact absurd (h2.2 (hs.1 rfl)) (by decide)
        | false => rfl
    rw [h1, this], h3⟩
theorem bool_of (p : Prop) : ∃ s : Bool, s = true ↔ p := by
  by_cases h : p
  · exact ⟨true, fun _ => h, fun _ => rfl⟩
  · exact ⟨false, fun e => (by cases e), fun e => absurd e h⟩
set_option maxHeartbeats 32000000 in
set_option maxRecDepth 100000 in
theorem rmix7_any {w : World} {b k : Nat} {r : Rgd} {Ak Ab Ap Ar : Option Addr} {nk ck nb cb np cp nr cr : Nat} {K : Int} {B : Nat → Lsl} {Rs : Nat → Rsl} {ps : List Int} (h : Rg7 w b r k) (hk : Nm w Ak nk ck K) (lk : Li nk K) (hb : Bat w Ab nb cb B) (hB : ∀ i, i < nb → ∀ t, t < (B i).n → LiS ((B i).S t))
    (hp : Rd .i64 w Ap np ps) (hr : Rls w Ar nr cr Rs) (hR : ∀ i, i < nr → LiN (Rs i).S (Rs i).n) (np60 : np ≤ 17592186044416) :
    Calls Tryz.prog 23 #[.pointer (some ⟨b, 0, none⟩), .slice Ak nk ck, .slice Ab nb cb, .slice Ap np cp, .slice Ar nr cr] w
      (DbtP (mixC r.P r.Q K B nb (dig ps) np Rs nr) (fun i j => anewN r.P r.Q r.G K (Trp.of ((B (dig ps i).toNat).S j)) ((Rs i).S j).N) nb (B 0).n w) := by
  obtain ⟨f, hf⟩ : ∃ f, dig ps = f := ⟨_, rfl⟩
  have hpx := rd_ex hp
  rw [hf] at hpx
  rw [hf]
  obtain ⟨C, hC⟩ : ∃ C, mixC r.P r.Q K B nb f np Rs nr = C := ⟨_, rfl⟩
  rw [hC]
  have HC := Lib.hid hC
  have HRG := Lib.hid h
  have HK := Lib.hid hk
  have LK := Lib.hid lk
  have HB := Lib.hid hb
  have HLB := Lib.hid hB
  have HP := Lib.hid hpx
  have HR := Lib.hid hr
  have HLR := Lib.hid hR
  have nb60 := hb.c60
  have nr60 := hr.c60
  have nk3 : nk ≤ 1000 := by have := lk.1; omega
  clear hC h hk lk hb hB hp hpx hr hR hf
  rcases Nat.lt_or_ge 256 nb with g1 | g1
  · have e1 : C = 1 := by rw [← HC.out]; exact mixC_arg fun g => by have := g.1; omega
    subst e1
    have t1 : decide ((256 : Int) < (nb : Int)) = true := by simp; omega
    go_enter Tryz.func23, Tryz.ntmps23
    go_wp2_with fail
    go_ret2
    exact .inr ⟨by decide, rfl, Below.refl _ _⟩
  have t1 : decide ((256 : Int) < (nb : Int)) = false := by simp; omega
  by_cases g2 : np = nb
  case neg =>
    have e1 : C = 1 := by rw [← HC.out]; exact mixC_arg fun g => by have := g.2.1; omega
    subst e1
    have t2 : ((np : Int) != (nb : Int)) = true := by simp; omega
    go_enter Tryz.func23, Tryz.ntmps23
    go_wp2_with fail
    go_ret2
    exact .inr ⟨by decide, rfl, Below.refl _ _⟩
  case pos =>
  obtain rfl : nb = np := g2.symm
  have t2 : ((nb : Int) != (nb : Int)) = false := by simp
  by_cases g3 : nr = nb
  case neg =>
    have e1 : C = 1 := by rw [← HC.out]; exact mixC_arg fun g => by have := g.2.2.1; omega
    subst e1
    have t3 : ((nr : Int) != (nb : Int)) = true := by simp; omega
    go_enter Tryz.func23, Tryz.ntmps23
    go_wp2_with fail
    go_ret2
    exact .inr ⟨by decide, rfl, Below.refl _ _⟩
  case pos =>
  obtain rfl : nb = nr := g3.symm
  go_enter Tryz.func23, Tryz.ntmps23
  go_wp2_with fail
  clear t1 t2
  go_loopw [14] (fun i wr => DmC B Rs f nb w i wr) (fun i _ => nb - (intOf i).toNat)
  case atStart => exact ⟨0, Nat.zero_le _, rfl, fun p hp => absurd hp (Nat.not_lt_zero p), fun p q _ hp => absurd hp (Nat.not_lt_zero p), Below.refl _ _⟩
  case round =>
    obtain ⟨j, hj, rfl, ho, hi, hbl⟩ := hrel
    have HO := Lib.hid ho
    have HI := Lib.hid hi
    have HBW := Lib.hid hbl
    clear ho hi hbl
    rcases Nat.lt_or_ge j nb with hlt | hge
    · --<L1
      have hjn : (j : Int) < (nb : Int) := by omega
      have n0 : (0 : Int) < (nb : Int) := by omega
      obtain ⟨bp, op, rfl, lp, yp⟩ := HP.out (by omega)
      obtain ⟨bb, ob, rfl, lb, yb⟩ := HB.out.ex (by omega)
      obtain ⟨br, orr, rfl, lr, yr⟩ := HR.out.ex (by omega)
      have z1 := (HBW.out.cell (p := ⟨bb, ob + j, none⟩) lb).trans (yb j hlt)
      have z0 := (HBW.out.cell (p := ⟨bb, ob + 0, none⟩) lb).trans (yb 0 (by omega))
      rw [Nat.add_zero] at z0
      have z2 := (HBW.out.cell (p := ⟨br, orr + j, none⟩) lr).trans (yr j hlt)
      have z3 := (HBW.out.cell (p := ⟨bp, op + j, none⟩) lp).trans (yp j hlt)
      have YP := Lib.hid yp
      obtain ⟨s, hs⟩ := bool_of (1 ≤ (B j).n ∧ (B j).n ≤ 32 ∧ (B j).n = (Rs j).n)
      have FV := Lib.hid (fits_val hs (HB.out.at_ j hlt).c60 (HR.out.at_ j hlt).c60)
      have HS := Lib.hid hs
      clear yp yb yr hs
      go_wp2_with fail
      go_quiet ((go_at_call 49; exact quiet_one (FV.out _)))
      go_wp2_with fail
      cases s with
      | false =>
        have e1 : C = 1 := by
          rw [← HC.out]
          refine mixC_arg fun g => ?_
          have g2 := g.2.2.2.1 j hlt
          have := HS.out.2 ⟨g2.1, g2.2.1, g2.2.2.1⟩
          cases this
        subst e1
        go_quiet (fail)
        go_wp2_with fail
        go_ret2
        exact .inr ⟨by decide, rfl, by first | exact below_drewN HBW.out _ | exact below_drewN (below_drewN HBW.out _) _⟩
      | true =>
      by_cases q1 : (B j).n = (B 0).n
      case neg =>
        have e1 : C = 1 := by rw [← HC.out]; exact mixC_arg fun g => q1 (g.2.2.2.1 j hlt).2.2.2.1
        subst e1
        have t1 : (((B j).n : Int) != ((B 0).n : Int)) = true := by simp; omega
        go_quiet (fail)
        go_wp2_with fail
        go_ret2
        exact .inr ⟨by decide, rfl, by first | exact below_drewN HBW.out _ | exact below_drewN (below_drewN HBW.out _) _⟩
      case pos =>
      have t1 : (((B j).n : Int) != ((B 0).n : Int)) = false := by simp; omega
      rcases Int.lt_or_le (f j) 0 with q2 | q2
      · have e1 : C = 1 := by rw [← HC.out]; exact mixC_arg fun g => by have := (g.2.2.2.1 j hlt).2.2.2.2.1; omega
        subst e1
        have t2 : decide (f j < 0) = true := by simp; omega
        go_quiet (fail)
        go_wp2_with fail
        go_ret2
        exact .inr ⟨by decide, rfl, by first | exact below_drewN HBW.out _ | exact below_drewN (below_drewN HBW.out _) _⟩
      have t2 : decide (f j < 0) = false := by simp; omega
      rcases Int.lt_or_le (f j) nb with q3 | q3
      case inr =>
        have e1 : C = 1 := by rw [← HC.out]; exact mixC_arg fun g => by have := (g.2.2.2.1 j hlt).2.2.2.2.2; omega
        subst e1
        have t3 : decide ((nb : Int) ≤ f j) = true := by simp; omega
        go_quiet (fail)
        go_wp2_with fail
        go_ret2
        exact .inr ⟨by decide, rfl, by first | exact below_drewN HBW.out _ | exact below_drewN (below_drewN HBW.out _) _⟩
      case inl =>
      have t3 : decide ((nb : Int) ≤ f j) = false := by simp; omega
      have OK := Lib.hid (show MxO B Rs f nb j from ⟨(HS.out.1 rfl).1, (HS.out.1 rfl).2.1, (HS.out.1 rfl).2.2, q1, q2, q3⟩)
      go_quiet (fail)
      go_wp2_with fail
      clear z0 z1 z2 z3 t1 t2 t3 q1 q2 q3
      go_loopw [16] (fun i wr => DmI f j w i wr) (fun i _ => j - (intOf i).toNat)
      case atStart => exact ⟨0, Nat.zero_le _, rfl, fun p hp => absurd hp (Nat.not_lt_zero p), by first | exact below_drewN HBW.out _ | exact below_drewN (below_drewN HBW.out _) _⟩
      case round =>
        obtain ⟨m, hm, rfl, hno, hbl⟩ := hrel
        have HNO := Lib.hid hno
        have HBX := Lib.hid hbl
        clear hno hbl
        rcases Nat.lt_or_ge m j with hlt2 | hge2
        · have hmj : (m : Int) < (j : Int) := by omega
          have hmn : (m : Int) < (nb : Int) := by omega
          have z3 := (HBX.out.cell (p := ⟨bp, op + j, none⟩) lp).trans (YP.out j hlt)
          have z4 := (HBX.out.cell (p := ⟨bp, op + m, none⟩) lp).trans (YP.out m (by omega))
          by_cases q1 : f m = f j
          · have e1 : C = 1 := by rw [← HC.out]; exact mixC_arg fun g => g.2.2.2.2 j m hlt2 hlt q1
            subst e1
            have t1 : (f m == f j) = true := by simp; exact q1
            go_wp2_with fail
            go_quiet (fail)
            go_wp2_with fail
            go_ret2
            exact .inr ⟨by decide, rfl, by first | exact below_drewN HBX.out _ | exact below_drewN (below_drewN HBX.out _) _⟩
          · have t1 : (f m == f j) = false := by simp; exact q1
            have Q1 := Lib.hid q1
            clear q1
            go_wp2_with fail
            go_quiet (fail)
            go_wp2_with fail
            go_roundw
            case rel =>
              refine ⟨m + 1, by omega, by go_num, fun q hq => ?_, below_drewN HBX.out _⟩
              rcases Nat.lt_or_ge q m with g | g
              · exact HNO.out q g
              · obtain rfl : q = m := by omega
                exact Q1.out
            case measure => simp [intOf]; omega
        · obtain rfl : m = j := by omega
          have hmj : decide ((m : Int) < (m : Int)) = false := by simp
          go_wp2_with fail
          go_roundw
          case rel =>
            refine ⟨m + 1, by omega, by go_num, fun p hp => ?_, fun p q hq hp => ?_, HBX.out⟩
            · rcases Nat.lt_or_ge p m with g | g
              · exact HO.out p g
              · obtain rfl : p = m := by omega
                exact OK.out
            · rcases Nat.lt_or_ge p m with g | g
              · exact HI.out p q hq g
              · obtain rfl : p = m := by omega
                exact HNO.out q hq
          case measure => simp [intOf]; omega
      --L1>
    obtain rfl : j = nb := by omega
    have hjn : decide ((j : Int) < (j : Int)) = false := by simp
    have HF := Lib.hid (show MixF B j f j Rs j from ⟨g1, rfl, rfl, fun i hi => HO.out i hi, fun i k hk hi => HI.out i k hk hi⟩)
    clear HO HI
    go_wp2_with fail
    go_loopw [12, 13, 17] (fun a b i wr => DmL r.P r.Q B Rs j w a b i wr) (fun _ _ i _ => j - (intOf i).toNat)
    case atStart => exact ⟨0, false, false, Nat.zero_le _, rfl, rfl, rfl, ⟨fun g => (by cases g), fun ⟨p, hp, _⟩ => absurd hp (Nat.not_lt_zero p)⟩, ⟨fun g => (by cases g), fun ⟨p, hp, _⟩ => absurd hp (Nat.not_lt_zero p)⟩, HBW.out⟩
    case round =>
      clear hjn
      obtain ⟨i, q1, q2, hi, rfl, rfl, rfl, h1, h2, hbl⟩ := hrel
      have H1 := Lib.hid h1
      have H2 := Lib.hid h2
      have HBX := Lib.hid hbl
      clear h1 h2 hbl
      rcases Nat.lt_or_ge i j with hlt | hge2
      · --<L2
        have hij : (i : Int) < (j : Int) := by omega
        obtain ⟨bb, ob, rfl, lb, yb⟩ := HB.out.ex (by omega)
        obtain ⟨br, orr, rfl, lr, yr⟩ := HR.out.ex (by omega)
        have z1 := (HBX.out.cell (p := ⟨bb, ob + i, none⟩) lb).trans (yb i hlt)
        have z2 := (HBX.out.cell (p := ⟨br, orr + i, none⟩) lr).trans (yr i hlt)
        clear yb yr
        cases q1 with
        | true =>
          cases q2 with
          | true =>
            go_wp2_with fail
            go_roundw
            case rel => exact ⟨i + 1, true, true, by omega, rfl, rfl, by go_num, ex_keep H1.out, ex_keep H2.out, HBX.out⟩
            case measure => simp [intOf]; omega
          | false =>
            go_wp2_with fail
            refine (odd7_any (HRG.out.below HBX.out) ((HB.out.at_ i hlt).below HBX.out) (HLB.out i hlt)).mono ?_
            rintro e w4 ⟨⟨s4, rfl, hs4⟩, b4⟩
            have S4 := Lib.hid hs4
            have B4 := Lib.hid (HBX.out.trans (b4.mono HBX.out.size))
            clear hs4 b4
            go_wp2_with fail
            go_roundw
            case rel => exact ⟨i + 1, true, s4, by omega, rfl, rfl, by go_num, ex_keep H1.out, ex_more H2.out S4.out, B4.out⟩
            case measure => simp [intOf]; omega
        | false =>
          go_wp2_with fail
          refine (longs7_any ((HR.out.at_ i hlt).below HBX.out)).mono ?_
          rintro e w3 ⟨⟨s3, rfl, hs3⟩, rfl⟩
          have S3 := Lib.hid hs3
          clear hs3
          cases q2 with
          | true =>
            go_wp2_with fail
            go_roundw
            case rel => exact ⟨i + 1, s3, true, by omega, rfl, rfl, by go_num, ex_more H1.out S3.out, ex_keep H2.out, HBX.out⟩
            case measure => simp [intOf]; omega
          | false =>
            go_wp2_with fail
            refine (odd7_any (HRG.out.below HBX.out) ((HB.out.at_ i hlt).below HBX.out) (HLB.out i hlt)).mono ?_
            rintro e w4 ⟨⟨s4, rfl, hs4⟩, b4⟩
            have S4 := Lib.hid hs4
            have B4 := Lib.hid (HBX.out.trans (b4.mono HBX.out.size))
            clear hs4 b4
            go_wp2_with fail
            go_roundw
            case rel => exact ⟨i + 1, s3, s4, by omega, rfl, rfl, by go_num, ex_more H1.out S3.out, ex_more H2.out S4.out, B4.out⟩
            case measure => simp [intOf]; omega
        --L2>
      obtain rfl : i = j := by omega
      have hij : decide ((i : Int) < (i : Int)) = false := by simp
      cases q1 with
      | true =>
        have e1 : C = 2 := by rw [← HC.out]; exact mixC_long HF.out (H1.out.1 rfl)
        subst e1
        go_wp2_with fail
        go_ret2
        exact .inr ⟨by decide, rfl, HBX.out⟩
      | false =>
      have HLG := Lib.hid (show ¬ ∃ p, p < i ∧ LgS (Rs p).S (Rs p).n from fun g => by have := H1.out.2 g; cases this)
      clear H1
      go_wp2_with fail
      refine (of_nm7 (HK.out.below HBX.out) nk3).mono ?_
      rintro e w2 ⟨BK, mk, dk, rfl, kk, b2, -⟩
      have KK := Lib.hid kk
      have B2 := Lib.hid (HBX.out.trans (b2.mono HBX.out.size))
      clear kk b2
      obtain ⟨s3, hs3⟩ := el_bool r.P r.Q K
      have S3 := Lib.hid hs3
      clear hs3
      go_wp2_with fail
      refine (is7_any (HRG.out.below B2.out) LK.out KK.out (by rw [KK.out.len_]; exact li_dr LK.out HK.out) s3 S3.out).mono ?_
      rintro e w3 ⟨rfl, b3⟩
      have B3 := Lib.hid (B2.out.trans (b3.mono B2.out.size))
      clear b3 KK B2
      cases s3 with
      | false =>
        have e1 : C = 8 := by rw [← HC.out]; exact mixC_no HF.out HLG.out (fun g => by have := S3.out.2 g.1; cases this)
        subst e1
        go_wp2_with fail
        go_ret2
        exact .inr ⟨by decide, rfl, B3.out⟩
      | true =>
      have EK := Lib.hid (S3.out.1 rfl)
      clear S3
      cases q2 with
      | true =>
        have e1 : C = 8 := by
          rw [← HC.out]
          refine mixC_no HF.out HLG.out (fun g => ?_)
          obtain ⟨p, hp, hn⟩ := H2.out.1 rfl
          exact hn (g.2 p hp)
        subst e1
        go_wp2_with fail
        go_ret2
        exact .inr ⟨by decide, rfl, B3.out⟩
      | false =>
      have EL := Lib.hid (show ∀ p, p < i → ElL r.P r.Q (B p).S (B p).n from fun p hp => Classical.byContradiction fun g => by have := H2.out.2 ⟨p, hp, g⟩; cases this)
      have e1 : C = 0 := by rw [← HC.out]; exact mixC_ok HF.out HLG.out ⟨EK.out, EL.out⟩
      subst e1
      clear H2
      go_wp2_with fail
      obtain ⟨wb, rfl⟩ : ∃ wb, wb = w3 := ⟨_, rfl⟩
      go_loopw [19, 20] (fun v i' wr => DmR (fun p t => anewN r.P r.Q r.G K (Trp.of ((B (f p).toNat).S t)) ((Rs p).S t).N) i (B 0).n wb v i' wr) (fun _ i' _ => i - (intOf i').toNat)
      case atStart => exact ⟨0, fun _ => ⟨none, 0, 0, fun _ => ⟨none, 0, 0, none, 0, 0, none, 0, 0, 0, 0, 0⟩⟩, Nat.zero_le _, rfl, Owg.nil _ _ _ _ _, fun p hp => absurd hp (Nat.not_lt_zero p), Below.refl _ _⟩
      case round =>
        clear hij
        obtain ⟨m, L, hm, rfl, hown, hcl, hbl⟩ := hrel
        have HOW := Lib.hid hown
        have HCL := Lib.hid hcl
        have HBR := Lib.hid hbl
        have HBW2 := Lib.hid (B3.out.trans (hbl.mono B3.out.size))
        clear hown hcl hbl
        rcases Nat.lt_or_ge m i with hlt | hge3
        · --<L3
          have hmi : (m : Int) < (i : Int) := by omega
          obtain ⟨bp, op, rfl, lp, yp⟩ := HP.out (by omega)
          obtain ⟨bb, ob, rfl, lb, yb⟩ := HB.out.ex (by omega)
          obtain ⟨br, orr, rfl, lr, yr⟩ := HR.out.ex (by omega)
          have hF := HF.out.2.2.2.1 m hlt
          obtain ⟨v, hv⟩ : ∃ v : Nat, f m = v := ⟨(f m).toNat, by have := hF.2.2.2.2.1; omega⟩
          have hvi : v < i := by have := hF.2.2.2.2.2; omega
          have hF2 := HF.out.2.2.2.1 v hvi
          have z1 := (HBW2.out.cell (p := ⟨bb, ob + v, none⟩) lb).trans (yb v hvi)
          have z2 := (HBW2.out.cell (p := ⟨br, orr + m, none⟩) lr).trans (yr m hlt)
          have z3 := (HBW2.out.cell (p := ⟨bp, op + m, none⟩) lp).trans (yp m hlt)
          rw [hv] at z3
          have HFV := Lib.hid hv
          have hvi2 : (v : Int) < (i : Int) := by omega
          have hshape : 1 ≤ (B v).n ∧ (B v).n ≤ 32 ∧ (B v).n = (Rs m).n := ⟨hF2.1, hF2.2.1, by have := hF2.2.2.2.1; have := hF.2.2.2.1; have := hF.2.2.1; omega⟩
          have hvn : (B v).n = (B 0).n := hF2.2.2.2.1
          have hnl : ¬ LgS (Rs m).S (Rs m).n := fun g => HLG.out ⟨m, hlt, g⟩
          have HDR := Lib.hid (Below.refl wr.heap.size wr).drew
          have HWD := Lib.hid (HBW2.out.trans ((Below.refl wr.heap.size wr).drew.mono HBW2.out.size))
          have hcon := (ranew7_lo (HRG.out.below HWD.out) (HK.out.below HWD.out) LK.out ((HB.out.at_ v hvi).below HWD.out) (HLB.out v hvi) ((HR.out.at_ m hlt).below HWD.out) (HLR.out m hlt)).mono fun e w' g => g.resolve_right (fun k => k.1 (fitC_ok hshape hnl ⟨EK.out, EL.out v hvi⟩)) |> And.right
          have HCON := Lib.hid hcon
          have HVN := Lib.hid hvn
          have kA := And.intro z1 (And.intro z2 z3)
          clear yp yb yr hF hF2 hv hshape hnl hcon hvn
          go_wp2_with fail
          go_region_held3 (fun w' => w'.cell? ⟨bb, ob + v, none⟩ = some (.slice (B v).A (B v).n (B v).c) ∧ w'.cell? ⟨br, orr + m, none⟩ = some (.slice (Rs m).A (Rs m).n (Rs m).c) ∧ w'.cell? ⟨bp, op + m, none⟩ = some (.int .i64 (v : Int))) (first | exact kA | exact kB | go_keep | assumption)
            (first
            | (go_at_call 19; (with_reducible refine HCON.out.mono ?_); rintro e w4 ⟨A4, c4, S4, rfl, h41, h42, h43⟩; have kB := And.intro ((h43.cell (p := ⟨bb, ob + v, none⟩) (Nat.lt_of_lt_of_le lb HWD.out.size)).trans kA.1) (And.intro ((h43.cell (p := ⟨br, orr + m, none⟩) (Nat.lt_of_lt_of_le lr HWD.out.size)).trans kA.2.1) ((h43.cell (p := ⟨bp, op + m, none⟩) (Nat.lt_of_lt_of_le lp HWD.out.size)).trans kA.2.2)); have H41 := Lib.hid h41; have H42 := Lib.hid h42; have H43 := Lib.hid h43; clear h41 h42 h43))
          all_goals
            clear kA kB z1 z2 z3
            have hzz : wr.drew.heap.size = wr.heap.size := rfl
            have O4 := Lib.hid (((HOW.out.below HDR.out).below H43.out).below (below_al w4 (.cells #[.slice A4 (B v).n c4] 25)))
            have U1 := Lib.hid (show (w4.alloc (.cells #[.slice A4 (B v).n c4] 25)).cell? ⟨w4.heap.size, 0, none⟩ = some (kCh.v ⟨A4, (B v).n, c4, S4⟩) from one_at w4 _ _)
            have U2 := Lib.hid (show kCh.At (w4.alloc (.cells #[.slice A4 (B v).n c4] 25)) ⟨A4, (B v).n, c4, S4⟩ from H41.out.ch.below (below_al _ _))
            have U3 := Lib.hid (show ∀ b, kCh.Bl ⟨A4, (B v).n, c4, S4⟩ b → u19.ownBlock ≠ some b from fun b hb => HOW.out.far (H41.out.bl hb))
            have B4 := Lib.hid ((HBR.out.trans (HDR.out.mono HBR.out.size)).trans (H43.out.mono (by have := HBR.out.size; omega)))
            have sz4 : wb.heap.size ≤ (w4.alloc (.cells #[.slice A4 (B v).n c4] 25)).heap.size := Nat.le_trans B4.out.size (by simp)
            go_wp2_with (at_builtin; refine wpList_owg rfl (.tmp 157) (.tmp 159) 45 rfl wb.heap.size 25 24 (.slice none 0 0) Tryz.underlying45 infoL7 rfl _ m 1 L ⟨A4, (B v).n, c4, S4⟩ rfl O4.out w4.heap.size rfl U1.out U2.out U3.out (by unfold maxLen; omega) (by omega) sz4 ?_)
            rintro v' w5 hown5 hg5
            have HO5 := Lib.hid hown5
            have hb5 := (B4.out.trans ((below_al w4 (.cells #[.slice A4 (B v).n c4] 25)).mono B4.out.size)).grown hg5 sz4 (fun b e => (HOW.out.lt e).1)
            have HB5 := Lib.hid hb5
            clear hown5 hg5 hb5
            go_wp2_with fail
            go_roundw
            case rel =>
              refine ⟨m + 1, _, by omega, by go_num, HO5.out, fun p hp => ?_, HB5.out⟩
              rcases Nat.lt_or_ge p m with g | g
              · rw [snocG_lt g]; exact HCL.out p g
              · obtain rfl : p = m := by omega
                rw [snocG_at]
                refine ⟨HVN.out, H41.out.can, fun t ht => ?_⟩
                have e := H42.out t (by have := HVN.out; omega)
                show _ = anewN r.P r.Q r.G K (Trp.of ((B (f p).toNat).S t)) ((Rs p).S t).N
                rw [HFV.out]
                exact e
            case measure => simp [intOf]; omega
          --L3>
        obtain rfl : m = i := by omega
        have hmi : decide ((m : Int) < (m : Int)) = false := by simp
        obtain ⟨A1, c1, rfl, -, hbat⟩ := HOW.out.bat (by omega)
        have HBAT := Lib.hid hbat
        clear hbat
        go_wp2_with fail
        go_ret2
        exact .inl ⟨rfl, A1, c1, L, rfl, HBAT.out, HCL.out, HBW2.out⟩
end Go.Proofs.YtpmnghealjgkeaaGreat
