/-
  MixMixes answers true: a batch, mixed by any permutation and any scalars, as the document has it, or what is amiss first.
-/
import Derived.Test.YtpmnghealjgkeaaGreatB7
import Derived.Test.YtpmnghealjgkeaaGreatK7
import Derived.Test.YtpmnghealjgkeaaGreatL7z
import Derived.Test.YtpmnghealjgkeaaGreatBv7
namespace Go.Proofs.YtpmnghealjgkeaaGreat
open Go.RowKit
set_option linter.unusedVariables false
def MmL (B : Nat → Lsl) (nb : Nat) (w : World) (i : Value) (wr : World) : Prop := ∃ j : Nat, j ≤ nb ∧ i = .int .i64 j ∧ (∀ p, p < j → ∀ t, t < (B p).n → LiS ((B p).S t)) ∧ B7 w wr
def MmR (Rs : Nat → Rsl) (nr : Nat) (w : World) (i : Value) (wr : World) : Prop := ∃ j : Nat, j ≤ nr ∧ i = .int .i64 j ∧ (∀ p, p < j → LiN (Rs p).S (Rs p).n) ∧ B7 w wr
def MmS (n : Nat) (w : World) (i : Value) (wr : World) : Prop := ∃ j : Nat, j ≤ n ∧ i = .int .i64 j ∧ B7 w wr
theorem Bat.b7 {w w' : World} {A : Option Addr} {n c : Nat} {B : Nat → Lsl} (h : Bat w A n c B) (hb : B7 w w') : Bat w' A n c B := h.below hb
theorem Rls.b7 {w w' : World} {A : Option Addr} {n c : Nat} {B : Nat → Rsl} (h : Rls w A n c B) (hb : B7 w w') : Rls w' A n c B := h.below hb
set_option maxHeartbeats 32000000 in
set_option maxRecDepth 100000 in
theorem mixMixes_walk {w : World} (x : Int) (hx : -9223372036854775808 ≤ x ∧ x ≤ 9223372036854775807) {Ak Ab Ap Ar : Option Addr} {nk ck nb cb np cp nr cr : Nat} {K : Int} {B : Nat → Lsl} {ps : List Int} {Rs : Nat → Rsl}
    (hk : Nm w Ak nk ck K) (hb : Bat w Ab nb cb B) (h72 : ∀ i, i < nb → (B i).n * 72 ≤ 140737488355328) (hp : Rd .i64 w Ap np ps) (hr : Rls w Ar nr cr Rs) :
    Calls Tryz.prog 4 #[.int .i64 x, .slice Ak nk ck, .slice Ab nb cb, .slice Ap np cp, .slice Ar nr cr] w (AnsV (.bool true) w) := by
  have HK := Lib.hid hk
  have HB := Lib.hid hb
  have HP := Lib.hid hp
  have HR := Lib.hid hr
  have HX := Lib.hid hx
  have H72 := Lib.hid h72
  have heq := eq_none
  clear hk hb hp hr hx h72
  go_enter Tryz.func4, Tryz.ntmps4
  go_wp2_with fail
  refine (up7_any w).mono ?_
  rintro e w0 ⟨rfl, b0⟩
  have B0 := Lib.hid (show B7 w w0 from b0)
  clear b0
  go_wp2_with fail
  refine (known7_any x HX.out w0).mono ?_
  rintro e w1 ⟨b, d, b', r, rfl, gr, rg, eP, eQ, eG, b1⟩
  have B1 := Lib.hid (B0.out.trans b1)
  have GR := Lib.hid gr
  have RG := Lib.hid rg
  have EP := Lib.hid eP
  have EQ := Lib.hid eQ
  have EG := Lib.hid eG
  clear b1 gr rg eP eQ eG B0
  have heqb := heq b
  clear heq
  go_upto_region 5 with fail
  go_cut [54] (fun v wx => (∃ q : Bool, v = .bool q ∧ (q = false → nb ≤ 300 ∧ nr ≤ 300 ∧ np ≤ 300)) ∧ w1 = wx)
  case first =>
    clear heqb
    have key : Hid (∀ q : Bool, (q = true ∨ (nb ≤ 300 ∧ nr ≤ 300 ∧ np ≤ 300)) → (∃ q' : Bool, Value.bool q = .bool q' ∧ (q' = false → nb ≤ 300 ∧ nr ≤ 300 ∧ np ≤ 300))) := Lib.hid fun q h => ⟨q, rfl, fun e => h.elim (fun g => by rw [e] at g; cases g) id⟩
    rcases Nat.lt_or_ge 5 nb with g1 | g1
    · have e1 : decide ((5 : Int) < (nb : Int)) = true := by simp; omega
      rcases Nat.lt_or_ge 256 nb with g2 | g2
      · have e2 : decide ((nb : Int) ≤ 256) = false := by simp; omega
        rcases Nat.lt_or_ge 300 nb with g3 | g3
        · have e3 : decide ((300 : Int) < (nb : Int)) = true := by simp; omega
          go_wp2_with fail
          go_meet
          exact ⟨key.out true (.inl rfl), rfl⟩
        · have e3 : decide ((300 : Int) < (nb : Int)) = false := by simp; omega
          rcases Nat.lt_or_ge 300 nr with g4 | g4
          · have e4 : decide ((300 : Int) < (nr : Int)) = true := by simp; omega
            go_wp2_with fail
            go_meet
            exact ⟨key.out true (.inl rfl), rfl⟩
          · have e4 : decide ((300 : Int) < (nr : Int)) = false := by simp; omega
            rcases Nat.lt_or_ge 300 np with g5 | g5
            · have e5 : decide ((300 : Int) < (np : Int)) = true := by simp; omega
              go_wp2_with fail
              go_meet
              exact ⟨key.out true (.inl rfl), rfl⟩
            · have e5 : decide ((300 : Int) < (np : Int)) = false := by simp; omega
              go_wp2_with fail
              go_meet
              exact ⟨key.out false (.inr ⟨g3, g4, g5⟩), rfl⟩
      · have e2 : decide ((nb : Int) ≤ 256) = true := by simp; omega
        go_wp2_with fail
        go_meet
        exact ⟨key.out true (.inl rfl), rfl⟩
    · have e1 : decide ((5 : Int) < (nb : Int)) = false := by simp; omega
      have e3 : decide ((300 : Int) < (nb : Int)) = false := by simp; omega
      rcases Nat.lt_or_ge 300 nr with g4 | g4
      · have e4 : decide ((300 : Int) < (nr : Int)) = true := by simp; omega
        go_wp2_with fail
        go_meet
        exact ⟨key.out true (.inl rfl), rfl⟩
      · have e4 : decide ((300 : Int) < (nr : Int)) = false := by simp; omega
        rcases Nat.lt_or_ge 300 np with g5 | g5
        · have e5 : decide ((300 : Int) < (np : Int)) = true := by simp; omega
          go_wp2_with fail
          go_meet
          exact ⟨key.out true (.inl rfl), rfl⟩
        · have e5 : decide ((300 : Int) < (np : Int)) = false := by simp; omega
          go_wp2_with fail
          go_meet
          exact ⟨key.out false (.inr ⟨by omega, g4, g5⟩), rfl⟩
  case rest =>
  obtain ⟨⟨q, rfl, hq⟩, rfl⟩ := hcut
  cases q with
  | true =>
    go_wp2_with fail
    go_ret
    exact ⟨rfl, B1.out⟩
  | false =>
  obtain ⟨b300, r300, p300⟩ := hq rfl
  clear hq
  go_wp2_with fail
  obtain ⟨wb, rfl⟩ : ∃ wb, wb = w1 := ⟨_, rfl⟩
  go_loopw [14] (fun i wr => MmL B nb wb i wr) (fun i _ => nb - (intOf i).toNat)
  case atStart => exact ⟨0, Nat.zero_le _, rfl, fun p hp => absurd hp (Nat.not_lt_zero p), B7.refl _⟩
  case round =>
    obtain ⟨j, hj, rfl, hl, hbl⟩ := hrel
    have HL := Lib.hid hl
    have HBL := Lib.hid hbl
    have BX := Lib.hid (B1.out.trans hbl)
    clear hl hbl
    rcases Nat.lt_or_ge j nb with hlt | hge
    · --<L1
      have hjn : (j : Int) < (nb : Int) := by omega
      obtain ⟨bb, ob, rfl, lb, yb⟩ := HB.out.ex (by omega)
      have z1 := (BX.out.cell (p := ⟨bb, ob + j, none⟩) lb).trans (yb j hlt)
      have c60 := (HB.out.at_ j hlt).c60
      clear yb
      go_wp2_with fail
      refine (few7_any (B j).n c60 wr).mono ?_
      rintro e w2 ⟨⟨q1, rfl, -⟩, rfl⟩
      cases q1 with
      | false =>
        go_wp2_with fail
        go_ret
        exact ⟨rfl, BX.out⟩
      | true =>
      go_wp2_with fail
      refine (pairs7_any ((HB.out.at_ j hlt).below BX.out) (H72.out j hlt)).mono ?_
      rintro e w3 ⟨A3, c3, S3, rfl, h1, h2, h3⟩
      have BX3 := Lib.hid (BX.out.trans h3)
      have BL3 := Lib.hid (HBL.out.trans h3)
      have N3 := Lib.hid h1
      have P3 := Lib.hid h2
      clear h1 h2 h3 z1
      go_wp2_with fail
      refine (light7_any N3.out).mono ?_
      rintro e w4 ⟨⟨q1, rfl, hq⟩, rfl⟩
      cases q1 with
      | false =>
        clear hq
        go_wp2_with fail
        go_ret
        exact ⟨rfl, BX3.out⟩
      | true =>
      have LL := Lib.hid ((pairs_lis P3.out).1 (hq.1 rfl))
      clear hq
      go_wp2_with fail
      go_roundw
      case rel =>
        refine ⟨j + 1, by omega, by go_num, fun p hp => ?_, BL3.out⟩
        rcases Nat.lt_or_ge p j with g | g
        · exact HL.out p g
        · obtain rfl : p = j := by omega
          exact LL.out
      case measure => simp [intOf]; omega
      --L1>
    obtain rfl : j = nb := by omega
    have hjn : decide ((j : Int) < (j : Int)) = false := by simp
    go_wp2_with fail
    obtain ⟨wc, rfl⟩ : ∃ wc, wc = wr := ⟨_, rfl⟩
    go_loopw [16] (fun i wr => MmR Rs nr wc i wr) (fun i _ => nr - (intOf i).toNat)
    case atStart => exact ⟨0, Nat.zero_le _, rfl, fun p hp => absurd hp (Nat.not_lt_zero p), B7.refl _⟩
    case round =>
      clear hjn
      obtain ⟨i, hi, rfl, hl, hbl⟩ := hrel
      have HLR := Lib.hid hl
      have BLR := Lib.hid (HBL.out.trans hbl)
      have BY := Lib.hid (BX.out.trans hbl)
      have BC := Lib.hid hbl
      clear hl hbl
      rcases Nat.lt_or_ge i nr with hlt | hge2
      · --<L2
        have hin : (i : Int) < (nr : Int) := by omega
        obtain ⟨br, orr, rfl, lr, yr⟩ := HR.out.ex (by omega)
        have z1 := (BY.out.cell (p := ⟨br, orr + i, none⟩) lr).trans (yr i hlt)
        clear yr
        rcases Nat.lt_or_ge 40 (Rs i).n with g | g
        · have e1 : decide (((Rs i).n : Int) ≤ 40) = false := by simp; omega
          go_wp2_with fail
          go_ret
          exact ⟨rfl, BY.out⟩
        have e1 : decide (((Rs i).n : Int) ≤ 40) = true := by simp; omega
        go_wp2_with fail
        refine (light7_any ((HR.out.at_ i hlt).below BY.out)).mono ?_
        rintro e w4 ⟨⟨q1, rfl, hq⟩, rfl⟩
        cases q1 with
        | false =>
          clear hq
          go_wp2_with fail
          go_ret
          exact ⟨rfl, BY.out⟩
        | true =>
        have LL := Lib.hid (hq.1 rfl)
        clear hq
        go_wp2_with fail
        go_roundw
        case rel =>
          refine ⟨i + 1, by omega, by go_num, fun p hp => ?_, BC.out⟩
          rcases Nat.lt_or_ge p i with g | g
          · exact HLR.out p g
          · obtain rfl : p = i := by omega
            exact LL.out
        case measure => simp [intOf]; omega
        --L2>
      obtain rfl : i = nr := by omega
      have hin : decide ((i : Int) < (i : Int)) = false := by simp
      have B2 := Lib.hid (BY.out.trans (B7.alloc wr (.cells #[.slice Ak nk ck] 23)))
      have GR2 := Lib.hid (B7.gr (BLR.out.trans (B7.alloc wr (.cells #[.slice Ak nk ck] 23))) GR.out)
      have RG2 := Lib.hid (RG.out.below (BLR.out.trans (B7.alloc wr (.cells #[.slice Ak nk ck] 23))))
      go_wp2_with fail
      refine (light7_any (ns_one (BY.out.nm HK.out))).mono ?_
      rintro e w2 ⟨⟨q1, rfl, hq⟩, rfl⟩
      cases q1 with
      | false =>
        clear hq
        go_wp2_with fail
        go_ret
        exact ⟨rfl, B2.out⟩
      | true =>
      have LK := Lib.hid (show Li nk K from hq.1 rfl 0 (by decide))
      clear hq
      obtain ⟨C, hC⟩ : ∃ C, mixC d.P d.Q K B j (dig ps) np Rs i = C := ⟨_, rfl⟩
      have RC := Lib.hid (show C ≠ 0 → 1 ≤ C ∧ C ≤ 15 by rw [← hC]; exact mixC_rng)
      have HC := Lib.hid hC
      obtain ⟨m0, hm0⟩ : ∃ m0, (B 0).n = m0 := ⟨_, rfl⟩
      have HM0 := Lib.hid hm0
      clear hC hm0 hin GR RG BLR BC
      go_wp2_with fail
      have con5 := pm_mix (cp := cp) GR2.out (B2.out.nm HK.out) (HB.out.b7 B2.out) (HP.out.below B2.out) (HR.out.b7 B2.out)
      rw [HC.out, HM0.out] at con5
      refine (con5.mono fun e w' g => BatP.v g RC.out).mono ?_
      clear con5
      rintro e w5 ⟨A5, c5, S5, E5, rfl, h1, h2, h3, h5⟩
      obtain ⟨n5, hn5⟩ : ∃ n5, lenV C j = n5 := ⟨_, rfl⟩
      rw [hn5] at h2 h3 ⊢
      have N5 := Lib.hid hn5
      have n5j : n5 ≤ 300 := by rw [← hn5]; unfold lenV; split <;> omega
      have E5' := Lib.hid h1
      have H5 := Lib.hid h2
      have T5 := Lib.hid h3
      have B5 := Lib.hid (B2.out.trans h5)
      have RG5 := Lib.hid (RG2.out.below h5)
      clear h1 h2 h3 h5 hn5 GR2 RG2 B2
      go_wp2_with fail
      have con6 := rmix7_any (cp := cp) RG5.out (B5.out.nm HK.out) LK.out (HB.out.b7 B5.out) HL.out (HP.out.below B5.out) (HR.out.b7 B5.out) HLR.out (by omega)
      rw [EP.out, EQ.out, EG.out, HC.out, HM0.out] at con6
      refine (con6.mono fun e w' g => g.v).mono ?_
      clear con6
      rintro e w6 ⟨A6, c6, S6, rfl, h2, h3, h5⟩
      rw [N5.out] at h2 h3 ⊢
      have H6 := Lib.hid h2
      have T6 := Lib.hid h3
      have B6 := Lib.hid (B5.out.trans h5)
      have H56 := Lib.hid (H5.out.b7 h5)
      clear h2 h3 h5 RG5 B5 H5
      have t1 : ((n5 : Int) != (n5 : Int)) = false := by simp
      go_wp2_with fail
      obtain ⟨wd, rfl⟩ : ∃ wd, wd = w6 := ⟨_, rfl⟩
      go_loopw [22] (fun i wr => MmS n5 wd i wr) (fun i _ => n5 - (intOf i).toNat)
      case atStart => exact ⟨0, Nat.zero_le _, rfl, B7.refl _⟩
      case round =>
        clear t1
        obtain ⟨p, hp, rfl, hbl⟩ := hrel
        have HBD := Lib.hid hbl
        clear hbl
        rcases Nat.lt_or_ge p n5 with hlt | hge3
        · --<L3
          have hpn : (p : Int) < (n5 : Int) := by omega
          have h5 := H56.out.b7 HBD.out
          have h6 := H6.out.b7 HBD.out
          obtain ⟨bo, of, rfl, lo, yo⟩ := h5.ex (by omega)
          obtain ⟨bo', of', rfl, lo', yo'⟩ := h6.ex (by omega)
          have z1 := yo p hlt
          have z2 := yo' p hlt
          have c1 := h5.at_ p hlt
          have c2 := h6.at_ p hlt
          obtain ⟨u1, u2, u3⟩ := T5.out p hlt
          obtain ⟨v1, v2, v3⟩ := T6.out p hlt
          rw [u1] at z1 c1 u2
          rw [v1] at z2 c2 v2
          have SQ := Lib.hid (fun q => same7_q (q := q) c1 c2 u2 v2 (fun t ht => (u3 t ht).trans (v3 t ht).symm))
          clear yo yo' c1 c2 u1 u2 u3 v1 v2 v3 h5 h6
          go_wp2_with fail
          go_quiet ((go_at_call 20; exact SQ.out _))
          go_wp2_with fail
          go_roundw
          case rel => exact ⟨p + 1, by omega, by go_num, HBD.out.trans (B7.drewN _ _)⟩
          case measure => simp [intOf]; omega
          --L3>
        obtain rfl : p = n5 := by omega
        have hpn : decide ((p : Int) < (p : Int)) = false := by simp
        have t2 : ((C : Int) == C) = true := by simp
        go_wp2_with fail
        refine (code_e E5'.out _).mono ?_
        rintro e w11 ⟨rfl, rfl⟩
        go_wp2_with fail
        go_ret
        first
        | exact ⟨rfl, B6.out.trans HBD.out⟩
        | exact ⟨by simp, B6.out.trans HBD.out⟩
end Go.Proofs.YtpmnghealjgkeaaGreat
