/-
  The document's own quotient and rest: what treenailref01.double and Div answer.
-/
import Derived.Test.YtbgnjbalojcgkaaDoorRefV
import Derived.Test.YtbgnjbalojcgkaaDoorBt
namespace Go.Proofs.YtbgnjbalojcgkaaDoor
open Go.RowKit
set_option linter.unusedVariables false
theorem Rn.nil (w : World) : Rn w none 0 0 0 := ⟨by rw [dg_zero]; exact Rd.nil _ _ _, Nat.le_refl _, by omega, Int.le_refl _⟩
theorem dgD_one {x : Int} (h0 : 1 ≤ x) (h1 : x < D) : dg D x = [x] := by
  rw [dg_pos D_two (by omega), Int.emod_eq_of_lt (by omega) h1, Int.ediv_eq_zero_of_lt (by omega) h1, dg_zero]
theorem rlit (w : World) {x : Int} (h0 : 1 ≤ x) (h1 : x < D) : Rn (w.alloc (.cells #[.int .i64 x] 3)) (some ⟨w.heap.size, 0, none⟩) 1 1 x := by
  have hr : Row (w.alloc (.cells #[.int .i64 x] 3)) w.heap.size 3 .i64 [x] := Row.new w 3 .i64 [x]
  exact ⟨by rw [dgD_one h0 h1]; exact hr.rd rfl (fun j y hy => by rwa [Nat.zero_add]), Nat.le_refl _, by omega, by omega⟩
/-- Twice, and one more. -/
def dbl (N : Int) (b : Bool) : Int := 2 * N + if b then 1 else 0
theorem dr_mono {N M : Int} (h0 : 0 ≤ N) (h : N ≤ M) : dr N ≤ dr M := dg_len_mono D_two h0 h
theorem double_any {A : Option Addr} {n c : Nat} {N : Int} {w : World} (h : Rn w A n c N) (hn : n ≤ 90000) (b : Bool) (hd : dr (2 * N) ≤ 90000) :
    Calls Tryd.prog 20 #[.slice A n c, .bool b] w (AnsN (dbl N b) w) := by
  cases b with
  | false =>
    have e : dbl N false = N + N := by unfold dbl; simp; omega
    rw [e]
    clear e
    go_enter Tryd.func20, Tryd.ntmps20
    go_wp2_with fail
    refine (radd_any h h (by omega) (by omega)).mono ?_
    rintro e w1 ⟨B, m, cap, rfl, k1, b1⟩
    go_wp2
    go_ret
    exact ⟨B, m, cap, rfl, k1, b1⟩
  | true =>
    have e : dbl N true = (N + N) + 1 := by unfold dbl; simp; omega
    rw [e]
    clear e
    have e2 : N + N = 2 * N := by omega
    go_enter Tryd.func20, Tryd.ntmps20
    clear e2
    go_wp2_with fail
    refine (radd_any h h (by omega) (by omega)).mono ?_
    rintro e w1 ⟨B, m, cap, rfl, k1, b1⟩
    have hm : m ≤ 100000 := by have := k1.len_; rw [show N + N = 2 * N by omega] at this; omega
    go_wp2_with fail
    refine (radd_any (k1.below ((Below.refl _ _).alloc (Nat.le_refl _) _)) (rlit w1 (x := 1) (by decide) (by decide)) hm (by omega)).mono ?_
    rintro e w2 ⟨B2, m2, cap2, rfl, k2, b2⟩
    have b3 := b1.trans ((below_one b2).mono b1.size)
    go_wp2
    go_ret
    exact ⟨B2, m2, cap2, rfl, k2, b3⟩
def RdR (N M : Int) (w : World) (q r i : Value) (wr : World) : Prop :=
  ∃ (k : Nat) (v Q R : Int) (B : Option Addr) (m cap : Nat) (B' : Option Addr) (m' cap' : Nat), i = .int .i64 v ∧ v = (k : Int) - 1 ∧ k ≤ nb N ∧ q = .slice B m cap ∧ r = .slice B' m' cap' ∧ Rn wr B m cap Q ∧ Rn wr B' m' cap' R ∧ R < M ∧ Q * M + R = N / 2 ^ k ∧ Below w.heap.size w wr
def QRN (Q R : Int) (w : World) (e : Ending) (w' : World) : Prop :=
  ∃ B m cap B' m' cap', e = .returned (.tuple #[.slice B m cap, .slice B' m' cap']) ∧ Rn w' B m cap Q ∧ Rn w' B' m' cap' R ∧ Below w.heap.size w w'
theorem rdiv_fin {N M Q R : Int} (h : Q * M + R = N) (r0 : 0 ≤ R) (r1 : R < M) : Q = N / M ∧ R = N % M := by
  have e : N = R + M * Q := by rw [Int.mul_comm]; omega
  rw [e]
  refine ⟨?_, ?_⟩
  · rw [Int.add_mul_ediv_left _ _ (by omega), Int.ediv_eq_zero_of_lt r0 r1]; simp
  · rw [Int.add_mul_emod_self_left, Int.emod_eq_of_lt r0 r1]
set_option maxHeartbeats 8000000 in
theorem rdiv_any {A A' : Option Addr} {n c n' c' : Nat} {N M : Int} {w : World} (h : Rn w A n c N) (h' : Rn w A' n' c' M) (hn : n ≤ 1000) (hn' : n' ≤ 1000) (hM : 0 < M) :
    Calls Tryd.prog 10 #[.slice A n c, .slice A' n' c'] w (QRN (N / M) (N % M) w) := by
  have n0 := h.pos
  have hnl := h.len_
  have hml := h'.len_
  have hN1 : N < D ^ 1000 := dg_lt_pow D_two n0 (by have : (dg D N).length = dr N := rfl; omega)
  have hM1 : M < D ^ 1000 := dg_lt_pow D_two (show 0 ≤ M by omega) (by have : (dg D M).length = dr M := rfl; omega)
  have hlim : ∀ x : Int, 0 ≤ x → x ≤ 4 * N + 4 * M → dr x ≤ 1001 := fun x h0 h1 => dg_len_le D_two h0 (by
    have e : D ^ 1001 = D ^ 1000 * D := Int.pow_succ _ _
    have : D ^ 1000 * 8 ≤ D ^ 1000 * D := Int.mul_le_mul_of_nonneg_left (by decide) (Int.le_of_lt (pow_pos' D_two 1000))
    generalize D ^ 1000 = p at *
    omega)
  have HLIM := Lib.hid hlim
  clear hlim hN1 hM1 hnl hml
  have hnb : nb N ≤ 16000 := by
    refine dg_len_le (by decide) n0 ?_
    have := dg_lt_pow D_two n0 (show (dg D N).length ≤ 1000 by have := h.rd.len; omega)
    rw [D_pow] at this
    exact this
  go_enter Tryd.func10, Tryd.ntmps10
  go_wp2_with fail
  refine (rbits_any h (by omega)).mono ?_
  rintro e w1 ⟨rfl, rfl⟩
  go_wp2_with fail
  go_loopw [6, 7, 8] (fun q r i wr => RdR N M w q r i wr) (fun _ _ i _ => (intOf i + 1).toNat)
  case atStart => exact ⟨nb N, _, 0, 0, none, 0, 0, none, 0, 0, rfl, rfl, Nat.le_refl _, rfl, rfl, Rn.nil _, Rn.nil _, hM, by rw [Int.ediv_eq_zero_of_lt n0 (nb_lt n0)]; simp, Below.refl _ _⟩
  case round =>
    obtain ⟨k, v, Q, R, B, m, cap, B', m', cap', rfl, hv, hk, rfl, rfl, kq, kr, r1, hs, hb⟩ := hrel
    have HS := Lib.hid hs
    clear hs
    rcases Nat.eq_zero_or_pos k with g | g
    · subst g
      obtain rfl : v = -1 := by omega
      have hs2 : Q * M + R = N := by have := HS.out; simpa using this
      obtain ⟨rfl, rfl⟩ := rdiv_fin hs2 kr.pos r1
      clear hv hk hs2
      go_wp2
      go_ret2
      exact ⟨_, _, _, _, _, _, rfl, kq, kr, hb⟩
    · obtain ⟨j, rfl⟩ : ∃ j, k = j + 1 := ⟨k - 1, by omega⟩
      obtain rfl : v = (j : Int) := by omega
      have hstep := half_step (N := N) (j := j)
      rw [bt_val] at hstep
      have hq0 := kq.pos
      have hr0 := kr.pos
      have hQM : Q ≤ Q * M := by have := Int.mul_le_mul_of_nonneg_left (show (1 : Int) ≤ M by omega) hq0; omega
      have hle1 : N / 2 ^ (j + 1) ≤ N := Int.ediv_le_self _ n0
      have hle2 : N / 2 ^ j ≤ N := Int.ediv_le_self _ n0
      have hQ : Q ≤ N := by have := HS.out; omega
      have s1 : m ≤ 90000 := by have := kq.len_; have := HLIM.out Q hq0 (by omega); omega
      have s2 : m' ≤ 90000 := by have := kr.len_; have := HLIM.out R hr0 (by omega); omega
      have s3 : dr (2 * R) ≤ 90000 := by have := HLIM.out (2 * R) (by omega) (by omega); omega
      have s4 : dr (2 * Q) ≤ 90000 := by have := HLIM.out (2 * Q) (by omega) (by omega); omega
      have dR0 : 0 ≤ dbl R (bt N (j : Int)) := by unfold dbl; split <;> omega
      have dR1 : dbl R (bt N (j : Int)) ≤ 2 * M - 1 := by unfold dbl; split <;> omega
      have s5 : dr (dbl R (bt N (j : Int))) ≤ 100000 := by have := HLIM.out _ dR0 (by omega); omega
      have hmain : 2 * Q * M + dbl R (bt N (j : Int)) = N / 2 ^ j := by
        unfold dbl
        rw [hstep, ← HS.out]
        have e : 2 * Q * M = 2 * (Q * M) := Int.mul_assoc _ _ _
        rw [e]
        omega
      have HMAIN := Lib.hid hmain
      have hj : (j : Int) ≤ 16000 := by omega
      clear hv hstep hQM hle1 hle2 hQ hmain
      go_wp2_with fail
      refine (rbit_any (h.below hb) (by omega) (j : Int) (by omega)).mono ?_
      rintro e w2 ⟨rfl, rfl⟩
      go_wp2_with fail
      refine (double_any kr s2 (bt N (j : Int)) s3).mono ?_
      rintro e w2 ⟨B2, m2, p2, rfl, k2, b2⟩
      have b2' := hb.trans (b2.mono hb.size)
      have kq2 := kq.below b2
      have z2 : m2 ≤ 100000 := by have := k2.len_; omega
      go_wp2_with fail
      refine (rcmp_v k2 (h'.below b2') z2 (by omega)).mono ?_
      rintro e w3 ⟨rfl, b3⟩
      have b3' := b2'.trans (b3.mono b2'.size)
      have kq3 := kq2.below b3
      have k3 := k2.below b3
      clear kq2 k2 b2 b3 b2' kq kr
      obtain ⟨R2, hR2⟩ : ∃ R2, dbl R (bt N (j : Int)) = R2 := ⟨_, rfl⟩
      rw [hR2] at k3 dR0 dR1 s5 HMAIN
      by_cases hge : M ≤ R2
      · have t1 : decide (0 ≤ cmpI (dbl R (bt N (j : Int))) M) = true := by
          rw [hR2]
          rcases Int.lt_or_eq_of_le hge with q | q
          · rw [cmpI_gt q]; rfl
          · rw [q, cmpI_eq]; rfl
        have HR2 := Lib.hid hR2
        clear hR2
        go_wp2_with fail
        refine (rsub_any k3 (h'.below b3') (by have := k3.len_; omega) hge).mono ?_
        rintro e w4 ⟨B4, m4, p4, rfl, k4, b4⟩
        have b4' := b3'.trans (b4.mono b3'.size)
        have kq4 := kq3.below b4
        go_wp2_with fail
        refine (double_any kq4 s1 true s4).mono ?_
        rintro e w5 ⟨B5, m5, p5, rfl, k5, b5⟩
        have b5' := b4'.trans (b5.mono b4'.size)
        have k4' := k4.below b5
        have hfin : dbl Q true * M + (R2 - M) = N / 2 ^ j := by
          rw [← HMAIN.out]; unfold dbl; simp only [if_true]; rw [Int.add_mul]; omega
        have HFIN := Lib.hid hfin
        clear hfin kq3 k3 kq4 k4 b4 b5 b3' b4' t1
        go_wp2
        go_roundw
        case rel => exact ⟨j, _, _, _, _, _, _, _, _, _, rfl, rfl, by omega, rfl, rfl, k5, k4', by omega, HFIN.out, b5'⟩
        case measure => simp [intOf]
      · have hlt : R2 < M := by omega
        have t1 : decide (0 ≤ cmpI (dbl R (bt N (j : Int))) M) = false := by rw [hR2, cmpI_lt hlt]; rfl
        have HR2 := Lib.hid hR2
        clear hR2 hge
        go_wp2_with fail
        refine (double_any kq3 s1 false s4).mono ?_
        rintro e w5 ⟨B5, m5, p5, rfl, k5, b5⟩
        have b5' := b3'.trans (b5.mono b3'.size)
        have k3' := k3.below b5
        have hfin : dbl Q false * M + R2 = N / 2 ^ j := by
          rw [← HMAIN.out]; unfold dbl; simp
        have HFIN := Lib.hid hfin
        clear hfin kq3 k3 b5 b3' t1
        go_wp2
        go_roundw
        case rel => exact ⟨j, _, _, _, _, _, _, _, _, _, rfl, rfl, by omega, rfl, rfl, k5, k3', hlt, HFIN.out, b5'⟩
        case measure => simp [intOf]
end Go.Proofs.YtbgnjbalojcgkaaDoor
