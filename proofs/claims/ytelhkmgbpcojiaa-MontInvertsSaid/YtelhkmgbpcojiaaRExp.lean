/-
  The document's own rest, power and greatest common divisor; a number of theirs as digits of 64 bits.
-/
import Derived.Test.YtelhkmgbpcojiaaRDiv
import Derived.Test.YtelhkmgbpcojiaaInv
namespace Go.Proofs.Ytelhkmgbpcojiaa
open Go.RowKit
set_option linter.unusedVariables false
def AnsCn (N : Int) (w : World) (e : Ending) (w' : World) : Prop := ∃ B m cap, e = .returned (.slice B m cap) ∧ Cn w' B m cap N ∧ Below w.heap.size w w'
theorem dl_dr {N : Int} (h : 0 ≤ N) : dl N ≤ dr N := by
  refine dl_le h ?_
  have h1 := dg_lt_pow D_two h (Nat.le_refl (dr N))
  rw [W_D]
  exact Int.lt_of_lt_of_le h1 (pow_mono (by decide) (by omega))
theorem to_cn {A : Option Addr} {n c : Nat} {N : Int} {w : World} (h : Rn w A n c N) (hn : n ≤ 100000) :
    Calls Try.prog 30 #[.slice A n c] w (AnsCn N w) :=
  (to_any2 h hn).mono fun e w' ⟨B, m, cap, he, hr, hc, hb⟩ => ⟨B, m, cap, he, ⟨hr, hc, by have h1 := hr.len; have h2 := dl_dr h.pos; have h3 := h.len_; have h4 : (dg W N).length = dl N := rfl; omega, h.pos⟩, hb⟩
theorem below_one_ (w : World) (o : Obj) : Below w.heap.size w (w.alloc o) := (Below.refl _ _).alloc (Nat.le_refl _) _
theorem rrest_any {A A' : Option Addr} {n c n' c' : Nat} {N M : Int} {w : World} (h : Rn w A n c N) (h' : Rn w A' n' c' M) (hn : n ≤ 1000) (hn' : n' ≤ 1000) (hM : 0 < M) :
    Calls Try.prog 21 #[.slice A n c, .slice A' n' c'] w (AnsN (N % M) w) := by
  go_enter Try.func21, Try.ntmps21
  go_wp2_with fail
  refine (rdiv_any h h' hn hn' hM).mono ?_
  rintro e w1 ⟨B, m, cap, B', m', cap', rfl, -, k2, b1⟩
  go_wp2
  go_ret
  exact ⟨_, _, _, rfl, k2, b1⟩
theorem dr_rest {N M : Int} (hM : 0 < M) : dr (N % M) ≤ dr M := dr_mono (Int.emod_nonneg _ (by omega)) (Int.le_of_lt (Int.emod_lt_of_pos _ hM))
theorem dr_mul {N M : Int} (h0 : 0 ≤ N) (h1 : 0 ≤ M) : dr (N * M) ≤ dr N + dr M := by
  refine dg_len_le D_two (Int.mul_nonneg h0 h1) ?_
  have a := dg_lt_pow D_two h0 (Nat.le_refl (dr N))
  have b := dg_lt_pow D_two h1 (Nat.le_refl (dr M))
  rw [Int.pow_add]
  have hp := pow_pos' D_two (dr N)
  have hq := pow_pos' D_two (dr M)
  have c1 := Int.mul_le_mul_of_nonneg_left (show M ≤ D ^ dr M by omega) h0
  have c2 := Int.mul_lt_mul_of_pos_right a hq
  omega
/-! ### Gcd -/
def GcR (g : Int) (lim : Nat) (w : World) (a b : Value) (wr : World) : Prop :=
  ∃ N M A n c A' n' c', a = .slice A n c ∧ b = .slice A' n' c' ∧ Rn wr A n c N ∧ Rn wr A' n' c' M ∧ n ≤ lim ∧ n' ≤ lim ∧ (Int.gcd N M : Int) = g ∧ Below w.heap.size w wr
theorem readN_rn {w : World} {A : Option Addr} {n c : Nat} {N : Int} (h : Rn w A n c N) : readN D w (.slice A n c) = N := by
  rw [readN_rd h.rd, val_dg D_two h.pos]
set_option maxHeartbeats 1000000 in
theorem rgcd_any {A A' : Option Addr} {n c n' c' : Nat} {N M : Int} {w : World} (h : Rn w A n c N) (h' : Rn w A' n' c' M) (hn : n ≤ 1000) (hn' : n' ≤ 1000) :
    Calls Try.prog 28 #[.slice A n c, .slice A' n' c'] w (AnsN (Int.gcd N M : Nat) w) := by
  go_enter Try.func28, Try.ntmps28
  go_wp2_with fail
  go_loopw [0, 1] (fun a b wr => GcR (Int.gcd N M : Nat) (max n n') w a b wr) (fun _ b wr => (readN D wr b).toNat)
  case atStart => exact ⟨N, M, _, _, _, _, _, _, rfl, rfl, h, h', by omega, by omega, rfl, Below.refl _ _⟩
  case round =>
    obtain ⟨N1, M1, A1, n1, c1, A2, n2, c2, rfl, rfl, k1, k2, l1, l2, hg, hb⟩ := hrel
    have HG := Lib.hid hg
    clear hg
    have e2 := k2.len_
    rcases Nat.eq_zero_or_pos n2 with g | g
    · subst g
      have hM1 : M1 = 0 := (dg_nil_iff D_two k2.pos).1 e2.symm
      have HM1 := Lib.hid hM1
      clear hM1 e2
      go_wp2
      go_ret
      have := HG.out
      rw [HM1.out, Int.gcd_zero_right] at this
      refine ⟨_, _, _, rfl, ?_, hb⟩
      rw [← this]
      have hp := k1.pos
      rw [Int.natAbs_of_nonneg hp]
      exact k1
    · have hM1 : 0 < M1 := by
        rcases Int.lt_or_eq_of_le k2.pos with h1 | h1
        · exact h1
        · have := (dg_nil_iff D_two k2.pos).2 h1.symm
          have h2 : (dg D M1).length = dr M1 := rfl
          omega
      have HR2 := Lib.hid (readN_rn k2)
      have hd := dr_rest (N := N1) hM1
      have hN1 := k1.pos
      have E2 := Lib.hid e2
      clear e2
      go_wp2_with fail
      refine (rrest_any k1 k2 (by omega) (by omega) hM1).mono ?_
      rintro e w1 ⟨B3, n3, c3, rfl, k3, b3⟩
      have k2' := k2.below b3
      have hb3 := hb.trans (b3.mono hb.size)
      have HR3 := Lib.hid (readN_rn k3)
      have hn3 : n3 ≤ max n n' := by have := k3.len_; have := E2.out; omega
      clear b3
      go_wp2
      go_roundw
      case rel =>
        refine ⟨M1, N1 % M1, _, _, _, _, _, _, rfl, rfl, k2', k3, l2, hn3, ?_, hb3⟩
        rw [gcd_step hN1 k2.pos]
        exact HG.out
      case measure =>
        rw [HR2.out, HR3.out]
        have := Int.emod_lt_of_pos N1 hM1
        have := Int.emod_nonneg N1 (show M1 ≠ 0 by omega)
        omega
/-! ### Exp -/
def RxR (A E M : Int) (w : World) (o i : Value) (wr : World) : Prop :=
  ∃ (k : Nat) (v : Int) (B : Option Addr) (n c : Nat), i = .int .i64 v ∧ v = (k : Int) - 1 ∧ k ≤ nb E ∧ o = .slice B n c ∧ Rn wr B n c (A ^ (E / 2 ^ k).toNat % M) ∧ Below w.heap.size w wr
theorem rx_next {A E M : Int} {j : Nat} (h : 0 ≤ E) : A ^ (E / 2 ^ j).toNat % M = (if bt E j = true then (A ^ (E / 2 ^ (j + 1)).toNat % M * (A ^ (E / 2 ^ (j + 1)).toNat % M) % M * (A % M)) % M else A ^ (E / 2 ^ (j + 1)).toNat % M * (A ^ (E / 2 ^ (j + 1)).toNat % M) % M) := by
  have hs := half_step (N := E) (j := j)
  have hv := bt_val (N := E) (j := j)
  have q0 : 0 ≤ E / 2 ^ (j + 1) := Int.ediv_nonneg h (Int.le_of_lt (Int.pow_pos (by decide)))
  generalize E / 2 ^ j = q at *
  generalize E / 2 ^ (j + 1) = t at *
  by_cases g : bt E j = true
  · rw [if_pos g] at hv ⊢
    have e : q.toNat = t.toNat + t.toNat + 1 := by omega
    rw [e, Int.pow_succ, Int.pow_add]
    rw [← Eqm.iff]
    refine Eqm.trans ?_ ((((Eqm.mod M _).symm.mul (Eqm.mod M _).symm).trans (Eqm.mod M _).symm).mul (Eqm.mod M A).symm)
    exact Eqm.refl _ _
  · rw [if_neg g] at hv ⊢
    have e : q.toNat = t.toNat + t.toNat := by omega
    rw [e, Int.pow_add]
    exact Int.mul_emod _ _ _
theorem nb_dr {E : Int} (h : 0 ≤ E) {k : Nat} (hk : dr E ≤ k) : nb E ≤ 16 * k := by
  refine dg_len_le (by decide) h ?_
  have := dg_lt_pow D_two h hk
  rw [D_pow] at this
  exact this
set_option maxHeartbeats 400000 in
theorem rexp_any {A1 A2 A3 : Option Addr} {n1 c1 n2 c2 n3 c3 : Nat} {A E M : Int} {w : World} (ha : Rn w A1 n1 c1 A) (he : Rn w A2 n2 c2 E) (hm : Rn w A3 n3 c3 M) (l1 : n1 ≤ 300) (l2 : n2 ≤ 300) (l3 : n3 ≤ 300) (hM : 0 < M) :
    Calls Try.prog 26 #[.slice A1 n1 c1, .slice A2 n2 c2, .slice A3 n3 c3] w (AnsN (A ^ E.toNat % M) w) := by
  have D3 := Lib.hid hm.len_
  have E0 := he.pos
  have L1 := Lib.hid (rlit w (x := 1) (by decide) (by decide))
  have hnb := nb_dr E0 (show dr E ≤ 300 by have := he.len_; omega)
  go_enter Try.func26, Try.ntmps26
  go_wp2_with fail
  refine (rrest_any L1.out (hm.below (below_one_ _ _)) (by omega) (by omega) hM).mono ?_
  rintro e w1 ⟨B1, m1, p1, rfl, k1, b1⟩
  have b1 := below_one b1
  clear L1
  go_wp2_with fail
  refine (rrest_any (ha.below b1) (hm.below b1) (by omega) (by omega) hM).mono ?_
  rintro e w2 ⟨B2, m2, p2, rfl, k2, b2⟩
  have k1 := k1.below b2
  have b2' := b1.trans (b2.mono b1.size)
  clear b1 b2
  go_wp2_with fail
  refine (rbits_any (he.below b2') (by omega)).mono ?_
  rintro e w2' ⟨rfl, rfl⟩
  have d2 := dr_rest (N := A) hM
  have d3 := D3.out
  have hm2 : m2 ≤ 300 := by have := k2.len_; omega
  have hm1 : m1 ≤ 300 := by have := k1.len_; have := dr_rest (N := 1) hM; omega
  clear d3
  go_wp2_with fail
  go_loopw [7, 9] (fun o i wr => RxR A E M w2 o i wr) (fun _ i _ => (intOf i + 1).toNat)
  case atStart =>
    refine ⟨nb E, _, _, _, _, rfl, by omega, Nat.le_refl _, rfl, ?_, Below.refl _ _⟩
    have e : (E / 2 ^ nb E).toNat = 0 := by rw [Int.ediv_eq_zero_of_lt E0 (nb_lt E0)]; rfl
    rw [e, Int.pow_zero]
    exact k1
  case round =>
    obtain ⟨k, v, B, n, c, rfl, hv, hk, rfl, kO, hb⟩ := hrel
    have b3 := b2'.trans (hb.mono b2'.size)
    rcases Nat.eq_zero_or_pos k with g | g
    · subst g
      obtain rfl : v = -1 := by omega
      clear hv
      go_wp2
      go_ret
      rw [Int.pow_zero, Int.ediv_one] at kO
      exact ⟨_, _, _, rfl, kO, b3⟩
    · obtain ⟨j, rfl⟩ : ∃ j, k = j + 1 := ⟨k - 1, by omega⟩
      obtain rfl : v = j := by omega
      clear hv
      have HN := Lib.hid (rx_next (A := A) (M := M) (j := j) E0)
      have r0 := Int.emod_nonneg (A ^ (E / 2 ^ (j + 1)).toNat) (show M ≠ 0 by omega)
      have dO := dr_rest (N := A ^ (E / 2 ^ (j + 1)).toNat) hM
      have dM : dr M ≤ 300 := by have := D3.out; omega
      generalize A ^ (E / 2 ^ (j + 1)).toNat % M = t at *
      have dtt := dr_mul r0 r0
      have ln := Lib.hid kO.len_
      have hm3 := hm.below b3
      go_wp2_with fail
      refine (rmul_any kO kO (by have := ln.out; omega) (by have := ln.out; omega)).mono ?_
      rintro e w4 ⟨B4, n4, c4, rfl, k4, b4⟩
      have b4' := b3.trans (b4.mono b3.size)
      have hb4 := hb.trans (b4.mono hb.size)
      have hm4 := hm3.below b4
      clear b4 b3 hm3 kO hb
      go_wp2_with fail
      refine (rrest_any k4 hm4 (by have := k4.len_; omega) (by omega) hM).mono ?_
      rintro e w5 ⟨B5, n5, c5, rfl, k5, b5⟩
      have b5' := b4'.trans (b5.mono b4'.size)
      have hb5 := hb4.trans (b5.mono hb4.size)
      have hm5 := hm4.below b5
      have he5 := he.below b5'
      have k25 := k2.below hb5
      clear b5 b4' hm4 k4 hb4
      have d5 := dr_rest (N := t * t) hM
      have t0 := Int.emod_nonneg (t * t) (show M ≠ 0 by omega)
      go_wp2_with fail
      refine (rbit_any he5 (by omega) j (by omega)).mono ?_
      rintro e w5' ⟨rfl, rfl⟩
      by_cases hbt : bt E j = true
      · have hn := HN.out
        rw [if_pos hbt] at hn
        have HN2 := Lib.hid hn
        clear hn HN
        have d6 := dr_mul t0 (Int.emod_nonneg A (show M ≠ 0 by omega))
        have dA := dr_rest (N := A) hM
        go_wp2_with fail
        refine (rmul_any k5 k25 (by have := k5.len_; omega) (by omega)).mono ?_
        rintro e w6 ⟨B6, n6, c6, rfl, k6, b6⟩
        have b6' := b5'.trans (b6.mono b5'.size)
        have hb6 := hb5.trans (b6.mono hb5.size)
        have hm6 := hm5.below b6
        clear b6 b5' hm5 k5 hb5 he5 k25
        go_wp2_with fail
        refine (rrest_any k6 hm6 (by have := k6.len_; omega) (by omega) hM).mono ?_
        rintro e w7 ⟨B7, n7, c7, rfl, k7, b7⟩
        have hb7 := hb6.trans (b7.mono hb6.size)
        go_wp2
        go_roundw
        case rel => exact ⟨j, _, _, _, _, rfl, by omega, by omega, rfl, by rw [HN2.out]; exact k7, hb7⟩
        case measure => simp [intOf]
      · have hbf : bt E j = false := by simpa using hbt
        have hn := HN.out
        rw [if_neg hbt] at hn
        have HN2 := Lib.hid hn
        clear hn HN hbt
        go_wp2
        go_roundw
        case rel => exact ⟨j, _, _, _, _, rfl, by omega, by omega, rfl, by rw [HN2.out]; exact k5, hb5⟩
        case measure => simp [intOf]
end Go.Proofs.Ytelhkmgbpcojiaa
