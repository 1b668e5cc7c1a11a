/-
  Several texts in one: Up3, RStep, RChk, Light, WPrimeChecks.
-/
import Derived.Test.YtbgnjbalojcgkaaGreatDoorPri
import Derived.Test.YtbgnjbalojcgkaaGreatDoorRpk
import Derived.Test.YtbgnjbalojcgkaaGreatDoorKit
import Derived.Test.YtbgnjbalojcgkaaGreatDoorCodeE
/-
  The document's examples of layer 3 hold: up.
-/
namespace Go.Proofs.YtbgnjbalojcgkaaGreatDoor
open Go.RowKit
set_option linter.unusedVariables false
/-- A chain of one step, just laid. -/
def one3 (A1 A2 A3 : Option Addr) (P Q A : Int) : Nat → Stp := fun _ => ⟨A1, 1, 1, A2, 1, 1, A3, 1, 1, P, Q, A⟩
theorem bds_one {P Q A : Int} {A1 A2 A3 : Option Addr} {c : Int} (h : bd (fun _ => P) (fun _ => Q) (fun _ => A) 1 0 = c) : bdS (one3 A1 A2 A3 P Q A) 1 0 = c := h
theorem sm_dec {n : Int} (h2 : 2 ≤ n) (h3 : n < 65536) (k : Nat) (hk : n < ((k : Int) + 2) * ((k : Int) + 2)) (h : ((List.range k).all fun d => n % ((d : Int) + 2) != 0) = true) : Sm n := by
  refine ⟨h3, pr_of_root h2 fun d d2 dd hz => ?_⟩
  have hdk : d < (k : Int) + 2 := by
    rcases Int.lt_or_le d ((k : Int) + 2) with g | g
    · exact g
    · have a := Int.mul_le_mul_of_nonneg_right g (show 0 ≤ (k : Int) + 2 by omega)
      have b := Int.mul_le_mul_of_nonneg_left g (show 0 ≤ d by omega)
      omega
  have := List.all_eq_true.1 h (d - 2).toNat (List.mem_range.2 (by omega))
  rw [show (((d - 2).toNat : Int) + 2) = d by omega, hz] at this
  simp at this
theorem sm_2 : Sm 2 := sm_dec (by decide) (by decide) 0 (by decide) (by decide)
theorem sm_65521 : Sm 65521 := sm_dec (by decide) (by decide) 254 (by decide) (by decide +kernel)
theorem sm_50273 : Sm 50273 := sm_dec (by decide) (by decide) 223 (by decide) (by decide +kernel)
theorem not_sm_65537 : ¬ Sm 65537 := fun h => by have := h.1; omega
theorem not_sm_1 : ¬ Sm 1 := fun h => by have := h.2.1; omega
/-- Powers by squares, for the two powers of the example. -/
def pw3 (P A : Int) : Nat → Nat → Int
  | 0, _ => 1 % P
  | f + 1, e => let h := pw3 P A f (e / 2); let s := h * h % P; if e % 2 = 1 then s * A % P else s
theorem pw3_eq {P A : Int} : ∀ (f e : Nat), e < 2 ^ f → pw3 P A f e = A ^ e % P := by
  intro f
  induction f with
  | zero => intro e h; obtain rfl : e = 0 := by simpa using h
            show 1 % P = A ^ 0 % P
            rw [Int.pow_zero]
  | succ f ih =>
    intro e h
    have hh := ih (e / 2) (by rw [Nat.pow_succ] at h; omega)
    have hs : (A ^ (e / 2) % P) * (A ^ (e / 2) % P) % P = A ^ (e / 2 + e / 2) % P := by
      rw [Int.pow_add]; exact Eqm.iff.1 ((Eqm.mod P _).mul (Eqm.mod P _))
    show (let h := pw3 P A f (e / 2); let s := h * h % P; if e % 2 = 1 then s * A % P else s) = _
    simp only [hh, hs]
    by_cases ho : e % 2 = 1
    · rw [if_pos ho]
      have e1 : A ^ e = A ^ (e / 2 + e / 2) * A := by rw [← Int.pow_succ]; congr 1; omega
      rw [e1]
      exact Eqm.iff.1 ((Eqm.mod P _).mul (Eqm.refl P A))
    · rw [if_neg ho]
      congr 2; omega
theorem dl_one {x : Int} (h0 : 0 ≤ x) (h1 : x < W) : dl x ≤ 1 := dl_le h0 (by simpa [Int.pow_succ] using h1)
theorem not_lg {P Q A : Int} (p0 : 0 ≤ P) (p1 : P < W) (q0 : 0 ≤ Q) (q1 : Q < W) (a0 : 0 ≤ A) (a1 : A < W) : ¬ Lg P Q A := by
  have := dl_one p0 p1; have := dl_one q0 q1; have := dl_one a0 a1
  rintro (h | h | h) <;> omega
theorem sc_ex1 : sc 100547 50273 2 = 0 := by
  refine sc_good (not_lg (by decide) (by decide) (by decide) (by decide) (by decide) (by decide)) (by unfold Ev; omega) ?_
  have e1 : (2 : Int) ^ (100547 - 1 : Int).toNat % 100547 = 1 := by
    rw [show (100547 - 1 : Int).toNat = 100546 by decide, ← pw3_eq 17 100546 (by decide)]; decide +kernel
  have e2 : ((100547 - 1) / 50273 : Int).toNat = 2 := by decide
  refine ⟨by decide, by decide, by decide, by decide, by decide, e1, ?_⟩
  rw [e2]
  decide +kernel
theorem bd_ex1 : bd (fun _ => 100547) (fun _ => 50273) (fun _ => 2) 1 0 = 0 := bd_last sc_ex1 (by decide) sm_50273
theorem sc_ex2 : sc 100549 50273 2 = 7 := by
  refine sc_bad (not_lg (by decide) (by decide) (by decide) (by decide) (by decide) (by decide)) (by unfold Ev; omega) fun h => ?_
  have := h.2.2.1
  revert this
  decide
theorem bd_ex2 : bd (fun _ => 100549) (fun _ => 50273) (fun _ => 2) 1 0 = 7 := (bd_own (by show sc 100549 50273 2 ≠ 0; rw [sc_ex2]; decide)).trans sc_ex2
/-- The chain that a literal of one step lays. -/
theorem lit_chain (w : World) (P Q A : Int) (p0 : 0 ≤ P) (p1 : P < W) (q0 : 0 ≤ Q) (q1 : Q < W) (a0 : 0 ≤ A) (a1 : A < W) :
    Ch ((((w.alloc (.cells #[.int .u64 P] 35)).alloc (.cells #[.int .u64 Q] 35)).alloc (.cells #[.int .u64 A] 35)).alloc (.cells #[.slice (some ⟨w.heap.size, 0, none⟩) 1 1, .slice (some ⟨w.heap.size + 1, 0, none⟩) 1 1, .slice (some ⟨w.heap.size + 1 + 1, 0, none⟩) 1 1] 39))
      (some ⟨w.heap.size + 1 + 1 + 1, 0, none⟩) 1 1 (one3 (some ⟨w.heap.size, 0, none⟩) (some ⟨w.heap.size + 1, 0, none⟩) (some ⟨w.heap.size + 1 + 1, 0, none⟩) P Q A) := by
  have sz : ∀ (v : World) o, (v.alloc o).heap.size = v.heap.size + 1 := fun v o => by simp
  refine ⟨Nat.le_refl _, by omega, fun _ => ⟨_, _, rfl, by simp [sz], fun i hi => ?_⟩, fun i hi => ?_⟩
  · obtain rfl : i = 0 := by omega
    exact ⟨by simp [World.cell?_alloc_at, one3], by simp [World.cell?_alloc_at, one3], by simp [World.cell?_alloc_at, one3]⟩
  · obtain rfl : i = 0 := by omega
    have l1 := lit_one w P p0 p1
    have l2 := lit_one (w.alloc (.cells #[.int .u64 P] 35)) Q q0 q1
    have l3 := lit_one ((w.alloc (.cells #[.int .u64 P] 35)).alloc (.cells #[.int .u64 Q] 35)) A a0 a1
    rw [sz] at l2
    rw [sz, sz] at l3
    exact ⟨((l1.alloc _).alloc _).alloc _, (l2.alloc _).alloc _, l3.alloc _⟩
theorem below_four {w w' : World} {o1 o2 o3 o4 : Obj} (h : Below ((((w.alloc o1).alloc o2).alloc o3).alloc o4).heap.size ((((w.alloc o1).alloc o2).alloc o3).alloc o4) w') : Below w.heap.size w w' := below_two (below_two h)
/-- The first example. -/
theorem chk_ex1 (w : World) : Calls Tryz.prog 6 #[.slice (some ⟨w.heap.size + 1 + 1 + 1, 0, none⟩) 1 1] ((((w.alloc (.cells #[.int .u64 100547] 35)).alloc (.cells #[.int .u64 50273] 35)).alloc (.cells #[.int .u64 2] 35)).alloc (.cells #[.slice (some ⟨w.heap.size, 0, none⟩) 1 1, .slice (some ⟨w.heap.size + 1, 0, none⟩) 1 1, .slice (some ⟨w.heap.size + 1 + 1, 0, none⟩) 1 1] 39))
    fun e w' => ∃ B m cap, e = .returned (.tuple #[.slice B m cap, .nilIface]) ∧ Cn w' B m cap 100547 ∧ Below w.heap.size w w' := by
  refine (chk_any (lit_chain w 100547 50273 2 (by decide) (by decide) (by decide) (by decide) (by decide) (by decide)) (by omega) (by omega)).mono fun e w' h => ?_
  rcases h with ⟨-, B, m, cap, he, hc, hb, -⟩ | ⟨k, c, hk, -, hbd, hc, -⟩
  · exact ⟨B, m, cap, he, hc, below_four hb⟩
  · obtain rfl : k = 0 := by omega
    rw [bds_one bd_ex1] at hbd
    exact absurd hbd.symm hc
/-- The second example. -/
theorem chk_ex2 (w : World) : Calls Tryz.prog 6 #[.slice (some ⟨w.heap.size + 1 + 1 + 1, 0, none⟩) 1 1] ((((w.alloc (.cells #[.int .u64 100549] 35)).alloc (.cells #[.int .u64 50273] 35)).alloc (.cells #[.int .u64 2] 35)).alloc (.cells #[.slice (some ⟨w.heap.size, 0, none⟩) 1 1, .slice (some ⟨w.heap.size + 1, 0, none⟩) 1 1, .slice (some ⟨w.heap.size + 1 + 1, 0, none⟩) 1 1] 39))
    fun e w' => ∃ b, e = .returned (.tuple #[.slice none 0 0, .iface 44 (.pointer (some ⟨b, 0, none⟩))]) ∧ Sp w' b 0 7 ∧ Below w.heap.size w w' := by
  refine (chk_any (lit_chain w 100549 50273 2 (by decide) (by decide) (by decide) (by decide) (by decide) (by decide)) (by omega) (by omega)).mono fun e w' h => ?_
  rcases h with ⟨h, -⟩ | ⟨k, c, hk, -, hbd, hc, b, he, hs, hb⟩
  · have := h 0 (by omega)
    rw [bds_one bd_ex2] at this
    cases this
  · obtain rfl : k = 0 := by omega
    rw [bds_one bd_ex2] at hbd
    subst hbd
    exact ⟨b, he, hs, below_four hb⟩
theorem small_yes (n : Int) (w : World) (h0 : 0 ≤ n) (h1 : n < 18446744073709551616) (h : Sm n) : Calls Tryz.prog 11 #[.int .u64 n] w fun e w' => e = .returned (.bool true) ∧ w = w' := by
  have := small_any n w h0 h1
  rwa [sm_yes h] at this
theorem small_no (n : Int) (w : World) (h0 : 0 ≤ n) (h1 : n < 18446744073709551616) (h : ¬ Sm n) : Calls Tryz.prog 11 #[.int .u64 n] w fun e w' => e = .returned (.bool false) ∧ w = w' := by
  have := small_any n w h0 h1
  rwa [sm_no h] at this
set_option maxHeartbeats 4000000 in
set_option maxRecDepth 100000 in
theorem up_any (w : World) (hg : Et w) : Calls Tryz.prog 4 #[] w (AnsV (.bool true) w) := by
  go_enter Tryz.func4, Tryz.ntmps4
  go_wp2_with fail
  refine (chk_ex1 w).mono ?_
  rintro e w1 ⟨B1, m1, d1, rfl, k1, b1⟩
  have hg1 := hg.below b1
  go_wp2_with fail
  refine (chk_ex2 w1).mono ?_
  rintro e w2 ⟨b, rfl, sp, b2⟩
  have b12 := b1.trans (b2.mono b1.size)
  have hg2 := hg1.below b2
  have k2 := k1.below b2
  clear b1 b2 hg1 k1
  go_wp2_with fail
  refine (isAt sp hg2).mono ?_
  rintro e w3 ⟨rfl, b3⟩
  have b13 := b12.trans (b3.mono b12.size)
  have k3 := k2.below b3
  have B13 := Lib.hid b13
  obtain ⟨rfl, bb, oo, rfl, hb, hc⟩ := cn_one k3 (by decide) (by decide)
  clear b12 b3 hg2 k2 k3 sp b13
  go_wp2_with fail
  refine (small_yes 2 _ (by decide) (by decide) sm_2).mono ?_
  rintro e w4 ⟨rfl, rfl⟩
  go_wp2_with fail
  refine (small_yes 65521 _ (by decide) (by decide) sm_65521).mono ?_
  rintro e w4 ⟨rfl, rfl⟩
  go_wp2_with fail
  refine (small_no 65537 _ (by decide) (by decide) not_sm_65537).mono ?_
  rintro e w4 ⟨rfl, rfl⟩
  go_wp2_with fail
  refine (small_no 1 _ (by decide) (by decide) not_sm_1).mono ?_
  rintro e w4 ⟨rfl, rfl⟩
  go_wp2
  go_ret
  exact ⟨rfl, B13.out⟩
end Go.Proofs.YtbgnjbalojcgkaaGreatDoor
/-
  What the document's own step answers: what is amiss with a step on its own, or nothing.
-/
namespace Go.Proofs.YtbgnjbalojcgkaaGreatDoor
open Go.RowKit
set_option linter.unusedVariables false
theorem of_nm {A : Option Addr} {n c : Nat} {N : Int} {w : World} (h : Nm w A n c N) (hn : n ≤ 1000) : Calls Tryz.prog 17 #[.slice A n c] w (AnsN N w) := by
  obtain ⟨⟨xs, h1, h2, h3⟩, -, -, -⟩ := h
  have := of_any A n c xs w h1 h2 hn
  rwa [h3] at this
section
variable {w : World} {s : Stp}
set_option maxHeartbeats 1000000 in
theorem rstep_long (h : s.At w) (hl : Lg s.P s.Q s.A) :
    Calls Tryz.prog 16 #[.agg #[.slice s.A1 s.n1 s.c1, .slice s.A2 s.n2 s.c2, .slice s.A3 s.n3 s.c3]] w (AnsV (.int .i64 2) w) := by
  have ba := below_al w (.cells #[.slice s.A1 s.n1 s.c1, .slice s.A2 s.n2 s.c2, .slice s.A3 s.n3 s.c3] 39)
  have k := h.below ba
  have BA := Lib.hid ba
  clear ba
  rcases Nat.lt_or_ge 32 (dl s.P) with g1 | g1
  · have t1 : decide ((32 : Int) < (dl s.P : Int)) = true := by simp; omega
    go_enter Tryz.func16, Tryz.ntmps16
    go_wp2_with fail
    refine (Limbs_nm k.p).mono ?_
    rintro e w1 ⟨rfl, rfl⟩
    go_wp2
    go_ret
    exact ⟨rfl, BA.out⟩
  · have t1 : decide ((32 : Int) < (dl s.P : Int)) = false := by simp; omega
    rcases Nat.lt_or_ge 64 (dl s.Q) with g2 | g2
    · have t2 : decide ((64 : Int) < (dl s.Q : Int)) = true := by simp; omega
      go_enter Tryz.func16, Tryz.ntmps16
      go_wp2_with fail
      refine (Limbs_nm k.p).mono ?_
      rintro e w1 ⟨rfl, rfl⟩
      go_wp2_with fail
      refine (Limbs_nm k.q).mono ?_
      rintro e w1 ⟨rfl, rfl⟩
      go_wp2
      go_ret
      exact ⟨rfl, BA.out⟩
    · have t2 : decide ((64 : Int) < (dl s.Q : Int)) = false := by simp; omega
      have g3 : 64 < dl s.A := by rcases hl with g | g | g <;> omega
      have t3 : decide ((64 : Int) < (dl s.A : Int)) = true := by simp; omega
      go_enter Tryz.func16, Tryz.ntmps16
      go_wp2_with fail
      refine (Limbs_nm k.p).mono ?_
      rintro e w1 ⟨rfl, rfl⟩
      go_wp2_with fail
      refine (Limbs_nm k.q).mono ?_
      rintro e w1 ⟨rfl, rfl⟩
      go_wp2_with fail
      refine (Limbs_nm k.a).mono ?_
      rintro e w1 ⟨rfl, rfl⟩
      go_wp2
      go_ret
      exact ⟨rfl, BA.out⟩
end
theorem head16 {N : Int} (h : 0 < N) : dig (dg D N) 0 = N % 65536 ∧ 0 < dr N := by
  unfold dr
  rw [dg_pos D_two h]
  exact ⟨rfl, by simp⟩
theorem cmp_le {a b : Int} (h : a ≤ b) : decide (cmpI a b ≤ 0) = true := by
  simp
  rcases Int.lt_or_eq_of_le h with g | g
  · rw [cmpI_lt g]; decide
  · rw [g, cmpI_eq]; decide
theorem cmp_nle {a b : Int} (h : b < a) : decide (cmpI a b ≤ 0) = false := by simp; rw [cmpI_gt h]; decide
theorem cmp_ne {a b : Int} (h : a ≠ b) : ((cmpI a b : Int) != 0) = true := by
  simp
  rcases Int.lt_or_gt_of_ne h with g | g
  · rw [cmpI_lt g]; decide
  · rw [cmpI_gt g]; decide
theorem cmp_same {a b : Int} (h : a = b) : ((cmpI a b : Int) != 0) = false := by rw [h, cmpI_eq]; rfl
theorem below_i (w : World) (x : Int) : Below w.heap.size w (w.alloc (.cells #[.int .i64 x] 3)) := below_al _ _
section
variable {w : World} {s : Stp}
set_option maxHeartbeats 4000000 in
set_option maxRecDepth 100000 in
theorem rstep_rest (h : s.At w) (hl : ¬ Lg s.P s.Q s.A) (l1 : s.n1 ≤ 1000) (l2 : s.n2 ≤ 1000) (l3 : s.n3 ≤ 1000) :
    Calls Tryz.prog 16 #[.agg #[.slice s.A1 s.n1 s.c1, .slice s.A2 s.n2 s.c2, .slice s.A3 s.n3 s.c3]] w (AnsV (.int .i64 (sc s.P s.Q s.A)) w) := by
  have ba := below_al w (.cells #[.slice s.A1 s.n1 s.c1, .slice s.A2 s.n2 s.c2, .slice s.A3 s.n3 s.c3] 39)
  have st := St3.new w s.A1 s.n1 s.c1 s.A2 s.n2 s.c2 s.A3 s.n3 s.c3
  have k := h.below ba
  have g1 : dl s.P ≤ 32 := Nat.not_lt.1 fun g => hl (.inl g)
  have g2 : dl s.Q ≤ 64 := Nat.not_lt.1 fun g => hl (.inr (.inl g))
  have g3 : dl s.A ≤ 64 := Nat.not_lt.1 fun g => hl (.inr (.inr g))
  have P0 := h.p.pos
  have Q0 := h.q.pos
  have A0 := h.a.pos
  have rp := dr_le P0 g1
  have rq := dr_le Q0 g2
  have ra := dr_le A0 g3
  have HL := Lib.hid hl
  obtain ⟨P, hP⟩ : ∃ P, P = s.P := ⟨_, rfl⟩
  obtain ⟨Q, hQ⟩ : ∃ Q, Q = s.Q := ⟨_, rfl⟩
  obtain ⟨A, hA⟩ : ∃ A, A = s.A := ⟨_, rfl⟩
  have kp := k.p
  have kq := k.q
  have ka := k.a
  rw [← hP] at kp P0 rp g1 HL ⊢
  rw [← hQ] at kq Q0 rq g2 HL ⊢
  rw [← hA] at ka A0 ra g3 HL ⊢
  have t1 : decide ((32 : Int) < (dl P : Int)) = false := by simp; omega
  have t2 : decide ((64 : Int) < (dl Q : Int)) = false := by simp; omega
  have t3 : decide ((64 : Int) < (dl A : Int)) = false := by simp; omega
  have BA := Lib.hid ba
  clear ba hl h k hP hQ hA
  go_enter Tryz.func16, Tryz.ntmps16
  go_wp2_with fail
  refine (Limbs_nm kp).mono ?_
  rintro e w1 ⟨rfl, rfl⟩
  go_wp2_with fail
  refine (Limbs_nm kq).mono ?_
  rintro e w1 ⟨rfl, rfl⟩
  go_wp2_with fail
  refine (Limbs_nm ka).mono ?_
  rintro e w1 ⟨rfl, rfl⟩
  go_wp2_with fail
  refine (of_nm kp l1).mono ?_
  rintro e w1 ⟨Bp, np, dp, rfl, np_, b1⟩
  have b01 := BA.out.trans (b1.mono BA.out.size)
  have st1 := st.below b1
  have kq1 := kq.below b1
  have ka1 := ka.below b1
  have q1 := st1.c1_
  clear b1 st kp kq ka BA t1 t2 t3
  go_wp2_with fail
  refine (of_nm kq1 l2).mono ?_
  rintro e w2 ⟨Bq, nq, dq, rfl, nq_, b2⟩
  have b02 := b01.trans (b2.mono b01.size)
  have st2 := st1.below b2
  have ka2 := ka1.below b2
  have np2 := np_.below b2
  have q2 := st2.c2_
  clear b2 st1 kq1 ka1 b01 q1 np_
  go_wp2_with fail
  refine (of_nm ka2 l3).mono ?_
  rintro e w3 ⟨Ba, na, da, rfl, na_, b3⟩
  have b03 := b02.trans (b3.mono b02.size)
  have np3 := np2.below b3
  have nq3 := nq_.below b3
  clear b3 st2 ka2 b02 q2 np2 nq_
  have bo := below_i w3 1
  have lo := rlit w3 (x := 1) (by decide) (by decide)
  have b04 := b03.trans (bo.mono b03.size)
  have np4 := np3.below bo
  have nq4 := nq3.below bo
  have na4 := na_.below bo
  have lp : np ≤ 128 := by rw [np4.len_]; omega
  have lq : nq ≤ 256 := by rw [nq4.len_]; omega
  have la : na ≤ 256 := by rw [na4.len_]; omega
  clear b03 np3 nq3 na_ bo
  -- P is 0, even, 1
  rcases Int.lt_or_eq_of_le P0 with hp0 | hp0
  · obtain ⟨e1, e2⟩ := head16 hp0
    have hrd := np4.rd
    have hnp : 0 < np := by rw [np4.len_]; exact e2
    obtain ⟨bb, oo, x, rfl, hbb, hx, hcell⟩ := hrd.at_ (j := 0) hnp
    have hxe := dig_lt hx
    rw [e1] at hxe
    rw [Nat.add_zero] at hcell
    have hx0 : 0 ≤ x := by omega
    have z0 : ((np : Int) == 0) = false := by simp; omega
    have z0' : (np == 0) = false := by simp; omega
    have HX := Lib.hid hxe
    clear hx hxe e1 e2 hrd
    rcases Int.emod_two_eq P with ev | od
    · have z1 : ((x % 2 : Int) == 0) = true := by have := HX.out; simp; omega
      have HS := Lib.hid (sc_even HL.out (.inl ev))
      have G := Lib.hid b04
      clear ev HX b04 np4 nq4 na4 lo
      go_wp2
      go_ret
      exact ⟨by rw [HS.out]; rfl, G.out⟩
    · have z1 : ((x % 2 : Int) == 0) = false := by have := HX.out; simp; omega
      have HO := Lib.hid od
      have l3' : Rn ((w3.alloc (.cells #[.int .i64 1] 3)).alloc (.cells #[.int .i64 3] 3)) (some ⟨w3.heap.size + 1, 0, none⟩) 1 1 3 := by
        have := rlit (w3.alloc (.cells #[.int .i64 1] 3)) (x := 3) (by decide) (by decide)
        rwa [show (w3.alloc (.cells #[.int .i64 1] 3)).heap.size = w3.heap.size + 1 by simp] at this
      have b3' := below_i (w3.alloc (.cells #[.int .i64 1] 3)) 3
      have np5 := np4.below b3'
      clear od HX
      rcases Int.lt_or_le P 3 with p3 | p3
      · have z2 : decide (cmpI P 3 < 0) = true := by simp; rw [cmpI_lt p3]; decide
        have HS := Lib.hid (sc_even HL.out (.inr p3))
        have b05 := b04.trans (b3'.mono b04.size)
        clear b04 b3' nq4 na4 lo p3 np4
        go_wp2_with fail
        refine (rcmp_v np5 l3' (by omega) (by omega)).mono ?_
        rintro e w5 ⟨rfl, b5⟩
        have G := Lib.hid (b05.trans (b5.mono b05.size))
        clear b5 b05 np5 l3'
        go_wp2
        go_ret
        exact ⟨by rw [HS.out]; rfl, G.out⟩
      · have z2 : decide (cmpI P 3 < 0) = false := by
          simp
          rcases Int.lt_or_eq_of_le p3 with g | g
          · rw [cmpI_gt g]; decide
          · rw [← g, cmpI_eq]; decide
        have HE : Hid (¬ Ev P) := Lib.hid (by
          rintro (g | g)
          · have := HO.out; omega
          · omega)
        have P3 := Lib.hid p3
        have b05 := b04.trans (b3'.mono b04.size)
        have nq5 := nq4.below b3'
        have na5 := na4.below b3'
        have lo5 := lo.below b3'
        clear b04 b3' nq4 na4 lo p3 np4
        go_wp2_with fail
        refine (rcmp_v np5 l3' (by omega) (by omega)).mono ?_
        rintro e w5 ⟨rfl, b5⟩
        have g5 := b05.trans (b5.mono b05.size)
        have np6 := np5.below b5
        have nq6 := nq5.below b5
        have na6 := na5.below b5
        have lo6 := lo5.below b5
        clear b5 b05 np5 nq5 na5 lo5 l3'
        go_wp2_with fail
        refine (rsub_any np6 lo6 (by omega) (by have := P3.out; omega)).mono ?_
        rintro e w6 ⟨Bl, nl', dl', rfl, ls, b6⟩
        have g6 := g5.trans (b6.mono g5.size)
        have np7 := np6.below b6
        have nq7 := nq6.below b6
        have na7 := na6.below b6
        have lo7 := lo6.below b6
        have ll : nl' ≤ 128 := by
          rw [ls.len_]
          have := dr_mono ls.pos (show P - 1 ≤ P by omega)
          omega
        clear b6 g5 np6 nq6 na6 lo6
        rcases Int.lt_or_le 1 Q with q1 | q1
        · have y1 := cmp_nle q1
          have HQ1 := Lib.hid q1
          clear q1
          go_wp2_with fail
          refine (rcmp_v nq7 lo7 (by omega) (by omega)).mono ?_
          rintro e w7 ⟨rfl, b7⟩
          have g7 := g6.trans (b7.mono g6.size)
          have np8 := np7.below b7
          have nq8 := nq7.below b7
          have na8 := na7.below b7
          have lo8 := lo7.below b7
          have ls8 := ls.below b7
          clear b7 g6 np7 nq7 na7 lo7 ls
          go_wp2_with fail
          refine (rmul_any nq8 nq8 (by omega) (by omega)).mono ?_
          rintro e w8 ⟨Bm, nm, dm, rfl, mm, b8⟩
          have g8 := g7.trans (b8.mono g7.size)
          have np9 := np8.below b8
          have nq9 := nq8.below b8
          have na9 := na8.below b8
          have lo9 := lo8.below b8
          have ls9 := ls8.below b8
          have lm : nm ≤ 512 := by rw [mm.len_]; have := dr_mul (N := Q) (M := Q) Q0 Q0; omega
          clear b8 g7 np8 nq8 na8 lo8 ls8
          rcases Int.lt_or_le P (Q * Q) with q2 | q2
          · have y2 := cmp_nle q2
            have HQ2 := Lib.hid q2
            clear q2
            go_wp2_with fail
            refine (rcmp_v mm np9 (by omega) (by omega)).mono ?_
            rintro e w9 ⟨rfl, b9⟩
            have g9 := g8.trans (b9.mono g8.size)
            have np10 := np9.below b9
            have nq10 := nq9.below b9
            have na10 := na9.below b9
            have lo10 := lo9.below b9
            have ls10 := ls9.below b9
            clear b9 g8 np9 nq9 na9 lo9 ls9 mm lm
            go_wp2_with fail
            refine (rdiv_any ls10 nq10 (by omega) (by omega) (by have := HQ1.out; omega)).mono ?_
            rintro e w10 ⟨Bk, nk, dk, Br, nr, dr_, rfl, kk, rr, b10⟩
            have g10 := g9.trans (b10.mono g9.size)
            have np11 := np10.below b10
            have na11 := na10.below b10
            have lo11 := lo10.below b10
            have ls11 := ls10.below b10
            have HKP : (P - 1) / Q ≤ P - 1 := Int.ediv_le_self _ (by have := P3.out; omega)
            have lk : nk ≤ 128 := by
              rw [kk.len_]
              have := dr_mono kk.pos (show (P - 1) / Q ≤ P by omega)
              omega
            clear b10 g9 np10 nq10 na10 lo10 ls10 HKP
            by_cases hz : (P - 1) % Q = 0
            · have hnr : nr = 0 := by rw [rr.len_, hz]; unfold dr; rw [dg_zero]; rfl
              subst hnr
              have HC : Hid (Cof P Q) := Lib.hid ⟨by have := HQ1.out; omega, HQ2.out, hz⟩
              have HI := Lib.hid (wit_iff (A := A) P3.out HC.out)
              clear rr hz
              rcases Int.lt_or_le 1 A with a1 | a1
              · have y3 := cmp_nle a1
                have HA1 := Lib.hid a1
                clear a1
                go_wp2_with fail
                refine (rcmp_v na11 lo11 (by omega) (by omega)).mono ?_
                rintro e w11 ⟨rfl, b11⟩
                have g11 := g10.trans (b11.mono g10.size)
                have np12 := np11.below b11
                have na12 := na11.below b11
                have lo12 := lo11.below b11
                have ls12 := ls11.below b11
                have kk12 := kk.below b11
                clear b11 g10 np11 na11 lo11 ls11 kk
                rcases Int.lt_or_le (P - 1) A with a2 | a2
                · have y4 : decide (0 < cmpI A (P - 1)) = true := by simp; rw [cmpI_gt a2]; decide
                  have HS := Lib.hid (sc_bad HL.out HE.out fun h : Wit P Q A => by have := h.2.2.2.2.1; omega)
                  clear a2
                  go_wp2_with fail
                  refine (rcmp_v na12 ls12 (by omega) (by omega)).mono ?_
                  rintro e w12 ⟨rfl, b12⟩
                  have G := Lib.hid (g11.trans (b12.mono g11.size))
                  clear b12 g11 np12 na12 lo12 ls12 kk12
                  go_wp2
                  go_ret
                  exact ⟨by rw [HS.out]; rfl, G.out⟩
                · have y4 : decide (0 < cmpI A (P - 1)) = false := by
                    simp
                    rcases Int.lt_or_eq_of_le a2 with g | g
                    · rw [cmpI_lt g]; decide
                    · rw [g, cmpI_eq]; decide
                  have HA2 := Lib.hid a2
                  clear a2
                  go_wp2_with fail
                  refine (rcmp_v na12 ls12 (by omega) (by omega)).mono ?_
                  rintro e w12 ⟨rfl, b12⟩
                  have g12 := g11.trans (b12.mono g11.size)
                  have np13 := np12.below b12
                  have na13 := na12.below b12
                  have lo13 := lo12.below b12
                  have ls13 := ls12.below b12
                  have kk13 := kk12.below b12
                  clear b12 g11 np12 na12 lo12 ls12 kk12
                  go_wp2_with fail
                  refine (rexp_any na13 ls13 np13 (by omega) (by omega) (by omega) (by omega)).mono ?_
                  rintro e w13 ⟨Be, ne, de, rfl, ee, b13⟩
                  have g13 := g12.trans (b13.mono g12.size)
                  have np14 := np13.below b13
                  have na14 := na13.below b13
                  have lo14 := lo13.below b13
                  have kk14 := kk13.below b13
                  have le : ne ≤ 128 := by rw [ee.len_]; have := dr_rest (N := A ^ (P - 1).toNat) hp0; omega
                  obtain ⟨E1, hE1⟩ : ∃ E1, E1 = A ^ (P - 1).toNat % P := ⟨_, rfl⟩
                  rw [← hE1] at ee
                  have HE1 := Lib.hid hE1
                  clear b13 g12 np13 na13 lo13 ls13 kk13 hE1
                  by_cases hx1 : E1 = 1
                  · have y5 := cmp_same hx1
                    have HX1 := Lib.hid (HE1.out.symm.trans hx1)
                    clear hx1
                    go_wp2_with fail
                    refine (rcmp_v ee lo14 (by omega) (by omega)).mono ?_
                    rintro e w14 ⟨rfl, b14⟩
                    have g14 := g13.trans (b14.mono g13.size)
                    have np15 := np14.below b14
                    have na15 := na14.below b14
                    have lo15 := lo14.below b14
                    have kk15 := kk14.below b14
                    clear b14 g13 np14 na14 lo14 kk14 ee le
                    go_wp2_with fail
                    refine (rexp_any na15 kk15 np15 (by omega) (by omega) (by omega) (by omega)).mono ?_
                    rintro e w15 ⟨Bx, nx, dx, rfl, xx, b15⟩
                    have g15 := g14.trans (b15.mono g14.size)
                    have np16 := np15.below b15
                    have lo16 := lo15.below b15
                    have lx : nx ≤ 128 := by rw [xx.len_]; have := dr_rest (N := A ^ ((P - 1) / Q).toNat) hp0; omega
                    obtain ⟨X, hX⟩ : ∃ X, X = A ^ ((P - 1) / Q).toNat % P := ⟨_, rfl⟩
                    rw [← hX] at xx
                    have X0 := xx.pos
                    have XP : X < P := by rw [hX]; exact Int.emod_lt_of_pos _ hp0
                    have HXX := Lib.hid hX
                    clear b15 g14 np15 na15 lo15 kk15 hX
                    go_wp2_with fail
                    refine (radd_any xx np16 (by omega) (by omega)).mono ?_
                    rintro e w16 ⟨Bs, ns, ds, rfl, ss, b16⟩
                    have g16 := g15.trans (b16.mono g15.size)
                    have np17 := np16.below b16
                    have lo17 := lo16.below b16
                    have hpp : 3 * P ≤ P * P := Int.mul_le_mul_of_nonneg_right P3.out (by omega)
                    have hdd := dr_mul (N := P) (M := P) P0 P0
                    have ls_ : ns ≤ 256 := by
                      rw [ss.len_]
                      have := dr_mono ss.pos (show X + P ≤ P * P by omega)
                      omega
                    clear b16 g15 np16 lo16 xx
                    go_wp2_with fail
                    refine (rsub_any ss lo17 (by omega) (by omega)).mono ?_
                    rintro e w17 ⟨Bt, nt, dt, rfl, tt, b17⟩
                    have g17 := g16.trans (b17.mono g16.size)
                    have np18 := np17.below b17
                    have lo18 := lo17.below b17
                    have lt_ : nt ≤ 256 := by
                      rw [tt.len_]
                      have := dr_mono tt.pos (show X + P - 1 ≤ P * P by omega)
                      omega
                    clear b17 g16 np17 lo17 ss ls_ hpp hdd
                    go_wp2_with fail
                    refine (rrest_any tt np18 (by omega) (by omega) hp0).mono ?_
                    rintro e w18 ⟨Bu, nu, du, rfl, uu, b18⟩
                    have g18 := g17.trans (b18.mono g17.size)
                    have np19 := np18.below b18
                    have lo19 := lo18.below b18
                    have lu : nu ≤ 128 := by rw [uu.len_]; have := dr_rest (N := X + P - 1) hp0; omega
                    clear b18 g17 np18 lo18 tt lt_
                    go_wp2_with fail
                    refine (rgcd_any np19 uu (by omega) (by omega)).mono ?_
                    rintro e w19 ⟨Bv, nv, dv, rfl, vv, b19⟩
                    have g19 := g18.trans (b19.mono g18.size)
                    have lo20 := lo19.below b19
                    have HY1 : (X + P - 1) % P = (A ^ ((P - 1) / Q).toNat - 1) % P := by
                      rw [HXX.out, show A ^ ((P - 1) / Q).toNat % P + P - 1 = A ^ ((P - 1) / Q).toNat % P - 1 + P * 1 by omega, Int.add_mul_emod_self_left]
                      exact Eqm.iff.1 ((Eqm.mod P _).sub (Eqm.refl P 1))
                    have hgl : (Int.gcd P ((X + P - 1) % P) : Int) ≤ P := Int.le_of_dvd hp0 (Int.gcd_dvd_left _ _)
                    have lv : nv ≤ 128 := by
                      rw [vv.len_]
                      have := dr_mono vv.pos hgl
                      omega
                    obtain ⟨V, hV⟩ : ∃ V, V = (Int.gcd P ((X + P - 1) % P) : Int) := ⟨_, rfl⟩
                    rw [← hV] at vv
                    have HG := Lib.hid (hV.trans (by rw [HY1]))
                    clear b19 g18 np19 lo19 uu hgl HY1 hV
                    by_cases hgc : V = 1
                    · have y6 := cmp_same hgc
                      have HS : Hid (sc P Q A = 0) := Lib.hid (sc_good HL.out HE.out ⟨by have := HQ1.out; omega, HQ2.out, HC.out.2.2, by have := HA1.out; omega, by have := HA2.out; omega, HX1.out, by have := HG.out; omega⟩)
                      clear hgc
                      go_wp2_with fail
                      refine (rcmp_v vv lo20 (by omega) (by omega)).mono ?_
                      rintro e w20 ⟨rfl, b20⟩
                      have G := Lib.hid (g19.trans (b20.mono g19.size))
                      clear b20 g19 lo20 vv
                      go_wp2
                      go_ret
                      exact ⟨by rw [HS.out]; rfl, G.out⟩
                    · have y6 := cmp_ne hgc
                      have HS : Hid (sc P Q A = 7) := Lib.hid (sc_bad HL.out HE.out fun h : Wit P Q A => hgc (by have := HG.out; have := h.2.2.2.2.2.2; omega))
                      clear hgc
                      go_wp2_with fail
                      refine (rcmp_v vv lo20 (by omega) (by omega)).mono ?_
                      rintro e w20 ⟨rfl, b20⟩
                      have G := Lib.hid (g19.trans (b20.mono g19.size))
                      clear b20 g19 lo20 vv
                      go_wp2
                      go_ret
                      exact ⟨by rw [HS.out]; rfl, G.out⟩
                  · have y5 := cmp_ne hx1
                    have HS : Hid (sc P Q A = 7) := Lib.hid (sc_bad HL.out HE.out fun h : Wit P Q A => hx1 (HE1.out.trans h.2.2.2.2.2.1))
                    clear hx1
                    go_wp2_with fail
                    refine (rcmp_v ee lo14 (by omega) (by omega)).mono ?_
                    rintro e w14 ⟨rfl, b14⟩
                    have G := Lib.hid (g13.trans (b14.mono g13.size))
                    clear b14 g13 np14 na14 lo14 kk14 ee
                    go_wp2
                    go_ret
                    exact ⟨by rw [HS.out]; rfl, G.out⟩
              · have y3 := cmp_le a1
                have HS := Lib.hid (sc_bad HL.out HE.out fun h : Wit P Q A => by have := h.2.2.2.1; omega)
                clear a1
                go_wp2_with fail
                refine (rcmp_v na11 lo11 (by omega) (by omega)).mono ?_
                rintro e w11 ⟨rfl, b11⟩
                have G := Lib.hid (g10.trans (b11.mono g10.size))
                clear b11 g10 np11 na11 lo11 ls11 kk
                go_wp2
                go_ret
                exact ⟨by rw [HS.out]; rfl, G.out⟩
            · have hnr : 0 < nr := by
                rw [rr.len_]
                rcases Nat.eq_zero_or_pos (dr ((P - 1) % Q)) with g | g
                · exact absurd ((dg_nil_iff D_two rr.pos).1 g) hz
                · exact g
              have HS := Lib.hid (sc_bad HL.out HE.out fun h : Wit P Q A => hz h.2.2.1)
              have G := Lib.hid g10
              clear hz rr g10 np11 na11 lo11 ls11 kk
              go_wp2
              go_ret
              exact ⟨by rw [HS.out]; rfl, G.out⟩
          · have y2 := cmp_le q2
            have HS := Lib.hid (sc_bad HL.out HE.out fun h : Wit P Q A => by have := h.2.1; omega)
            clear q2
            go_wp2_with fail
            refine (rcmp_v mm np9 (by omega) (by omega)).mono ?_
            rintro e w9 ⟨rfl, b9⟩
            have G := Lib.hid (g8.trans (b9.mono g8.size))
            clear b9 g8 np9 nq9 na9 lo9 ls9 mm
            go_wp2
            go_ret
            exact ⟨by rw [HS.out]; rfl, G.out⟩
        · have y1 := cmp_le q1
          have HS := Lib.hid (sc_bad HL.out HE.out fun h : Wit P Q A => by have := h.1; omega)
          clear q1
          go_wp2_with fail
          refine (rcmp_v nq7 lo7 (by omega) (by omega)).mono ?_
          rintro e w7 ⟨rfl, b7⟩
          have G := Lib.hid (g6.trans (b7.mono g6.size))
          clear b7 g6 np7 nq7 na7 lo7 ls
          go_wp2
          go_ret
          exact ⟨by rw [HS.out]; rfl, G.out⟩
  · have hnp : np = 0 := by rw [np4.len_, ← hp0]; unfold dr; rw [dg_zero]; rfl
    subst hnp
    have HS := Lib.hid (sc_even HL.out (.inr (show P < 3 by omega)))
    have G := Lib.hid b04
    clear hp0 b04 np4 nq4 na4 lo
    go_wp2
    go_ret
    exact ⟨by rw [HS.out]; rfl, G.out⟩
/-- What the document's step answers. -/
theorem rstep_any (h : s.At w) (l1 : s.n1 ≤ 1000) (l2 : s.n2 ≤ 1000) (l3 : s.n3 ≤ 1000) :
    Calls Tryz.prog 16 #[.agg #[.slice s.A1 s.n1 s.c1, .slice s.A2 s.n2 s.c2, .slice s.A3 s.n3 s.c3]] w (AnsV (.int .i64 (scS s)) w) := by
  by_cases hl : Lg s.P s.Q s.A
  · have := rstep_long h hl
    rwa [show scS s = 2 from sc_long hl]
  · exact rstep_rest h hl l1 l2 l3
end
end Go.Proofs.YtbgnjbalojcgkaaGreatDoor
/-
  What the document's own Check answers.
-/
namespace Go.Proofs.YtbgnjbalojcgkaaGreatDoor
open Go.RowKit
set_option linter.unusedVariables false
theorem rn_one {w : World} {B : Option Addr} {m cap : Nat} {x : Int} (h : Rn w B m cap x) (h0 : 1 ≤ x) (h1 : x < 65536) : m = 1 ∧ ∃ b off, B = some ⟨b, off, none⟩ ∧ b < w.heap.size ∧ w.cell? ⟨b, off, none⟩ = some (.int .i64 x) := by
  have hr := h.rd
  rw [dgD_one h0 h1] at hr
  have hm : m = 1 := hr.len.symm
  subst hm
  obtain ⟨b, off, y, rfl, hb, hy, hc⟩ := hr.at_ (j := 0) (by omega)
  obtain rfl : x = y := by simpa using hy
  exact ⟨rfl, b, off, rfl, hb, by simpa using hc⟩
theorem dr_not_one {Q : Int} (h0 : 0 ≤ Q) (h : ¬ (1 ≤ Q ∧ Q < 65536)) : dr Q ≠ 1 := by
  intro e
  have a := dg_lt_pow D_two h0 (show (dg D Q).length ≤ 1 from Nat.le_of_eq e)
  have b := dg_nil_iff D_two h0
  refine h ⟨?_, by simpa [Int.pow_succ, D] using a⟩
  rcases Int.lt_or_eq_of_le h0 with g | g
  · omega
  · have := b.2 g.symm
    unfold dr at e
    omega
/-- The number, 0, and no place. -/
def RGood (N : Int) (w : World) (e : Ending) (w' : World) : Prop :=
  ∃ B m cap, e = .returned (.tuple #[.slice B m cap, .int .i64 0, .int .i64 (-1)]) ∧ Cn w' B m cap N ∧ Below w.heap.size w w'
/-- No number, an error's number, and its place. -/
def RBad (k : Nat) (c : Int) (w : World) (e : Ending) (w' : World) : Prop :=
  e = .returned (.tuple #[.slice none 0 0, .int .i64 c, .int .i64 k]) ∧ Below w.heap.size w w'
def RChkP (S : Nat → Stp) (n : Nat) (w : World) (e : Ending) (w' : World) : Prop :=
  ((∀ i, i < n → bdS S n i = 0) ∧ RGood (S 0).P w e w') ∨ ∃ k c, k < n ∧ (∀ j, j < k → bdS S n j = 0) ∧ bdS S n k = c ∧ c ≠ 0 ∧ RBad k c w e w'
theorem rchk_arg {w : World} {a : Option Addr} {n c : Nat} (hn : n = 0 ∨ 64 < n) (h1 : n ≤ 9223372036854775807) :
    Calls Tryz.prog 7 #[.slice a n c] w fun e w' => e = .returned (.tuple #[.slice none 0 0, .int .i64 1, .int .i64 (-1)]) ∧ w = w' := by
  rcases hn with rfl | hn
  · go_enter Tryz.func7, Tryz.ntmps7
    go_wp2
    refine bodyPost_ret (v := .tuple #[.slice none 0 0, .int .i64 1, .int .i64 (-1)]) (by simp [results, Tryz.results7, go_sem]) rfl ⟨rfl, rfl⟩
  · have t1 : ((n : Int) == 0) = false := by simp; omega
    have t2 : (n == 0) = false := by simp; omega
    have t3 : decide ((64 : Int) < (n : Int)) = true := by simp; omega
    go_enter Tryz.func7, Tryz.ntmps7
    go_wp2
    refine bodyPost_ret (v := .tuple #[.slice none 0 0, .int .i64 1, .int .i64 (-1)]) (by simp [results, Tryz.results7, go_sem]) rfl ⟨rfl, rfl⟩
theorem rstep_code {w : World} {s : Stp} {c : Int} (h : s.At w) (l : s.n1 ≤ 1000 ∧ s.n2 ≤ 1000 ∧ s.n3 ≤ 1000) (hs : scS s = c) :
    Calls Tryz.prog 16 #[.agg #[.slice s.A1 s.n1 s.c1, .slice s.A2 s.n2 s.c2, .slice s.A3 s.n3 s.c3]] w (AnsV (.int .i64 c) w) := by
  have := rstep_any h l.1 l.2.1 l.2.2
  rwa [hs] at this
set_option maxHeartbeats 4000000 in
theorem rchk_any {w : World} {b off n c : Nat} {S : Nat → Stp} (h : Ch w (some ⟨b, off, none⟩) n c S) (h1 : 1 ≤ n) (h2 : n ≤ 64) (hl : ∀ i, i < n → (S i).n1 ≤ 1000 ∧ (S i).n2 ≤ 1000 ∧ (S i).n3 ≤ 1000) :
    Calls Tryz.prog 7 #[.slice (some ⟨b, off, none⟩) n c] w (RChkP S n w) := by
  have t1 : ((n : Int) == 0) = false := by simp; omega
  have t2 : (n == 0) = false := by simp; omega
  have hnc := h.nc
  have HL := Lib.hid hl
  clear hl
  go_enter Tryz.func7, Tryz.ntmps7
  go_wp2_with fail
  go_loopw [5] (fun i wr => ChkR S n w i wr) (fun i _ => n - (intOf i).toNat)
  case atStart => exact ⟨0, Nat.zero_le _, rfl, fun j h => absurd h (by omega), Below.refl _ _⟩
  case round =>
    obtain ⟨k, hk, rfl, hz, hb⟩ := hrel
    have HZ := Lib.hid hz
    clear hz
    have hr := h.below hb
    rcases Nat.lt_or_ge k n with hlt | hge
    · obtain ⟨b', off', hbo, hb1, hcl⟩ := hr.ex (by omega)
      simp only [Option.some.injEq, Addr.mk.injEq, and_true] at hbo
      obtain ⟨rfl, rfl⟩ := hbo
      have q0 := (hcl k hlt).c0
      have q1 := (hcl k hlt).c1
      have q2 := (hcl k hlt).c2
      have sa := hr.at_ k hlt
      have lk := HL.out k hlt
      clear hcl
      have hkk : (k : Int) < 64 := by omega
      by_cases hs : scS (S k) = 0
      · have HS := Lib.hid hs
        clear hs
        go_wp2_with fail
        refine (rstep_code sa lk HS.out).mono ?_
        rintro e w2 ⟨rfl, b2⟩
        have gb := hb.trans (b2.mono hb.size)
        have sa2 := sa.below b2
        have hr2 := hr.below b2
        clear q0 q1 q2 sa
        obtain ⟨b', off', hbo, hb2, hcl⟩ := hr2.ex (by omega)
        simp only [Option.some.injEq, Addr.mk.injEq, and_true] at hbo
        obtain ⟨rfl, rfl⟩ := hbo
        have q1 := (hcl k hlt).c1
        clear hcl b2
        go_wp2_with fail
        refine (of_nm sa2.q lk.2.1).mono ?_
        rintro e w3 ⟨B3, m3, d3, rfl, k3, b3⟩
        have gb3 := gb.trans (b3.mono gb.size)
        have hr3 := hr2.below b3
        have Q0 := k3.pos
        have hw : IntKind.i64.wrap ((k : Int) + 1) = (k : Int) + 1 := IntWalk.i64_in _ (by omega)
        have hdq : dr (S k).Q ≤ 256 := by
          have := (sc_zero HS.out).1
          exact dr_le Q0 (Nat.not_lt.1 fun g => this (.inr (.inl g)))
        have lm3 : m3 ≤ 256 := by rw [k3.len_]; exact hdq
        clear b3 gb q1 sa2 hr2 hdq
        rcases Nat.lt_or_ge (k + 1) n with hm | hm
        · obtain ⟨b', off', hbo, hb3, hcl⟩ := hr3.ex (by omega)
          simp only [Option.some.injEq, Addr.mk.injEq, and_true] at hbo
          obtain ⟨rfl, rfl⟩ := hbo
          have q0 := (hcl (k + 1) hm).c0
          have sn := hr3.at_ (k + 1) hm
          have ln := HL.out (k + 1) hm
          have t4 : decide ((k : Int) + 1 < (n : Int)) = true := by simp; omega
          have hle2 : (0 : Int) ≤ (k : Int) + 1 := by omega
          have hle5 : ((k : Int) + 1).toNat = k + 1 := by omega
          clear hcl
          go_wp2_with fail
          refine (of_nm sn.p ln.1).mono ?_
          rintro e w4 ⟨B4, m4, d4, rfl, k4, b4⟩
          have gb4 := gb3.trans (b4.mono gb3.size)
          have k34 := k3.below b4
          have lm4 : m4 ≤ 4000 := by
            rw [k4.len_]
            have := sn.p.dl_le
            have := dr_le k4.pos (Nat.le_trans this ln.1)
            omega
          clear b4 gb3 k3 q0
          by_cases hq : (S k).Q = (S (k + 1)).P
          · have HB := Lib.hid (show bdS S n k = 0 from bd_next (P := fun j => (S j).P) (Q := fun j => (S j).Q) (A := fun j => (S j).A) HS.out hm hq)
            have y1 := cmp_same hq
            clear hq
            go_wp2_with fail
            refine (rcmp_v k34 k4 (by omega) (by omega)).mono ?_
            rintro e w5 ⟨rfl, b5⟩
            have G := Lib.hid (gb4.trans (b5.mono gb4.size))
            clear b5 gb4 k34 k4 sn hr3
            go_wp2
            go_roundw
            case rel => exact ⟨k + 1, hlt, by go_num, fun j hj => by
              rcases Nat.lt_or_ge j k with g | g
              · exact HZ.out j g
              · obtain rfl : j = k := by omega
                exact HB.out, G.out⟩
            case measure => simp [intOf]; omega
          · have HB := Lib.hid (show bdS S n k = 7 from bd_join (P := fun j => (S j).P) (Q := fun j => (S j).Q) (A := fun j => (S j).A) HS.out hm hq)
            have y1 := cmp_ne hq
            clear hq
            go_wp2_with fail
            refine (rcmp_v k34 k4 (by omega) (by omega)).mono ?_
            rintro e w5 ⟨rfl, b5⟩
            have G := Lib.hid (gb4.trans (b5.mono gb4.size))
            clear b5 gb4 k34 k4 sn hr3
            go_wp2
            refine bodyPost_ret (v := .tuple #[.slice none 0 0, .int .i64 7, .int .i64 k]) (by simp [results, Tryz.results7, go_sem]) rfl ?_
            exact .inr ⟨k, 7, hlt, HZ.out, HB.out, by decide, rfl, G.out⟩
        · have t4 : decide ((k : Int) + 1 < (n : Int)) = false := by simp; omega
          have hnot : ¬ k + 1 < n := by omega
          have G := Lib.hid gb3
          clear gb3
          by_cases hsm : Sm (S k).Q
          · have HB := Lib.hid (show bdS S n k = 0 from bd_last (P := fun j => (S j).P) (Q := fun j => (S j).Q) (A := fun j => (S j).A) HS.out hnot hsm)
            have hq1 : 1 ≤ (S k).Q := by have := hsm.2.1; omega
            have hq2 : (S k).Q < 65536 := hsm.1
            obtain ⟨rfl, bb, oo, rfl, hbb, hcc⟩ := rn_one k3 hq1 hq2
            have rs := rsmall_any (S k).Q w3 Q0 (by omega)
            rw [sm_yes hsm] at rs
            clear hsm k3
            go_wp2_with fail
            refine rs.mono ?_
            rintro e w4 ⟨rfl, rfl⟩
            clear rs hcc
            go_wp2
            go_roundw
            case rel => exact ⟨k + 1, hlt, by go_num, fun j hj => by
              rcases Nat.lt_or_ge j k with g | g
              · exact HZ.out j g
              · obtain rfl : j = k := by omega
                exact HB.out, G.out⟩
            case measure => simp [intOf]; omega
          · have HB := Lib.hid (show bdS S n k = 7 from bd_end (P := fun j => (S j).P) (Q := fun j => (S j).Q) (A := fun j => (S j).A) HS.out hnot hsm)
            by_cases hq : 1 ≤ (S k).Q ∧ (S k).Q < 65536
            · obtain ⟨hq1, hq2⟩ := hq
              obtain ⟨rfl, bb, oo, rfl, hbb, hcc⟩ := rn_one k3 hq1 hq2
              have rs := rsmall_any (S k).Q w3 Q0 (by omega)
              rw [sm_no hsm] at rs
              clear hsm k3
              go_wp2_with fail
              refine rs.mono ?_
              rintro e w4 ⟨rfl, rfl⟩
              clear rs hcc
              go_wp2
              refine bodyPost_ret (v := .tuple #[.slice none 0 0, .int .i64 7, .int .i64 k]) (by simp [results, Tryz.results7, go_sem]) rfl ?_
              exact .inr ⟨k, 7, hlt, HZ.out, HB.out, by decide, rfl, G.out⟩
            · have hm3 : m3 ≠ 1 := by rw [k3.len_]; exact dr_not_one Q0 hq
              have t5 : ((m3 : Int) == 1) = false := by simp; omega
              have t6 : (m3 == 1) = false := by simp; omega
              clear k3 hq hsm
              go_wp2
              refine bodyPost_ret (v := .tuple #[.slice none 0 0, .int .i64 7, .int .i64 k]) (by simp [results, Tryz.results7, go_sem]) rfl ?_
              exact .inr ⟨k, 7, hlt, HZ.out, HB.out, by decide, rfl, G.out⟩
      · obtain ⟨cd, hcd⟩ : ∃ cd, scS (S k) = cd := ⟨_, rfl⟩
        have hc0 : cd ≠ 0 := hcd ▸ hs
        have HC0 := Lib.hid hc0
        have HCD := Lib.hid hcd
        have HB := Lib.hid (show bdS S n k = cd from (bd_own (P := fun j => (S j).P) (Q := fun j => (S j).Q) (A := fun j => (S j).A) (n := n) hs).trans hcd)
        have t3 : ((cd : Int) != 0) = true := by simpa using hc0
        have t3' : ((cd : Int) == 0) = false := by simpa using hc0
        clear hs hcd hc0
        go_wp2_with fail
        refine (rstep_code sa lk HCD.out).mono ?_
        rintro e w2 ⟨rfl, b2⟩
        have G := Lib.hid (hb.trans (b2.mono hb.size))
        clear b2 q0 q1 q2 sa
        go_wp2
        refine bodyPost_ret (v := .tuple #[.slice none 0 0, .int .i64 cd, .int .i64 k]) (by simp [results, Tryz.results7, go_sem]) rfl ?_
        exact .inr ⟨k, cd, hlt, HZ.out, HB.out, HC0.out, rfl, G.out⟩
    · obtain rfl : k = n := by omega
      obtain ⟨b', off', hbo, hb1, hcl⟩ := hr.ex (by omega)
      simp only [Option.some.injEq, Addr.mk.injEq, and_true] at hbo
      obtain ⟨rfl, rfl⟩ := hbo
      have q0 := (hcl 0 (by omega)).c0
      simp only [Nat.zero_mul, Nat.add_zero] at q0
      have sa := hr.at_ 0 (by omega)
      have lk := HL.out 0 (by omega)
      clear hcl
      go_wp2_with fail
      refine (of_nm sa.p lk.1).mono ?_
      rintro e w2 ⟨B2, m2, d2, rfl, k2, b2⟩
      have gb := hb.trans (b2.mono hb.size)
      have lm2 : m2 ≤ 4000 := by
        rw [k2.len_]
        have := sa.p.dl_le
        have := dr_le k2.pos (Nat.le_trans this lk.1)
        omega
      clear b2 q0
      go_wp2_with fail
      refine (to_cn k2 (by omega)).mono ?_
      rintro e w3 ⟨B3, m3, d3, rfl, k3, b3⟩
      have G := Lib.hid (gb.trans (b3.mono gb.size))
      have K3 := Lib.hid k3
      clear b3 gb k2 k3 sa
      go_wp2
      refine bodyPost_ret (v := .tuple #[.slice B3 m3 d3, .int .i64 0, .int .i64 (-1)]) (by simp [results, Tryz.results7, go_sem]) rfl ?_
      exact .inl ⟨HZ.out, _, _, _, rfl, K3.out, G.out⟩
end Go.Proofs.YtbgnjbalojcgkaaGreatDoor
/-
  What light answers; the number of no error; first places are alike.
-/
namespace Go.Proofs.YtbgnjbalojcgkaaGreatDoor
open Go.RowKit
set_option linter.unusedVariables false
theorem code_nil (w : World) : Calls Tryz.prog 10 #[.nilIface] w fun e w' => e = .returned (.int .i64 0) ∧ w = w' := by
  go_enter Tryz.func10, Tryz.ntmps10
  go_wp2
  go_ret
  exact ⟨rfl, rfl⟩
/-- The first place where something is amiss is one. -/
theorem first_same {f : Nat → Int} {k k' : Nat} {c c' : Int} (h : ∀ j, j < k → f j = 0) (h1 : f k = c) (h2 : c ≠ 0) (h' : ∀ j, j < k' → f j = 0) (h1' : f k' = c') (h2' : c' ≠ 0) : k = k' ∧ c = c' := by
  have e : k = k' := by
    rcases Nat.lt_or_ge k k' with g | g
    · exact absurd (h1.symm.trans (h' k g)) h2
    · rcases Nat.lt_or_ge k' k with q | q
      · exact absurd (h1'.symm.trans (h k' q)) h2'
      · omega
  subst e
  exact ⟨rfl, h1.symm.trans h1'⟩
def Sh (s : Stp) : Prop := s.n1 ≤ 200 ∧ s.n2 ≤ 200 ∧ s.n3 ≤ 200
def LtR (S : Nat → Stp) (n : Nat) (w : World) (m i : Value) (wr : World) : Prop :=
  ∃ (k : Nat) (M : Int), m = .int .i64 M ∧ i = .int .i64 k ∧ k ≤ n ∧ k ≤ 65 ∧ 0 ≤ M ∧ M ≤ 200 * k ∧ (∀ j, j < k → Sh (S j)) ∧ w = wr
def LtP (S : Nat → Stp) (n : Nat) (w : World) (e : Ending) (w' : World) : Prop :=
  ∃ b, e = .returned (.bool b) ∧ (b = true → n ≤ 64 → ∀ i, i < n → Sh (S i)) ∧ w = w'
set_option maxHeartbeats 4000000 in
theorem light_any {w : World} {a : Option Addr} {n c : Nat} {S : Nat → Stp} (h : Ch w a n c S) :
    Calls Tryz.prog 5 #[.slice a n c] w (LtP S n w) := by
  have n60 := h.c60
  go_enter Tryz.func5, Tryz.ntmps5
  go_wp2_with fail
  go_loopw [3, 4] (fun m i wr => LtR S n w m i wr) (fun _ i _ => n - (intOf i).toNat)
  case atStart => exact ⟨0, 0, rfl, rfl, Nat.zero_le _, by omega, by omega, by omega, fun j h => absurd h (by omega), rfl⟩
  case round =>
    obtain ⟨k, M, rfl, rfl, hk, hk5, m0, m1, hsh, rfl⟩ := hrel
    have HSH := Lib.hid hsh
    clear hsh
    rcases Nat.lt_or_ge k n with hlt | hge
    · have t0 : decide ((k : Int) < (n : Int)) = true := by simp; omega
      rcases Nat.lt_or_ge k 65 with h65 | h65
      · have t1 : decide ((k : Int) < 65) = true := by simp; omega
        obtain ⟨b, off, rfl, hb1, hcl⟩ := h.ex (by omega)
        have q0 := (hcl k hlt).c0
        have q1 := (hcl k hlt).c1
        have q2 := (hcl k hlt).c2
        have sa := h.at_ k hlt
        clear hcl
        rcases Nat.lt_or_ge 200 (S k).n1 with g1 | g1
        · have y1 : decide ((200 : Int) < ((S k).n1 : Int)) = true := by simp; omega
          go_wp2
          go_ret
          exact ⟨false, rfl, (fun h => by cases h), rfl⟩
        · have y1 : decide ((200 : Int) < ((S k).n1 : Int)) = false := by simp; omega
          rcases Nat.lt_or_ge 200 (S k).n2 with g2 | g2
          · have y2 : decide ((200 : Int) < ((S k).n2 : Int)) = true := by simp; omega
            go_wp2
            go_ret
            exact ⟨false, rfl, (fun h => by cases h), rfl⟩
          · have y2 : decide ((200 : Int) < ((S k).n2 : Int)) = false := by simp; omega
            rcases Nat.lt_or_ge 200 (S k).n3 with g3 | g3
            · have y3 : decide ((200 : Int) < ((S k).n3 : Int)) = true := by simp; omega
              go_wp2
              go_ret
              exact ⟨false, rfl, (fun h => by cases h), rfl⟩
            · have y3 : decide ((200 : Int) < ((S k).n3 : Int)) = false := by simp; omega
              have hdl : dl (S k).P ≤ 200 := Nat.le_trans sa.p.dl_le g1
              have hw1 : IntKind.i64.wrap ((k : Int) + 1) = (k : Int) + 1 := IntWalk.i64_in _ (by omega)
              have hw2 : IntKind.i64.wrap (M + (dl (S k).P : Int)) = M + (dl (S k).P : Int) := IntWalk.i64_in _ (by omega)
              have NX : Hid (∀ j, j < k + 1 → Sh (S j)) := Lib.hid fun j hj => by
                rcases Nat.lt_or_ge j k with g | g
                · exact HSH.out j g
                · obtain rfl : j = k := by omega
                  exact ⟨g1, g2, g3⟩
              rcases Nat.lt_or_ge 5 (dl (S k).P) with d5 | d5
              · have y4 : decide ((5 : Int) < (dl (S k).P : Int)) = true := by simp; omega
                rcases Nat.lt_or_ge 32 (dl (S k).P) with d32 | d32
                · have y5 : decide ((dl (S k).P : Int) ≤ 32) = false := by simp; omega
                  go_wp2_with fail
                  refine (Limbs_nm sa.p).mono ?_
                  rintro e w1 ⟨rfl, rfl⟩
                  go_wp2_with fail
                  refine (Limbs_nm sa.p).mono ?_
                  rintro e w1 ⟨rfl, rfl⟩
                  go_wp2_with fail
                  refine (Limbs_nm sa.p).mono ?_
                  rintro e w1 ⟨rfl, rfl⟩
                  go_wp2
                  go_roundw
                  case rel => exact ⟨k + 1, M + (dl (S k).P : Int), rfl, by go_num, by omega, by omega, by omega, by omega, NX.out, rfl⟩
                  case measure => simp [intOf]; omega
                · have y5 : decide ((dl (S k).P : Int) ≤ 32) = true := by simp; omega
                  go_wp2_with fail
                  refine (Limbs_nm sa.p).mono ?_
                  rintro e w1 ⟨rfl, rfl⟩
                  go_wp2_with fail
                  refine (Limbs_nm sa.p).mono ?_
                  rintro e w1 ⟨rfl, rfl⟩
                  go_wp2
                  go_ret
                  exact ⟨false, rfl, (fun h => by cases h), rfl⟩
              · have y4 : decide ((5 : Int) < (dl (S k).P : Int)) = false := by simp; omega
                go_wp2_with fail
                refine (Limbs_nm sa.p).mono ?_
                rintro e w1 ⟨rfl, rfl⟩
                go_wp2_with fail
                refine (Limbs_nm sa.p).mono ?_
                rintro e w1 ⟨rfl, rfl⟩
                go_wp2
                go_roundw
                case rel => exact ⟨k + 1, M + (dl (S k).P : Int), rfl, by go_num, by omega, by omega, by omega, by omega, NX.out, rfl⟩
                case measure => simp [intOf]; omega
      · have t1 : decide ((k : Int) < 65) = false := by simp; omega
        have h64 : 64 < n := by omega
        have t2 : decide ((64 : Int) < (n : Int)) = true := by simp; omega
        by_cases hM : M ≤ 40
        · have t3 : decide (M ≤ 40) = true := by simpa using hM
          go_wp2
          go_ret
          exact ⟨true, rfl, (fun _ h => by omega), rfl⟩
        · have t3 : decide (M ≤ 40) = false := by simpa using hM
          go_wp2
          go_ret
          exact ⟨true, rfl, (fun _ h => by omega), rfl⟩
    · obtain rfl : k = n := by omega
      have t0 : decide ((k : Int) < (k : Int)) = false := by simp
      by_cases hM : M ≤ 40
      · have t3 : decide (M ≤ 40) = true := by simpa using hM
        go_wp2
        go_ret
        exact ⟨true, rfl, (fun _ _ => HSH.out), rfl⟩
      · have t3 : decide (M ≤ 40) = false := by simpa using hM
        rcases Nat.lt_or_ge 64 k with h64 | h64
        · have t2 : decide ((64 : Int) < (k : Int)) = true := by simp; omega
          go_wp2
          go_ret
          exact ⟨true, rfl, (fun _ _ => HSH.out), rfl⟩
        · have t2 : decide ((64 : Int) < (k : Int)) = false := by simp; omega
          go_wp2
          go_ret
          exact ⟨false, rfl, (fun h => by cases h), rfl⟩
end Go.Proofs.YtbgnjbalojcgkaaGreatDoor
/-
  PrimeChecks: walked through.
-/
namespace Go.Proofs.YtbgnjbalojcgkaaGreatDoor
open Go.RowKit
set_option linter.unusedVariables false
set_option maxHeartbeats 4000000 in
theorem primeChecks_walk {w : World} {a : Option Addr} {n c : Nat} {S : Nat → Stp} (hch : Ch w a n c S) (hg : Et w) :
    Calls Tryz.prog 3 #[.slice a n c] w fun e w' => e = .returned (.bool true) ∧ Below w.heap.size w w' := by
  have n60 := hch.c60
  go_enter Tryz.func3, Tryz.ntmps3
  go_wp2_with fail
  refine (up_any w hg).mono ?_
  rintro e w1 ⟨rfl, b1⟩
  have hch1 := hch.below b1
  have hg1 := hg.below b1
  go_wp2_with fail
  refine (light_any hch1).mono ?_
  rintro e w2 ⟨lt, rfl, hlt, rfl⟩
  cases lt with
  | false =>
    clear hlt
    go_wp2
    go_ret
    exact ⟨rfl, b1⟩
  | true =>
    have hlt := hlt rfl
    rcases Nat.eq_zero_or_pos n with hn | hn
    · have HN : Hid (n = 0 ∨ 64 < n) := Lib.hid (.inl hn)
      clear hn hlt
      go_wp2_with fail
      refine (chk_arg HN.out (by omega)).mono ?_
      rintro e w3 ⟨rfl, b3⟩
      have b13 := b1.trans (b3.mono b1.size)
      clear b3 b1
      go_wp2_with fail
      refine (rchk_arg HN.out (by omega)).mono ?_
      rintro e w4 ⟨rfl, rfl⟩
      go_wp2_with fail
      refine (same_cn (Cn.nil _) (Cn.nil _)).mono ?_
      rintro e w5 ⟨rfl, b5⟩
      have G := Lib.hid (b13.trans (b5.mono b13.size))
      clear b13 b5
      go_wp2_with fail
      refine (code_any 1 (by omega) (by omega) _).mono ?_
      rintro e w6 ⟨rfl, rfl⟩
      go_wp2
      go_ret
      exact ⟨rfl, G.out⟩
    · rcases Nat.lt_or_ge 64 n with h64 | h64
      · have HN : Hid (n = 0 ∨ 64 < n) := Lib.hid (.inr h64)
        clear hn hlt
        go_wp2_with fail
        refine (chk_arg HN.out (by omega)).mono ?_
        rintro e w3 ⟨rfl, b3⟩
        have b13 := b1.trans (b3.mono b1.size)
        clear b3 b1
        go_wp2_with fail
        refine (rchk_arg HN.out (by omega)).mono ?_
        rintro e w4 ⟨rfl, rfl⟩
        go_wp2_with fail
        refine (same_cn (Cn.nil _) (Cn.nil _)).mono ?_
        rintro e w5 ⟨rfl, b5⟩
        have G := Lib.hid (b13.trans (b5.mono b13.size))
        clear b13 b5
        go_wp2_with fail
        refine (code_any 1 (by omega) (by omega) _).mono ?_
        rintro e w6 ⟨rfl, rfl⟩
        go_wp2
        go_ret
        exact ⟨rfl, G.out⟩
      · obtain ⟨b, off, rfl, -, -⟩ := hch1.ex hn
        have HSH : Hid (∀ i, i < n → (S i).n1 ≤ 1000 ∧ (S i).n2 ≤ 1000 ∧ (S i).n3 ≤ 1000) := Lib.hid fun i hi => by
          obtain ⟨u1, u2, u3⟩ := hlt h64 i hi
          omega
        clear hlt
        go_wp2_with fail
        refine (chk_any hch1 hn h64).mono ?_
        rintro e w3 (⟨hz, B3, m3, d3, rfl, k3, b3, -⟩ | ⟨k, cd, hk, hj, hbd, hc0, bs, rfl, sp, b3⟩)
        · have HZ := Lib.hid hz
          have b13 := b1.trans (b3.mono b1.size)
          have hch3 := hch.below b13
          clear b3 b1 hz
          go_wp2_with fail
          refine (rchk_any hch3 hn h64 HSH.out).mono ?_
          rintro e w4 (⟨-, B4, m4, d4, rfl, k4, b4⟩ | ⟨k, cd, hk, -, hbd, hc0, -⟩)
          · have b14 := b13.trans (b4.mono b13.size)
            have k34 := k3.below b4
            clear b4 b13 k3
            go_wp2_with fail
            refine (same_cn k34 k4).mono ?_
            rintro e w5 ⟨rfl, b5⟩
            have G := Lib.hid (b14.trans (b5.mono b14.size))
            clear b14 b5 k34 k4
            go_wp2_with fail
            refine (code_nil _).mono ?_
            rintro e w6 ⟨rfl, rfl⟩
            go_wp2
            go_ret
            exact ⟨rfl, G.out⟩
          · exact absurd (hbd.symm.trans (HZ.out k hk)) hc0
        · have HJ := Lib.hid hj
          have HBD := Lib.hid hbd
          have HC0 := Lib.hid hc0
          have b13 := b1.trans (b3.mono b1.size)
          have hch3 := hch.below b13
          have hg3 := hg.below b13
          clear b3 b1 hj hbd hc0
          go_wp2_with fail
          refine (rchk_any hch3 hn h64 HSH.out).mono ?_
          rintro e w4 (⟨hz, -⟩ | ⟨k', cd', hk', hj', hbd', hc0', rfl, b4⟩)
          · exact absurd (HBD.out.symm.trans (hz k hk)) HC0.out
          · obtain ⟨e1, e2⟩ := first_same HJ.out HBD.out HC0.out hj' hbd' hc0'
            subst e1 e2
            have b14 := b13.trans (b4.mono b13.size)
            have sp4 := sp.below b4
            have hg4 := hg3.below b4
            clear b4 b13 sp hg3 hj' hbd' hc0'
            go_wp2_with fail
            refine (same_cn (Cn.nil _) (Cn.nil _)).mono ?_
            rintro e w5 ⟨rfl, b5⟩
            have b15 := b14.trans (b5.mono b14.size)
            have sp5 := sp4.below b5
            have hg5 := hg4.below b5
            have hw : IntKind.u64.wrap (k : Int) = (k : Int) := IntWalk.u64_in _ (by omega)
            clear b14 b5 sp4 hg4
            go_wp2_with fail
            refine (isAt sp5 hg5).mono ?_
            rintro e w6 ⟨rfl, b6⟩
            have G := Lib.hid (b15.trans (b6.mono b15.size))
            clear b15 b6 sp5 hg5
            go_wp2
            go_ret
            exact ⟨rfl, G.out⟩
end Go.Proofs.YtbgnjbalojcgkaaGreatDoor
