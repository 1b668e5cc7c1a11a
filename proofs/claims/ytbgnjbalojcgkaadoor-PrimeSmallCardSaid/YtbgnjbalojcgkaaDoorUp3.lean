/-
  The document's examples of layer 3 hold: up.
-/
import Derived.Test.YtbgnjbalojcgkaaDoorChk
namespace Go.Proofs.YtbgnjbalojcgkaaDoor
open Go.RowKit
set_option linter.unusedVariables false
/-- A chain of one step, just laid. -/
def one3 (A1 A2 A3 : Option Addr) (P Q A : Int) : Nat → Stp := fun _ => ⟨A1, 1, 1, A2, 1, 1, A3, 1, 1, P, Q, A⟩
theorem bds_one {P Q A : Int} {A1 A2 A3 : Option Addr} {c : Int} (h : bd (fun _ => P) (fun _ => Q) (fun _ => A) 1 0 = c) : bdS (one3 A1 A2 A3 P Q A) 1 0 = c := h
theorem sm_dec {n : Int} (h2 : 2 ≤ n) (h3 : n < 65536) (k : Nat) (hk : n < ((k : Int) + 2) * ((k : Int) + 2)) (h : ((List.range k).all fun d => n % ((d : Int) + 2) != 0) = true) : Sm n := by
  refine ⟨h3, pr_of_root h2 fun d d2 dd hz => ?_⟩
  have hdk : d < (k : Int) + 2 := by
    rcases Int.lt_or_le d ((k : Int) + 2) with g | g
    · exact g
    · have a := Int.mul_le_mul_of_nonneg_right g (show 0 ≤ (k : Int) + 2 by omega)
      have b := Int.mul_le_mul_of_nonneg_left g (show 0 ≤ d by omega)
      omega
  have := List.all_eq_true.1 h (d - 2).toNat (List.mem_range.2 (by omega))
  rw [show (((d - 2).toNat : Int) + 2) = d by omega, hz] at this
  simp at this
theorem sm_2 : Sm 2 := sm_dec (by decide) (by decide) 0 (by decide) (by decide)
theorem sm_65521 : Sm 65521 := sm_dec (by decide) (by decide) 254 (by decide) (by decide +kernel)
theorem sm_50273 : Sm 50273 := sm_dec (by decide) (by decide) 223 (by decide) (by decide +kernel)
theorem not_sm_65537 : ¬ Sm 65537 := fun h => by have := h.1; omega
theorem not_sm_1 : ¬ Sm 1 := fun h => by have := h.2.1; omega
/-- Powers by squares, for the two powers of the example. -/
def pw3 (P A : Int) : Nat → Nat → Int
  | 0, _ => 1 % P
  | f + 1, e => let h := pw3 P A f (e / 2); let s := h * h % P; if e % 2 = 1 then s * A % P else s
theorem pw3_eq {P A : Int} : ∀ (f e : Nat), e < 2 ^ f → pw3 P A f e = A ^ e % P := by
  intro f
  induction f with
  | zero => intro e h; obtain rfl : e = 0 := by simpa using h
            show 1 % P = A ^ 0 % P
            rw [Int.pow_zero]
  | succ f ih =>
    intro e h
    have hh := ih (e / 2) (by rw [Nat.pow_succ] at h; omega)
    have hs : (A ^ (e / 2) % P) * (A ^ (e / 2) % P) % P = A ^ (e / 2 + e / 2) % P := by
      rw [Int.pow_add]; exact Eqm.iff.1 ((Eqm.mod P _).mul (Eqm.mod P _))
    show (let h := pw3 P A f (e / 2); let s := h * h % P; if e % 2 = 1 then s * A % P else s) = _
    simp only [hh, hs]
    by_cases ho : e % 2 = 1
    · rw [if_pos ho]
      have e1 : A ^ e = A ^ (e / 2 + e / 2) * A := by rw [← Int.pow_succ]; congr 1; omega
      rw [e1]
      exact Eqm.iff.1 ((Eqm.mod P _).mul (Eqm.refl P A))
    · rw [if_neg ho]
      congr 2; omega
theorem dl_one {x : Int} (h0 : 0 ≤ x) (h1 : x < W) : dl x ≤ 1 := dl_le h0 (by simpa [Int.pow_succ] using h1)
theorem not_lg {P Q A : Int} (p0 : 0 ≤ P) (p1 : P < W) (q0 : 0 ≤ Q) (q1 : Q < W) (a0 : 0 ≤ A) (a1 : A < W) : ¬ Lg P Q A := by
  have := dl_one p0 p1; have := dl_one q0 q1; have := dl_one a0 a1
  rintro (h | h | h) <;> omega
theorem sc_ex1 : sc 100547 50273 2 = 0 := by
  refine sc_good (not_lg (by decide) (by decide) (by decide) (by decide) (by decide) (by decide)) (by unfold Ev; omega) ?_
  have e1 : (2 : Int) ^ (100547 - 1 : Int).toNat % 100547 = 1 := by
    rw [show (100547 - 1 : Int).toNat = 100546 by decide, ← pw3_eq 17 100546 (by decide)]; decide +kernel
  have e2 : ((100547 - 1) / 50273 : Int).toNat = 2 := by decide
  refine ⟨by decide, by decide, by decide, by decide, by decide, e1, ?_⟩
  rw [e2]
  decide +kernel
theorem bd_ex1 : bd (fun _ => 100547) (fun _ => 50273) (fun _ => 2) 1 0 = 0 := bd_last sc_ex1 (by decide) sm_50273
theorem sc_ex2 : sc 100549 50273 2 = 7 := by
  refine sc_bad (not_lg (by decide) (by decide) (by decide) (by decide) (by decide) (by decide)) (by unfold Ev; omega) fun h => ?_
  have := h.2.2.1
  revert this
  decide
theorem bd_ex2 : bd (fun _ => 100549) (fun _ => 50273) (fun _ => 2) 1 0 = 7 := (bd_own (by show sc 100549 50273 2 ≠ 0; rw [sc_ex2]; decide)).trans sc_ex2
/-- The chain that a literal of one step lays. -/
theorem lit_chain (w : World) (P Q A : Int) (p0 : 0 ≤ P) (p1 : P < W) (q0 : 0 ≤ Q) (q1 : Q < W) (a0 : 0 ≤ A) (a1 : A < W) :
    Ch ((((w.alloc (.cells #[.int .u64 P] 22)).alloc (.cells #[.int .u64 Q] 22)).alloc (.cells #[.int .u64 A] 22)).alloc (.cells #[.slice (some ⟨w.heap.size, 0, none⟩) 1 1, .slice (some ⟨w.heap.size + 1, 0, none⟩) 1 1, .slice (some ⟨w.heap.size + 1 + 1, 0, none⟩) 1 1] 41))
      (some ⟨w.heap.size + 1 + 1 + 1, 0, none⟩) 1 1 (one3 (some ⟨w.heap.size, 0, none⟩) (some ⟨w.heap.size + 1, 0, none⟩) (some ⟨w.heap.size + 1 + 1, 0, none⟩) P Q A) := by
  have sz : ∀ (v : World) o, (v.alloc o).heap.size = v.heap.size + 1 := fun v o => by simp
  refine ⟨Nat.le_refl _, by omega, fun _ => ⟨_, _, rfl, by simp [sz], fun i hi => ?_⟩, fun i hi => ?_⟩
  · obtain rfl : i = 0 := by omega
    exact ⟨by simp [World.cell?_alloc_at, one3], by simp [World.cell?_alloc_at, one3], by simp [World.cell?_alloc_at, one3]⟩
  · obtain rfl : i = 0 := by omega
    have l1 := lit_one w P p0 p1
    have l2 := lit_one (w.alloc (.cells #[.int .u64 P] 22)) Q q0 q1
    have l3 := lit_one ((w.alloc (.cells #[.int .u64 P] 22)).alloc (.cells #[.int .u64 Q] 22)) A a0 a1
    rw [sz] at l2
    rw [sz, sz] at l3
    exact ⟨((l1.alloc _).alloc _).alloc _, (l2.alloc _).alloc _, l3.alloc _⟩
theorem below_four {w w' : World} {o1 o2 o3 o4 : Obj} (h : Below ((((w.alloc o1).alloc o2).alloc o3).alloc o4).heap.size ((((w.alloc o1).alloc o2).alloc o3).alloc o4) w') : Below w.heap.size w w' := below_two (below_two h)
/-- The first example. -/
theorem chk_ex1 (w : World) : Calls Tryd.prog 9 #[.slice (some ⟨w.heap.size + 1 + 1 + 1, 0, none⟩) 1 1] ((((w.alloc (.cells #[.int .u64 100547] 22)).alloc (.cells #[.int .u64 50273] 22)).alloc (.cells #[.int .u64 2] 22)).alloc (.cells #[.slice (some ⟨w.heap.size, 0, none⟩) 1 1, .slice (some ⟨w.heap.size + 1, 0, none⟩) 1 1, .slice (some ⟨w.heap.size + 1 + 1, 0, none⟩) 1 1] 41))
    fun e w' => ∃ B m cap, e = .returned (.tuple #[.slice B m cap, .nilIface]) ∧ Cn w' B m cap 100547 ∧ Below w.heap.size w w' := by
  refine (chk_any (lit_chain w 100547 50273 2 (by decide) (by decide) (by decide) (by decide) (by decide) (by decide)) (by omega) (by omega)).mono fun e w' h => ?_
  rcases h with ⟨-, B, m, cap, he, hc, hb, -⟩ | ⟨k, c, hk, -, hbd, hc, -⟩
  · exact ⟨B, m, cap, he, hc, below_four hb⟩
  · obtain rfl : k = 0 := by omega
    rw [bds_one bd_ex1] at hbd
    exact absurd hbd.symm hc
/-- The second example. -/
theorem chk_ex2 (w : World) : Calls Tryd.prog 9 #[.slice (some ⟨w.heap.size + 1 + 1 + 1, 0, none⟩) 1 1] ((((w.alloc (.cells #[.int .u64 100549] 22)).alloc (.cells #[.int .u64 50273] 22)).alloc (.cells #[.int .u64 2] 22)).alloc (.cells #[.slice (some ⟨w.heap.size, 0, none⟩) 1 1, .slice (some ⟨w.heap.size + 1, 0, none⟩) 1 1, .slice (some ⟨w.heap.size + 1 + 1, 0, none⟩) 1 1] 41))
    fun e w' => ∃ b, e = .returned (.tuple #[.slice none 0 0, .iface 47 (.pointer (some ⟨b, 0, none⟩))]) ∧ Sp w' b 0 7 ∧ Below w.heap.size w w' := by
  refine (chk_any (lit_chain w 100549 50273 2 (by decide) (by decide) (by decide) (by decide) (by decide) (by decide)) (by omega) (by omega)).mono fun e w' h => ?_
  rcases h with ⟨h, -⟩ | ⟨k, c, hk, -, hbd, hc, b, he, hs, hb⟩
  · have := h 0 (by omega)
    rw [bds_one bd_ex2] at this
    cases this
  · obtain rfl : k = 0 := by omega
    rw [bds_one bd_ex2] at hbd
    subst hbd
    exact ⟨b, he, hs, below_four hb⟩
theorem small_yes (n : Int) (w : World) (h0 : 0 ≤ n) (h1 : n < 18446744073709551616) (h : Sm n) : Calls Tryd.prog 7 #[.int .u64 n] w fun e w' => e = .returned (.bool true) ∧ w = w' := by
  have := small_any n w h0 h1
  rwa [sm_yes h] at this
theorem small_no (n : Int) (w : World) (h0 : 0 ≤ n) (h1 : n < 18446744073709551616) (h : ¬ Sm n) : Calls Tryd.prog 7 #[.int .u64 n] w fun e w' => e = .returned (.bool false) ∧ w = w' := by
  have := small_any n w h0 h1
  rwa [sm_no h] at this
set_option maxHeartbeats 4000000 in
set_option maxRecDepth 100000 in
theorem up_any (w : World) (hg : Et w) : Calls Tryd.prog 6 #[] w (AnsV (.bool true) w) := by
  go_enter Tryd.func6, Tryd.ntmps6
  go_wp2_with fail
  refine (chk_ex1 w).mono ?_
  rintro e w1 ⟨B1, m1, d1, rfl, k1, b1⟩
  have hg1 := hg.below b1
  go_wp2_with fail
  refine (chk_ex2 w1).mono ?_
  rintro e w2 ⟨b, rfl, sp, b2⟩
  have b12 := b1.trans (b2.mono b1.size)
  have hg2 := hg1.below b2
  have k2 := k1.below b2
  clear b1 b2 hg1 k1
  go_wp2_with fail
  refine (isAt sp hg2).mono ?_
  rintro e w3 ⟨rfl, b3⟩
  have b13 := b12.trans (b3.mono b12.size)
  have k3 := k2.below b3
  have B13 := Lib.hid b13
  obtain ⟨rfl, bb, oo, rfl, hb, hc⟩ := cn_one k3 (by decide) (by decide)
  clear b12 b3 hg2 k2 k3 sp b13
  go_wp2_with fail
  refine (small_yes 2 _ (by decide) (by decide) sm_2).mono ?_
  rintro e w4 ⟨rfl, rfl⟩
  go_wp2_with fail
  refine (small_yes 65521 _ (by decide) (by decide) sm_65521).mono ?_
  rintro e w4 ⟨rfl, rfl⟩
  go_wp2_with fail
  refine (small_no 65537 _ (by decide) (by decide) not_sm_65537).mono ?_
  rintro e w4 ⟨rfl, rfl⟩
  go_wp2_with fail
  refine (small_no 1 _ (by decide) (by decide) not_sm_1).mono ?_
  rintro e w4 ⟨rfl, rfl⟩
  go_wp2
  go_ret
  exact ⟨rfl, B13.out⟩
end Go.Proofs.YtbgnjbalojcgkaaDoor
