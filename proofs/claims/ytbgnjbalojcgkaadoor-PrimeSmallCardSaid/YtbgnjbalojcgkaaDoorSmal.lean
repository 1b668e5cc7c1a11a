/-
  What Small answers, the program's and the document's; smallNumber; tooLong.
-/
import Derived.Test.YtbgnjbalojcgkaaDoorPrm
import Derived.Test.YtbgnjbalojcgkaaDoorKit0
import Derived.Test.YtbgnjbalojcgkaaDoorNorm
namespace Go.Proofs.YtbgnjbalojcgkaaDoor
open Go.RowKit
set_option linter.unusedVariables false
open Classical in
/-- Whether a number is a small prime. -/
noncomputable def sm (n : Int) : Bool := decide (Sm n)
theorem sm_yes {n : Int} (h : Sm n) : sm n = true := by unfold sm; simp [h]
theorem sm_no {n : Int} (h : ¬ Sm n) : sm n = false := by unfold sm; simp [h]
/-- No number from 2 on below d, or whose square is at most n, divides n. -/
def SmR (n : Int) (t : Value) : Prop := ∃ d : Int, t = .int .u64 d ∧ 2 ≤ d ∧ d ≤ n + 2 ∧ ∀ k, 2 ≤ k → k < d → n % k ≠ 0
theorem mul_bd {d n : Int} (h0 : 0 ≤ d) (h : d ≤ n + 2) (hn : n < 65536) : 0 ≤ d * d ∧ d * d ≤ 4300000000 := by
  have h1 := Int.mul_nonneg h0 h0
  have h2 := Int.mul_le_mul (show d ≤ 65537 by omega) (show d ≤ 65537 by omega) h0 (by omega)
  omega
theorem root_lt {d n : Int} (h2 : 2 ≤ d) (h : d * d ≤ n) : d < n := by
  have := Int.mul_le_mul_of_nonneg_right h2 (show 0 ≤ d by omega)
  omega
set_option maxHeartbeats 1000000 in
theorem small_any (n : Int) (w : World) (h0 : 0 ≤ n) (h1 : n < 18446744073709551616) :
    Calls Tryd.prog 7 #[.int .u64 n] w fun e w' => e = .returned (.bool (sm n)) ∧ w = w' := by
  by_cases h2 : n < 2
  · have hs : sm n = false := sm_no fun h => by have := h.2.1; omega
    go_enter Tryd.func7, Tryd.ntmps7
    go_wp2
    go_ret
    exact ⟨by first | rfl | (rw [hs]; rfl), rfl⟩
  · by_cases h3 : n < 65536
    · go_enter Tryd.func7, Tryd.ntmps7
      go_wp2_with fail
      go_loop [3] (fun t => SmR n t) (fun t => (n + 3 - intOf t).toNat)
      case atStart => exact ⟨2, rfl, by omega, by omega, fun k a b => by omega⟩
      case round =>
        obtain ⟨d, rfl, d2, dn, hd⟩ := hrel
        have HD := Lib.hid hd
        clear hd
        obtain ⟨m0, m1⟩ := mul_bd (show 0 ≤ d by omega) dn h3
        have hw : IntKind.u64.wrap (d * d) = d * d := IntWalk.u64_in _ (by omega)
        by_cases hl : d * d ≤ n
        · have hr := root_lt d2 hl
          have hw1 : IntKind.u64.wrap (d + 1) = d + 1 := IntWalk.u64_in _ (by omega)
          by_cases hz : n % d = 0
          · have hs : sm n = false := sm_no fun h => h.2.2 d d2 hr hz
            go_wp2
            go_ret
            exact ⟨by first | rfl | (rw [hs]; rfl), rfl⟩
          · go_wp2
            exact ⟨⟨d + 1, rfl, by omega, by omega, fun k a b => by
              rcases Int.lt_or_eq_of_le (show k ≤ d by omega) with g | g
              · exact HD.out k a g
              · rw [g]; exact hz⟩, by simp [intOf]; omega⟩
        · have hs : sm n = true := sm_yes ⟨h3, pr_of_root (by omega) fun k k2 kk => HD.out k k2 (by
            rcases Int.lt_or_le k d with g | g
            · exact g
            · have a := Int.mul_le_mul_of_nonneg_right g (show 0 ≤ d by omega)
              have b := Int.mul_le_mul_of_nonneg_left g (show 0 ≤ k by omega)
              omega)⟩
          go_wp2
          go_ret
          exact ⟨by first | rfl | (rw [hs]; rfl), rfl⟩
    · have hs : sm n = false := sm_no fun h => h3 h.1
      go_enter Tryd.func7, Tryd.ntmps7
      go_wp2
      go_ret
      exact ⟨by first | rfl | (rw [hs]; rfl), rfl⟩
set_option maxHeartbeats 1000000 in
theorem rsmall_any (n : Int) (w : World) (h0 : 0 ≤ n) (h1 : n < 18446744073709551616) :
    Calls Tryd.prog 8 #[.int .u64 n] w fun e w' => e = .returned (.bool (sm n)) ∧ w = w' := by
  by_cases h2 : n < 2
  · have hs : sm n = false := sm_no fun h => by have := h.2.1; omega
    go_enter Tryd.func8, Tryd.ntmps8
    go_wp2
    go_ret
    exact ⟨by first | rfl | (rw [hs]; rfl), rfl⟩
  · by_cases h3 : n < 65536
    · go_enter Tryd.func8, Tryd.ntmps8
      go_wp2_with fail
      go_loop [3] (fun t => SmR n t) (fun t => (n + 3 - intOf t).toNat)
      case atStart => exact ⟨2, rfl, by omega, by omega, fun k a b => by omega⟩
      case round =>
        obtain ⟨d, rfl, d2, dn, hd⟩ := hrel
        have HD := Lib.hid hd
        clear hd
        by_cases hl : d < n
        · have hw1 : IntKind.u64.wrap (d + 1) = d + 1 := IntWalk.u64_in _ (by omega)
          by_cases hz : n % d = 0
          · have hs : sm n = false := sm_no fun h => h.2.2 d d2 hl hz
            go_wp2
            go_ret
            exact ⟨by first | rfl | (rw [hs]; rfl), rfl⟩
          · go_wp2
            exact ⟨⟨d + 1, rfl, by omega, by omega, fun k a b => by
              rcases Int.lt_or_eq_of_le (show k ≤ d by omega) with g | g
              · exact HD.out k a g
              · rw [g]; exact hz⟩, by simp [intOf]; omega⟩
        · have hs : sm n = true := sm_yes ⟨h3, by omega, fun k k2 kk => HD.out k k2 (by omega)⟩
          go_wp2
          go_ret
          exact ⟨by first | rfl | (rw [hs]; rfl), rfl⟩
    · have hs : sm n = false := sm_no fun h => h3 h.1
      go_enter Tryd.func8, Tryd.ntmps8
      go_wp2
      go_ret
      exact ⟨by first | rfl | (rw [hs]; rfl), rfl⟩
theorem tooLong_any {A : Option Addr} {n c : Nat} {N : Int} {w : World} (h : Nm w A n c N) :
    Calls Tryd.prog 26 #[.slice A n c] w fun e w' => e = .returned (.bool (decide (64 < dl N))) ∧ w = w' := by
  have hb : decide ((4096 : Int) < (nb N : Int)) = decide (64 < dl N) := by
    have := nb_dl h.pos 64
    apply decide_eq_decide.2
    omega
  go_enter Tryd.func26, Tryd.ntmps26
  go_wp2_with fail
  refine (bits_any h).mono ?_
  rintro e w1 ⟨rfl, rfl⟩
  go_wp2
  go_ret
  exact ⟨by rw [← hb]; rfl, rfl⟩
end Go.Proofs.YtbgnjbalojcgkaaDoor
