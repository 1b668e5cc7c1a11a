/-
  Whether two errors are alike: none, or one Code.
-/
import Derived.Test.YtelhkmgbpcojiaaDoorErr
import Derived.Test.YtelhkmgbpcojiaaDoorKit0
namespace Go.Proofs.YtelhkmgbpcojiaaDoor
open Go.RowKit
set_option linter.unusedVariables false
theorem Et.below {w w' : World} (h : Et w) (hb : Below w.heap.size w w') : Et w' := by
  have := h.pos
  unfold Et at *
  exact (hb.cell (p := ⟨_, 0, none⟩) this).trans h
theorem code_any (c : Int) (h1 : 1 ≤ c) (h2 : c ≤ 15) (w : World) : Calls Tryd.prog 37 #[.iface 45 (.int .i64 c)] w fun e w' => e = .returned (.int .i64 c) ∧ w = w' := by
  go_enter Tryd.func37, Tryd.ntmps37
  go_wp2_with fail
  go_loop [3] (fun t => ∃ k : Int, t = .int .i64 k ∧ 1 ≤ k ∧ k ≤ c) (fun t => (c - intOf t).toNat)
  case atStart => exact ⟨1, rfl, by omega, h1⟩
  case round =>
    obtain ⟨k, rfl, hk1, hk2⟩ := hrel
    have q1 := eql_code c k
    have hk15 : k ≤ 15 := by omega
    by_cases hck : k = c
    · subst hck
      go_wp2
      go_ret
      exact ⟨rfl, rfl⟩
    · have hb : (c == k) = false := by simp; omega
      rw [hb] at q1
      have hw : IntKind.i64.wrap (k + 1) = k + 1 := IntWalk.i64_in _ (by omega)
      go_wp2
      exact ⟨⟨k + 1, rfl, by omega, by omega⟩, by simp [intOf]; omega⟩
/-- Same: none and none. -/
theorem same_nil (w : World) : Calls Tryd.prog 14 #[.nilIface, .nilIface] w (AnsV (.bool true) w) := by
  go_enter Tryd.func14, Tryd.ntmps14
  go_wp2_with fail
  go_ret
  exact ⟨rfl, Below.refl _ _⟩
set_option maxHeartbeats 4000000 in
/-- Same: one Code and itself. -/
theorem same_code (c : Int) (h1 : 1 ≤ c) (h2 : c ≤ 15) (w : World) (hg : Et w) : Calls Tryd.prog 14 #[.iface 45 (.int .i64 c), .iface 45 (.int .i64 c)] w (AnsV (.bool true) w) := by
  have hg1 := hg.alloc (.cells #[.pointer none] 66)
  have ht : (w.alloc (.cells #[.pointer none] 66)).cell? ⟨w.heap.size, 0, none⟩ = some (.pointer none) := by simp
  go_enter Tryd.func14, Tryd.ntmps14
  go_wp2_with fail
  refine (as_code _ _ _ hg1 ht).mono ?_
  rintro e w1 ⟨rfl, hb⟩
  have hb := below_one hb
  clear hg1 ht
  go_wp2_with (go_at_call 37; refine (code_any c h1 h2 _).mono ?_; rintro e w' ⟨rfl, rfl⟩)
  go_ret
  exact ⟨show Ending.returned (.bool (decide (0 < c))) = _ by simp; omega, hb⟩
end Go.Proofs.YtelhkmgbpcojiaaDoor
