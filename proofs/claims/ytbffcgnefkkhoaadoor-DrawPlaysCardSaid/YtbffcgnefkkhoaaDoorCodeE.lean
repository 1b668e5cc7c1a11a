/-
  The number of an error that is a Code.
-/
import Derived.Test.YtbffcgnefkkhoaaDoorEt
import Derived.Test.YtbffcgnefkkhoaaDoorPkf
namespace Go.Proofs.YtbffcgnefkkhoaaDoor
open Go.RowKit
set_option linter.unusedVariables false
theorem code_any (c : Int) (h1 : 1 ≤ c) (h2 : c ≤ 15) (w : World) : Calls Tryd.prog 24 #[.iface 59 (.int .i64 c)] w fun e w' => e = .returned (.int .i64 c) ∧ w = w' := by
  go_enter Tryd.func24, Tryd.ntmps24
  go_wp2_with fail
  go_loop [3] (fun t => ∃ k : Int, t = .int .i64 k ∧ 1 ≤ k ∧ k ≤ c) (fun t => (c - intOf t).toNat)
  case atStart => exact ⟨1, rfl, by omega, h1⟩
  case round =>
    obtain ⟨k, rfl, hk1, hk2⟩ := hrel
    have q1 := eql_code c k
    have hk15 : k ≤ 15 := by omega
    by_cases hck : k = c
    · subst hck
      go_wp2
      go_ret
      exact ⟨rfl, rfl⟩
    · have hb : (c == k) = false := by simp; omega
      rw [hb] at q1
      have hw : IntKind.i64.wrap (k + 1) = k + 1 := IntWalk.i64_in _ (by omega)
      go_wp2
      exact ⟨⟨k + 1, rfl, by omega, by omega⟩, by simp [intOf]; omega⟩
end Go.Proofs.YtbffcgnefkkhoaaDoor
