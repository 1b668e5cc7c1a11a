/-
  What the document's Small answers.
-/
import Derived.Test.YtloibmemlkfkfaaGreatDoorPri
namespace Go.Proofs.YtloibmemlkfkfaaGreatDoor
open Go.RowKit
set_option linter.unusedVariables false
set_option maxHeartbeats 1000000 in
theorem rsmall_any (n : Int) (w : World) (h0 : 0 ≤ n) (h1 : n < 18446744073709551616) :
    Calls Tryz.prog 109 #[.int .u64 n] w fun e w' => e = .returned (.bool (sm n)) ∧ w = w' := by
  by_cases h2 : n < 2
  · have hs : sm n = false := sm_no fun h => by have := h.2.1; omega
    go_enter Tryz.func109, Tryz.ntmps109
    go_wp2
    go_ret
    exact ⟨by first | rfl | (rw [hs]; rfl), rfl⟩
  · by_cases h3 : n < 65536
    · go_enter Tryz.func109, Tryz.ntmps109
      go_wp2_with fail
      go_loop [3] (fun t => SmR n t) (fun t => (n + 3 - intOf t).toNat)
      case atStart => exact ⟨2, rfl, by omega, by omega, fun k a b => by omega⟩
      case round =>
        obtain ⟨d, rfl, d2, dn, hd⟩ := hrel
        have HD := Lib.hid hd
        clear hd
        by_cases hl : d < n
        · have hw1 : IntKind.u64.wrap (d + 1) = d + 1 := IntWalk.u64_in _ (by omega)
          by_cases hz : n % d = 0
          · have hs : sm n = false := sm_no fun h => h.2.2 d d2 hl hz
            go_wp2
            go_ret
            exact ⟨by first | rfl | (rw [hs]; rfl), rfl⟩
          · go_wp2
            exact ⟨⟨d + 1, rfl, by omega, by omega, fun k a b => by
              rcases Int.lt_or_eq_of_le (show k ≤ d by omega) with g | g
              · exact HD.out k a g
              · rw [g]; exact hz⟩, by simp [intOf]; omega⟩
        · have hs : sm n = true := sm_yes ⟨h3, by omega, fun k k2 kk => HD.out k k2 (by omega)⟩
          go_wp2
          go_ret
          exact ⟨by first | rfl | (rw [hs]; rfl), rfl⟩
    · have hs : sm n = false := sm_no fun h => h3 h.1
      go_enter Tryz.func109, Tryz.ntmps109
      go_wp2
      go_ret
      exact ⟨by first | rfl | (rw [hs]; rfl), rfl⟩
end Go.Proofs.YtloibmemlkfkfaaGreatDoor
