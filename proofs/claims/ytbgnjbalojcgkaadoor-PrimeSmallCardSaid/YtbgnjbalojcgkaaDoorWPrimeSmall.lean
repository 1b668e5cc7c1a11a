/-
  PrimeSmall: walked through.
-/
import Derived.Test.YtbgnjbalojcgkaaDoorUp3
namespace Go.Proofs.YtbgnjbalojcgkaaDoor
open Go.RowKit
set_option linter.unusedVariables false
set_option maxHeartbeats 4000000 in
theorem primeSmall_walk {w : World} (n : Int) (hn : 0 ≤ n ∧ n ≤ 18446744073709551615) (hg : Et w) :
    Calls Tryd.prog 3 #[.int .u64 n] w fun e w' => e = .returned (.bool true) ∧ Below w.heap.size w w' := by
  obtain ⟨n0, n1⟩ := hn
  have m0 : 0 ≤ n % 65536 := by omega
  have m1 : n % 65536 < 18446744073709551616 := by omega
  have q1 : (sm n == sm n) = true := by simp
  have q2 : (sm (n % 65536) == sm (n % 65536)) = true := by simp
  go_enter Tryd.func3, Tryd.ntmps3
  go_wp2_with fail
  refine (up_any w hg).mono ?_
  rintro e w1 ⟨rfl, b1⟩
  go_wp2_with fail
  refine (small_any n _ n0 (by omega)).mono ?_
  rintro e w2 ⟨rfl, rfl⟩
  go_wp2_with fail
  refine (rsmall_any n _ n0 (by omega)).mono ?_
  rintro e w2 ⟨rfl, rfl⟩
  go_wp2_with fail
  refine (small_any (n % 65536) _ m0 m1).mono ?_
  rintro e w2 ⟨rfl, rfl⟩
  go_wp2_with fail
  refine (rsmall_any (n % 65536) _ m0 m1).mono ?_
  rintro e w2 ⟨rfl, rfl⟩
  go_wp2
  go_ret
  exact ⟨rfl, b1⟩
end Go.Proofs.YtbgnjbalojcgkaaDoor
