/-
  What cofactor answers: (P - 1) / Q, where Q is great enough and divides P - 1.
-/
import Derived.Test.YtbgnjbalojcgkaaDoorPrm
import Derived.Test.YtbgnjbalojcgkaaDoorKit0
import Derived.Test.YtbgnjbalojcgkaaDoorMul
import Derived.Test.YtbgnjbalojcgkaaDoorSub
import Derived.Test.YtbgnjbalojcgkaaDoorNorm
import Derived.Test.YtbgnjbalojcgkaaDoorBn
import Derived.Test.YtbgnjbalojcgkaaDoorExp
import Derived.Test.YtbgnjbalojcgkaaDoorInv
namespace Go.Proofs.YtbgnjbalojcgkaaDoor
open Go.RowKit
set_option linter.unusedVariables false
/-- What the step says of Q alone. -/
def Cof (P Q : Int) : Prop := 2 ≤ Q ∧ P < Q * Q ∧ (P - 1) % Q = 0
section
variable {A1 A2 : Option Addr} {n1 c1 n2 c2 : Nat} {P Q : Int} {w : World}
theorem cofactor_less (h1 : Nm w A1 n1 c1 P) (h2 : Nm w A2 n2 c2 Q) (hq : Q < 2) :
    Calls Tryd.prog 28 #[.slice A1 n1 c1, .slice A2 n2 c2] w (Err1 7 w) := by
  have t1 : decide ((nb Q : Int) < 2) = true := by have := nb_two h2.pos; simp; omega
  go_enter Tryd.func28, Tryd.ntmps28
  go_wp2_with fail
  refine (bits_any h2).mono ?_
  rintro e w1 ⟨rfl, rfl⟩
  go_wp2
  go_ret2
  exact ⟨rfl, Below.refl _ _⟩
theorem cofactor_small (h1 : Nm w A1 n1 c1 P) (h2 : Nm w A2 n2 c2 Q) (hl : dl Q ≤ 64) (hq : 2 ≤ Q) (hs : Q * Q ≤ P) :
    Calls Tryd.prog 28 #[.slice A1 n1 c1, .slice A2 n2 c2] w (Err1 7 w) := by
  have t1 : decide ((nb Q : Int) < 2) = false := by have := nb_two h2.pos; simp; omega
  have t2 : decide (cmpI (Q * Q) P ≤ 0) = true := by
    simp
    rcases Int.lt_or_eq_of_le hs with g | g
    · rw [cmpI_lt g]; decide
    · rw [g, cmpI_eq]; decide
  have HQ := Lib.hid hq
  have HS := Lib.hid hs
  clear hq hs
  go_enter Tryd.func28, Tryd.ntmps28
  go_wp2_with fail
  refine (bits_any h2).mono ?_
  rintro e w1 ⟨rfl, rfl⟩
  go_wp2_with fail
  refine (mul_any h2 h2 hl hl).mono ?_
  rintro e w1 ⟨B1, m1, d1, rfl, k1, b1, -⟩
  have h1' := h1.below b1
  go_wp2_with fail
  refine (cmp_v k1.nm h1').mono ?_
  rintro e w2 ⟨rfl, b2⟩
  have b12 := b1.trans (b2.mono b1.size)
  clear b1 b2 k1 h1'
  go_wp2
  go_ret2
  exact ⟨rfl, b12⟩
set_option maxHeartbeats 1000000 in
theorem cofactor_any (h1 : Nm w A1 n1 c1 P) (h2 : Nm w A2 n2 c2 Q) (hp : 3 ≤ P) (lp : dl P ≤ 64) (hl : dl Q ≤ 64) (hq : 2 ≤ Q) (hs : P < Q * Q) :
    Calls Tryd.prog 28 #[.slice A1 n1 c1, .slice A2 n2 c2] w (fun e w' => ((P - 1) % Q = 0 → Ans ((P - 1) / Q) w e w') ∧ ((P - 1) % Q ≠ 0 → Err1 7 w e w')) := by
  have t1 : decide ((nb Q : Int) < 2) = false := by have := nb_two h2.pos; simp; omega
  have t2 : decide (cmpI (Q * Q) P ≤ 0) = false := by simp; rw [cmpI_gt hs]; decide
  have lp1 : dl (P - 1) ≤ 64 := Nat.le_trans (dl_mono (by omega) (by omega)) lp
  have HQ := Lib.hid hq
  have HS := Lib.hid hs
  have HP := Lib.hid hp
  clear hq hs hp
  go_enter Tryd.func28, Tryd.ntmps28
  go_wp2_with fail
  refine (bits_any h2).mono ?_
  rintro e w1 ⟨rfl, rfl⟩
  go_wp2_with fail
  refine (mul_any h2 h2 hl hl).mono ?_
  rintro e w1 ⟨B1, m1, d1, rfl, k1, b1, -⟩
  have h1' := h1.below b1
  go_wp2_with fail
  refine (cmp_v k1.nm h1').mono ?_
  rintro e w2 ⟨rfl, b2⟩
  have b12 := b1.trans (b2.mono b1.size)
  have h12 := h1.below b12
  clear b1 b2 k1 h1'
  have L1 := Lib.hid (lit_one w2 1 (by decide) (by decide))
  go_wp2_with fail
  refine (sub_any (h12.below (below_al _ _)) L1.out lp (dl_small (by decide) (by decide)) (by have := HP.out; omega)).mono ?_
  rintro e w3 ⟨B3, m3, d3, rfl, k3, b3, -⟩
  have b23 := below_one b3
  have b13 := b12.trans (b23.mono b12.size)
  have h2' := h2.below b13
  clear b12 h12 b3 b23 L1
  go_wp2_with fail
  refine (div_any k3.nm h2' lp1 hl (by have := HQ.out; omega)).mono ?_
  rintro e w4 ⟨B4, m4, d4, B5, m5, d5, rfl, k4, k5, b4, n4, -⟩
  have b14 := b13.trans (b4.mono b13.size)
  have N4 : ∀ x, B4 = some x → w.heap.size ≤ x.block := fun x hx => Nat.le_trans b13.size (n4 x hx)
  have HN4 := Lib.hid N4
  have B14 := Lib.hid b14
  have r0 := k5.pos
  have nr := nb_pos r0
  clear b4 n4 b13 h2' k3 N4 b14
  go_wp2_with fail
  refine (bits_any k5.nm).mono ?_
  rintro e w5 ⟨rfl, rfl⟩
  have HK := Lib.hid k4
  clear k4 k5
  by_cases hz : (P - 1) % Q = 0
  · have t3 : ¬ 0 < nb ((P - 1) % Q) := by omega
    have HZ := Lib.hid hz
    clear hz nr r0
    go_wp2
    go_ret2
    exact ⟨fun _ => ⟨_, _, _, rfl, HK.out, B14.out, HN4.out⟩, fun h => absurd HZ.out h⟩
  · have t3 : 0 < nb ((P - 1) % Q) := by omega
    have HZ := Lib.hid hz
    clear hz nr r0
    go_wp2
    go_ret2
    exact ⟨fun h => absurd h HZ.out, fun _ => ⟨rfl, B14.out⟩⟩
end
end Go.Proofs.YtbgnjbalojcgkaaDoor
