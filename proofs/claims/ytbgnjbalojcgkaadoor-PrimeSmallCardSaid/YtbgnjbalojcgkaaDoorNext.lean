/-
  What smallNumber and checkNext answer.
-/
import Derived.Test.YtbgnjbalojcgkaaDoorStep
namespace Go.Proofs.YtbgnjbalojcgkaaDoor
open Go.RowKit
set_option linter.unusedVariables false
theorem dl_not_one {Q : Int} (h0 : 0 ≤ Q) (h : ¬ (1 ≤ Q ∧ Q < W)) : dl Q ≠ 1 := by
  intro e
  have a := (dl_iff h0 1).1 (by omega)
  have b := (dl_zero h0)
  refine h ⟨?_, by simpa [Int.pow_succ] using a⟩
  rcases Int.lt_or_eq_of_le h0 with g | g
  · omega
  · have := b.2 g.symm; omega
set_option maxHeartbeats 1000000 in
theorem smallNumber_any {w : World} {A2 : Option Addr} {n2 c2 : Nat} {Q : Int} (h2 : Nm w A2 n2 c2 Q) :
    Calls Tryd.prog 31 #[.slice A2 n2 c2] w (AnsV (.bool (sm Q)) w) := by
  have q0 := h2.pos
  by_cases hq : 1 ≤ Q ∧ Q < W
  · obtain ⟨hq1, hq2⟩ := hq
    go_enter Tryd.func31, Tryd.ntmps31
    go_wp2_with fail
    refine (norm_any h2).mono ?_
    rintro e w1 ⟨B1, m1, d1, rfl, k1, b1, -⟩
    obtain ⟨rfl, bb, oo, rfl, hb, hc⟩ := cn_one k1 hq1 hq2
    clear k1
    go_wp2_with fail
    refine (small_any Q w1 q0 hq2).mono ?_
    rintro e w2 ⟨rfl, rfl⟩
    go_wp2
    go_ret
    exact ⟨rfl, b1⟩
  · have hw : (65536 : Int) < W := by decide
    have hs : sm Q = false := sm_no fun h => hq ⟨by have := h.2.1; omega, by have := h.1; omega⟩
    clear hw
    have hd := dl_not_one q0 hq
    clear hq
    go_enter Tryd.func31, Tryd.ntmps31
    go_wp2_with fail
    refine (norm_any h2).mono ?_
    rintro e w1 ⟨B1, m1, d1, rfl, k1, b1, -⟩
    have hm : m1 ≠ 1 := by rw [k1.len_]; exact hd
    have t1 : ((m1 : Int) == 1) = false := by simp; omega
    have t2 : (m1 == 1) = false := by simp; omega
    clear k1 hd
    go_wp2
    go_ret
    exact ⟨by rw [hs]; rfl, b1⟩
theorem smallNumber_yes {w : World} {A2 : Option Addr} {n2 c2 : Nat} {Q : Int} (h2 : Nm w A2 n2 c2 Q) (h : Sm Q) :
    Calls Tryd.prog 31 #[.slice A2 n2 c2] w (AnsV (.bool true) w) := by
  have := smallNumber_any h2
  rwa [sm_yes h] at this
theorem smallNumber_no {w : World} {A2 : Option Addr} {n2 c2 : Nat} {Q : Int} (h2 : Nm w A2 n2 c2 Q) (h : ¬ Sm Q) :
    Calls Tryd.prog 31 #[.slice A2 n2 c2] w (AnsV (.bool false) w) := by
  have := smallNumber_any h2
  rwa [sm_no h] at this
theorem next_last_yes {w : World} {A2 R : Option Addr} {n2 c2 cr : Nat} {Q : Int} (h2 : Nm w A2 n2 c2 Q) (h : Sm Q) :
    Calls Tryd.prog 16 #[.slice A2 n2 c2, .slice R 0 cr] w (AnsV .nilIface w) := by
  go_enter Tryd.func16, Tryd.ntmps16
  go_wp2_with fail
  refine (smallNumber_yes h2 h).mono ?_
  rintro e w1 ⟨rfl, b1⟩
  go_wp2
  go_ret
  exact ⟨rfl, b1⟩
theorem next_last_no {w : World} {A2 R : Option Addr} {n2 c2 cr : Nat} {Q : Int} (h2 : Nm w A2 n2 c2 Q) (h : ¬ Sm Q) :
    Calls Tryd.prog 16 #[.slice A2 n2 c2, .slice R 0 cr] w (AnsV (.iface 44 (.int .i64 7)) w) := by
  go_enter Tryd.func16, Tryd.ntmps16
  go_wp2_with fail
  refine (smallNumber_no h2 h).mono ?_
  rintro e w1 ⟨rfl, b1⟩
  go_wp2
  go_ret
  exact ⟨rfl, b1⟩
section
variable {w : World} {A2 A1 : Option Addr} {n2 c2 n1 c1 nr cr b off : Nat} {Q P : Int}
set_option maxHeartbeats 1000000 in
theorem next_more_yes (h2 : Nm w A2 n2 c2 Q) (h1 : Nm w A1 n1 c1 P) (hn : 0 < nr) (hc : w.cell? ⟨b, off, none⟩ = some (.slice A1 n1 c1)) (hq : Q = P) :
    Calls Tryd.prog 16 #[.slice A2 n2 c2, .slice (some ⟨b, off, none⟩) nr cr] w (AnsV .nilIface w) := by
  have t1 : ((cmpI Q P : Int) != 0) = false := by rw [hq, cmpI_eq]; rfl
  clear hq
  go_enter Tryd.func16, Tryd.ntmps16
  go_wp2_with fail
  refine (cmp_v h2 h1).mono ?_
  rintro e w1 ⟨rfl, b1⟩
  go_wp2
  go_ret
  exact ⟨rfl, b1⟩
set_option maxHeartbeats 1000000 in
theorem next_more_no (h2 : Nm w A2 n2 c2 Q) (h1 : Nm w A1 n1 c1 P) (hn : 0 < nr) (hc : w.cell? ⟨b, off, none⟩ = some (.slice A1 n1 c1)) (hq : Q ≠ P) :
    Calls Tryd.prog 16 #[.slice A2 n2 c2, .slice (some ⟨b, off, none⟩) nr cr] w (AnsV (.iface 44 (.int .i64 7)) w) := by
  have t1 : ((cmpI Q P : Int) != 0) = true := by
    simp
    rcases Int.lt_or_gt_of_ne hq with g | g
    · rw [cmpI_lt g]; decide
    · rw [cmpI_gt g]; decide
  clear hq
  go_enter Tryd.func16, Tryd.ntmps16
  go_wp2_with fail
  refine (cmp_v h2 h1).mono ?_
  rintro e w1 ⟨rfl, b1⟩
  go_wp2
  go_ret
  exact ⟨rfl, b1⟩
end
end Go.Proofs.YtbgnjbalojcgkaaDoor
