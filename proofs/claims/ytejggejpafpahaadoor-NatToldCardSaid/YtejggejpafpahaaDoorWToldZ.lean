/-
  The walk of NatTold: all its cases.
-/
import Derived.Test.YtejggejpafpahaaDoorWTold
namespace Go.Proofs.YtejggejpafpahaaDoor
open Go.RowKit
set_option linter.unusedVariables false
set_option maxHeartbeats 4000000 in
set_option maxRecDepth 100000 in
theorem told_big {A A' : Option Addr} {n c n' c' : Nat} {w : World} (h : 60 < n ∨ 60 < n') (i : Int) :
    Calls Tryd.prog 3 #[.slice A n c, .slice A' n' c', .int .i64 i] w fun e w' => e = .returned (.bool true) ∧ Below w.heap.size w w' := by
  rcases Nat.lt_or_ge 60 n with g | g
  · have g1 : (60 : Int) < (n : Int) := by omega
    clear h
    go_enter Tryd.func3, Tryd.ntmps3
    go_wp2_with fail
    refine (up_v _).mono ?_
    rintro e w1 ⟨rfl, b1⟩
    have BB := Lib.hid b1
    go_wp2
    go_ret
    exact ⟨rfl, BB.out⟩
  · have g1 : ¬ (60 : Int) < (n : Int) := by omega
    have g2 : (60 : Int) < (n' : Int) := by omega
    clear h
    go_enter Tryd.func3, Tryd.ntmps3
    go_wp2_with fail
    refine (up_v _).mono ?_
    rintro e w1 ⟨rfl, b1⟩
    have BB := Lib.hid b1
    go_wp2
    go_ret
    exact ⟨rfl, BB.out⟩
theorem natTold_walk {A A' : Option Addr} {n c n' c' : Nat} {xs ys : List Int} {w : World} (ha : Told w A n c xs) (hb : Told w A' n' c' ys) (i : Int) (hi : -9223372036854775808 ≤ i ∧ i ≤ 9223372036854775807) (hg : Et w) :
    Calls Tryd.prog 3 #[.slice A n c, .slice A' n' c', .int .i64 i] w fun e w' => e = .returned (.bool true) ∧ Below w.heap.size w w' := by
  by_cases h : 60 < n ∨ 60 < n'
  · exact told_big h i
  · have h1 : n ≤ 60 := by omega
    have h2 : n' ≤ 60 := by omega
    have h0 := ha.nm.pos
    rcases Int.lt_or_le 0 (val W xs) with hN | hN
    · rcases Int.lt_or_le i 0 with hs | hs
      · exact told_pn ⟨ha, rfl⟩ ⟨hb, rfl⟩ h1 h2 i hi hs hN hg
      · exact told_pp ⟨ha, rfl⟩ ⟨hb, rfl⟩ h1 h2 i hi hs hN hg
    · have hz : val W xs = 0 := by omega
      rcases Int.lt_or_le i 0 with hs | hs
      · exact told_zn ⟨ha, hz⟩ ⟨hb, rfl⟩ h1 h2 i hi hs hg
      · exact told_zp ⟨ha, hz⟩ ⟨hb, rfl⟩ h1 h2 i hi hs hg
end Go.Proofs.YtejggejpafpahaaDoor
