/-
  What treenailref01.Same answers of two lists that are the same, and what copied makes.
-/
import Derived.Test.YtloajnaphenbjaaGreatDoorNm
import Derived.Deep.QuietTactic
import Derived.BigQuiet
namespace Go.Proofs.YtloajnaphenbjaaGreatDoor
open Go.RowKit
set_option linter.unusedVariables false
def SameR (n : Nat) (w : World) (i : Value) (wr : World) : Prop := ∃ k : Nat, k ≤ n ∧ i = .int .i64 k ∧ ∃ q, wr = w.drewN q
def AnsB (b : Bool) (w : World) (e : Ending) (w' : World) : Prop := e = .returned (.bool b) ∧ ∃ q, w' = w.drewN q
set_option maxHeartbeats 400000 in
theorem same_yes {A A' : Option Addr} {n c c' : Nat} {xs : List Int} {w : World} (h : Rd .u64 w A n xs) (h' : Rd .u64 w A' n xs) (hn : n ≤ 17592186044416) :
    Calls Tryz.prog 11 #[.slice A n c, .slice A' n c'] w (AnsB true w) := by
  have hq : ((n : Int) != (n : Int)) = false := by simp
  go_enter Tryz.func11, Tryz.ntmps11
  go_wp2_with fail
  go_loopw [5] (fun i wr => SameR n w i wr) (fun i _ => n - (intOf i).toNat)
  case atStart => exact ⟨0, Nat.zero_le _, rfl, 0, rfl⟩
  case round =>
    obtain ⟨k, hk, rfl, q, rfl⟩ := hrel
    rcases Nat.lt_or_ge k n with hlt | hge
    · obtain ⟨b, off, x, rfl, hb, hx, hcell⟩ := h.at_ hlt
      obtain ⟨b', off', y, rfl, hb', hy, hcell'⟩ := h'.at_ hlt
      obtain rfl : x = y := by rw [hx] at hy; injection hy
      have hne : ((x : Int) != x) = false := by simp
      have hkn : (k : Int) < (n : Int) := by omega
      clear hx hy
      go_wp2_with fail
      go_quiet (fail)
      go_wp2
      go_roundw
      case rel => exact ⟨k + 1, by omega, by go_num, _, rfl⟩
      case measure => simp [intOf]; omega
    · obtain rfl : k = n := by omega
      go_wp2
      go_ret
      exact ⟨rfl, q, rfl⟩
end Go.Proofs.YtloajnaphenbjaaGreatDoor
