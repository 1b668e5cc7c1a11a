/-
  What the small calls of package nat answer: limbs, tooLong, limbAt.
-/
import Derived.Test.YtloajnaphenbjaaGreatDoorMem
import Derived.Test.YtloajnaphenbjaaGreatDoorVal
namespace Go.Proofs.YtloajnaphenbjaaGreatDoor
open Go.RowKit

/-- 2 to the 64. -/
def W : Int := 18446744073709551616
theorem W_two : 2 ≤ W := by decide
/-- How many digits count. -/
def nl (xs : List Int) : Nat := (dg W (val W xs)).length

def LimR (xs : List Int) (n : Nat) (t : Value) : Prop := ∃ k : Nat, k ≤ n ∧ (∀ j, k ≤ j → j < n → xs.getD j 0 = 0) ∧ t = .int .i64 k

theorem limbs_end {A : Option Addr} {n k : Nat} {xs : List Int} {w : World} (h : Rd .u64 w A n xs) (hd : Dig W xs) (hk : k ≤ n) (hz : ∀ j, k ≤ j → j < n → xs.getD j 0 = 0) (hl : 0 < k → xs.getD (k - 1) 0 ≠ 0) : k = nl xs := by
  have hn := h.len
  subst hn
  exact (strip W_two hd hk hz hl).2

set_option maxHeartbeats 400000 in
theorem limbs_any (A : Option Addr) (n c : Nat) (xs : List Int) (w : World) (h : Rd .u64 w A n xs) (hd : Dig W xs) (hnc : n ≤ c) (hc : n ≤ 17592186044416) :
    Calls Tryz.prog 61 #[.slice A n c] w fun e w' => e = .returned (.slice A (nl xs) c) ∧ w = w' := by
  go_enter Tryz.func61, Tryz.ntmps61
  go_wp2
  go_loop [3] (fun t => LimR xs n t) (fun t => (intOf t).toNat)
  case atStart => exact ⟨n, Nat.le_refl _, fun j h1 h2 => by omega, rfl⟩
  case round =>
    obtain ⟨k, hk, hz, rfl⟩ := hrel
    have HZ := Lib.hid hz
    clear hz
    rcases Nat.eq_zero_or_pos k with h0 | h0
    · subst h0
      go_wp2
      go_ret
      exact ⟨by rw [← limbs_end h hd hk HZ.out (fun h => absurd h (by omega))]; rfl, rfl⟩
    · obtain ⟨m, rfl⟩ : ∃ m, k = m + 1 := ⟨k - 1, by omega⟩
      obtain ⟨b, off, x, rfl, hb, hx, hcell⟩ := h.at_ (j := m) (by omega)
      have HX := Lib.hid hx
      clear hx
      by_cases hx0 : x = 0
      · subst hx0
        go_wp2
        go_round
        case rel =>
          refine ⟨m, by omega, fun j h1 h2 => ?_, by go_num⟩
          rcases Nat.lt_or_ge m j with h3 | h3
          · exact HZ.out j (by omega) h2
          · obtain rfl : j = m := by omega
            rw [List.getD_eq_getElem?_getD, HX.out]; rfl
        case measure => simp [intOf]
      · have hx1 : ((x : Int) == 0) = false := by simpa using hx0
        go_wp2
        go_ret
        exact ⟨by rw [← limbs_end h hd hk HZ.out (fun _ => by rw [Nat.add_sub_cancel, List.getD_eq_getElem?_getD, HX.out]; exact hx0)]; rfl, rfl⟩

theorem tooLong_no (A A' : Option Addr) (n c n' c' : Nat) (w : World) (h : n ≤ 64) (h' : n' ≤ 64) :
    Calls Tryz.prog 82 #[.slice A n c, .slice A' n' c'] w fun e w' => e = .returned (.bool false) ∧ w = w' := by
  go_enter Tryz.func82, Tryz.ntmps82
  go_wp2
  go_ret
  exact ⟨by simp; omega, rfl⟩

theorem tooLong_yes (A A' : Option Addr) (n c n' c' : Nat) (w : World) (h : 64 < n ∨ 64 < n') :
    Calls Tryz.prog 82 #[.slice A n c, .slice A' n' c'] w fun e w' => e = .returned (.bool true) ∧ w = w' := by
  by_cases h1 : 64 < n
  · clear h
    go_enter Tryz.func82, Tryz.ntmps82
    go_wp2
    go_ret
    exact ⟨by simp, rfl⟩
  · have h2 : 64 < n' := by omega
    clear h
    go_enter Tryz.func82, Tryz.ntmps82
    go_wp2
    go_ret
    exact ⟨by simp; omega, rfl⟩

theorem dig_W {xs : List Int} (h : Dig W xs) (i : Nat) : 0 ≤ dig xs i ∧ dig xs i < 18446744073709551616 := dig_bd (by decide) h i

theorem limbAt_any (A : Option Addr) (n c : Nat) (xs : List Int) (i : Nat) (w : World) (h : Rd .u64 w A n xs) :
    Calls Tryz.prog 84 #[.slice A n c, .int .i64 i] w fun e w' => e = .returned (.int .u64 (dig xs i)) ∧ w = w' := by
  rcases Nat.lt_or_ge i n with hlt | hge
  · obtain ⟨b, off, x, rfl, hb, hx, hcell⟩ := h.at_ hlt
    rw [dig_lt hx]
    clear hx h
    go_enter Tryz.func84, Tryz.ntmps84
    go_wp2
    go_ret
    exact ⟨rfl, rfl⟩
  · rw [dig_ge (by rw [h.len]; exact hge)]
    clear h
    go_enter Tryz.func84, Tryz.ntmps84
    go_wp2
    go_ret
    exact ⟨rfl, rfl⟩
end Go.Proofs.YtloajnaphenbjaaGreatDoor
