/-
  What treenailref01.Limbs answers.
-/
import Derived.Test.YtloajnaphenbjaaGreatDoorKit0
namespace Go.Proofs.YtloajnaphenbjaaGreatDoor
open Go.RowKit
set_option linter.unusedVariables false
/-- treenailref01.Limbs. -/
theorem Limbs_any (A : Option Addr) (n c : Nat) (xs : List Int) (w : World) (h : Rd .u64 w A n xs) (hd : Dig W xs) (hnc : n ≤ c) (hc : n ≤ 17592186044416) :
    Calls Tryz.prog 38 #[.slice A n c] w fun e w' => e = .returned (.int .i64 (nl xs : Nat)) ∧ w = w' := by
  go_enter Tryz.func38, Tryz.ntmps38
  go_wp2
  go_loop [3] (fun t => LimR xs n t) (fun t => (intOf t).toNat)
  case atStart => exact ⟨n, Nat.le_refl _, fun j h1 h2 => by omega, rfl⟩
  case round =>
    obtain ⟨k, hk, hz, rfl⟩ := hrel
    have HZ := Lib.hid hz
    clear hz
    rcases Nat.eq_zero_or_pos k with h0 | h0
    · subst h0
      go_wp2
      go_ret
      exact ⟨by rw [← limbs_end h hd hk HZ.out (fun h => absurd h (by omega))]; rfl, rfl⟩
    · obtain ⟨m, rfl⟩ : ∃ m, k = m + 1 := ⟨k - 1, by omega⟩
      obtain ⟨b, off, x, rfl, hb, hx, hcell⟩ := h.at_ (j := m) (by omega)
      have HX := Lib.hid hx
      clear hx
      by_cases hx0 : x = 0
      · subst hx0
        go_wp2
        go_round
        case rel =>
          refine ⟨m, by omega, fun j h1 h2 => ?_, by go_num⟩
          rcases Nat.lt_or_ge m j with h3 | h3
          · exact HZ.out j (by omega) h2
          · obtain rfl : j = m := by omega
            rw [List.getD_eq_getElem?_getD, HX.out]; rfl
        case measure => simp [intOf]
      · have hx1 : ((x : Int) == 0) = false := by simpa using hx0
        go_wp2
        go_ret
        exact ⟨by rw [← limbs_end h hd hk HZ.out (fun _ => by rw [Nat.add_sub_cancel, List.getD_eq_getElem?_getD, HX.out]; exact hx0)]; rfl, rfl⟩
theorem Limbs_nm {A : Option Addr} {n c : Nat} {N : Int} {w : World} (h : Nm w A n c N) :
    Calls Tryz.prog 38 #[.slice A n c] w fun e w' => e = .returned (.int .i64 (dl N : Nat)) ∧ w = w' := by
  obtain ⟨⟨xs, h1, h2, h3⟩, h4, h5, h6⟩ := h
  refine (Limbs_any A n c xs w h1 h2 h4 h5).mono fun e w' ⟨he, hw⟩ => ⟨?_, hw⟩
  subst h3
  exact he
end Go.Proofs.YtloajnaphenbjaaGreatDoor
