/-
  The document's layer 7: what Long, Longs, Fits and Odd answer.
-/
import Derived.Test.YtpmnghealjgkeaaGreatMxx
import Derived.Test.YtpmnghealjgkeaaGreatR4
import Derived.Test.YtpmnghealjgkeaaGreatPkf
import Derived.Test.YtpmnghealjgkeaaGreatDoc
namespace Go.Proofs.YtpmnghealjgkeaaGreat
open Go.RowKit
set_option linter.unusedVariables false
section
variable {w : World} {A : Option Addr} {n c : Nat} {S : Nat → Nsl} {N : Int}
theorem long7_any (h : Nm w A n c N) : Calls Tryz.prog 69 #[.slice A n c] w fun e w' => e = .returned (.bool (decide (64 < dl N))) ∧ w = w' := by
  have HN := Lib.hid h
  clear h
  go_enter Tryz.func69, Tryz.ntmps69
  go_wp2_with fail
  refine (Limbs_nm HN.out).mono ?_
  rintro e w1 ⟨rfl, rfl⟩
  obtain ⟨q, hq⟩ : ∃ q, dl N = q := ⟨_, rfl⟩
  rw [hq]
  rcases Nat.lt_or_ge 64 q with g | g
  · have e1 : decide ((64 : Int) < (q : Int)) = true := by simp; omega
    have e2 : decide (64 < q) = true := by simp; omega
    go_wp2_with fail
    go_ret
    exact ⟨by rw [hq, e2]; rfl, rfl⟩
  · have e1 : decide ((64 : Int) < (q : Int)) = false := by simp; omega
    have e2 : decide (64 < q) = false := by simp; omega
    go_wp2_with fail
    go_ret
    exact ⟨by rw [hq, e2]; rfl, rfl⟩
def LgR (S : Nat → Nsl) (n : Nat) (w : World) (i : Value) (wr : World) : Prop := ∃ k : Nat, k ≤ n ∧ i = .int .i64 k ∧ (∀ j, j < k → dl (S j).N ≤ 64) ∧ w = wr
set_option maxHeartbeats 2000000 in
theorem longs7_any (hl : Ns w A n c S) : Calls Tryz.prog 50 #[.slice A n c] w fun e w' => (∃ s : Bool, e = .returned (.bool s) ∧ (s = true ↔ LgS S n)) ∧ w = w' := by
  have HL := Lib.hid hl
  have h60 := hl.c60
  clear hl
  go_enter Tryz.func50, Tryz.ntmps50
  go_wp2_with fail
  go_loopw [3] (fun i wr => LgR S n w i wr) (fun i _ => n - (intOf i).toNat)
  case atStart => exact ⟨0, Nat.zero_le _, rfl, fun j h => absurd h (Nat.not_lt_zero j), rfl⟩
  case round =>
    obtain ⟨k, hk, rfl, hz, rfl⟩ := hrel
    have HZ := Lib.hid hz
    clear hz
    rcases Nat.lt_or_ge k n with hlt | hge
    · have hkn : (k : Int) < (n : Int) := by omega
      obtain ⟨b, off, eA, hb, hc⟩ := HL.out.ex (by omega)
      subst eA
      have hck := hc k hlt
      have HN := Lib.hid (HL.out.at_ k hlt)
      clear hc
      go_wp2_with fail
      refine (long7_any HN.out).mono ?_
      rintro e w1 ⟨rfl, rfl⟩
      rcases Nat.lt_or_ge 64 (dl (S k).N) with g | g
      · have e2 : decide (64 < dl (S k).N) = true := by simp; omega
        go_wp2_with fail
        go_ret
        exact ⟨⟨true, rfl, fun _ => ⟨k, hlt, g⟩, fun _ => rfl⟩, rfl⟩
      · have e2 : decide (64 < dl (S k).N) = false := by simp; omega
        go_wp2_with fail
        go_roundw
        case rel =>
          refine ⟨k + 1, by omega, by go_num, fun j hj => ?_, rfl⟩
          rcases Nat.lt_or_ge j k with q | q
          · exact HZ.out j q
          · obtain rfl : j = k := by omega
            exact g
        case measure => simp [intOf]; omega
    · obtain rfl : k = n := by omega
      have hkn : decide ((k : Int) < (k : Int)) = false := by simp
      go_wp2_with fail
      go_ret
      exact ⟨⟨false, rfl, fun h => (by cases h), fun ⟨i, h1, h2⟩ => by have := HZ.out i h1; omega⟩, rfl⟩
theorem fits7_any (a b : Nat) (ha : a ≤ 17592186044416) (hb : b ≤ 17592186044416) (w : World) : Calls Tryz.prog 49 #[.int .i64 (a : Int), .int .i64 (b : Int)] w fun e w' => (∃ s : Bool, e = .returned (.bool s) ∧ (s = true ↔ (1 ≤ a ∧ a ≤ 32 ∧ a = b))) ∧ w = w' := by
  rcases Nat.lt_or_ge a 1 with g | g
  · have e1 : decide ((1 : Int) ≤ (a : Int)) = false := by simp; omega
    go_enter Tryz.func49, Tryz.ntmps49
    go_wp2_with fail
    go_ret
    exact ⟨⟨false, rfl, fun h => (by cases h), fun h => by omega⟩, rfl⟩
  have e1 : decide ((1 : Int) ≤ (a : Int)) = true := by simp; omega
  rcases Nat.lt_or_ge 32 a with g2 | g2
  · have e2 : decide ((a : Int) ≤ 32) = false := by simp; omega
    go_enter Tryz.func49, Tryz.ntmps49
    go_wp2_with fail
    go_ret
    exact ⟨⟨false, rfl, fun h => (by cases h), fun h => by omega⟩, rfl⟩
  have e2 : decide ((a : Int) ≤ 32) = true := by simp; omega
  by_cases g3 : a = b
  · subst g3
    have e3 : ((a : Int) == (a : Int)) = true := by simp
    go_enter Tryz.func49, Tryz.ntmps49
    go_wp2_with fail
    go_ret
    exact ⟨⟨true, rfl, fun _ => ⟨g, g2, by trivial⟩, fun _ => rfl⟩, rfl⟩
  · have e3 : ((a : Int) == (b : Int)) = false := by simp; omega
    go_enter Tryz.func49, Tryz.ntmps49
    go_wp2_with fail
    go_ret
    exact ⟨⟨false, rfl, fun h => (by cases h), fun h => by omega⟩, rfl⟩
end
end Go.Proofs.YtpmnghealjgkeaaGreat
