/-
  Layer 9's light: numbers that the document's way bears, and few enough.
-/
import Derived.Test.YtkecfdeepmhggaaGreatRfo
import Derived.Deep.RegionLaw
namespace Go.Proofs.YtkecfdeepmhggaaGreat
open Go.RowKit
set_option linter.unusedVariables false
/-- Numbers that the document's way bears. -/
def LiN9 (S : Nat → Nsl) (n : Nat) : Prop := ∀ i, i < n → Li (S i).n (S i).N
def Lt9 (S : Nat → Nsl) (n : Nat) : Prop := (n ≤ 6 ∨ 32 < n) ∧ n ≤ 40 ∧ LiN9 S n
def LtR9 (S : Nat → Nsl) (n : Nat) (w : World) (i : Value) (wr : World) : Prop := ∃ k : Nat, k ≤ n ∧ i = .int .i64 k ∧ (∀ j, j < k → Li (S j).n (S j).N) ∧ w = wr
set_option maxHeartbeats 4000000 in
theorem light9_any {w : World} {A : Option Addr} {n c : Nat} {S : Nat → Nsl} (hl : Ns w A n c S) : Calls Tryz.prog 8 #[.slice A n c] w fun e w' => (∃ s : Bool, e = .returned (.bool s) ∧ (s = true ↔ Lt9 S n)) ∧ w = w' := by
  have HL := Lib.hid hl
  have h60 := hl.c60
  clear hl
  go_enter Tryz.func8, Tryz.ntmps8
  rcases Nat.lt_or_ge 40 n with g40 | g40
  · have d1 : decide ((6 : Int) < (n : Int)) = true := by simp; omega
    have d2 : decide ((n : Int) ≤ 32) = false := by simp; omega
    have d3 : decide ((40 : Int) < (n : Int)) = true := by simp; omega
    go_wp2_with fail
    go_ret
    exact ⟨⟨false, rfl, fun h => (by cases h), fun h => (by have h1 := h.1; have h2 := h.2.1; omega)⟩, rfl⟩
  have d3 : decide ((40 : Int) < (n : Int)) = false := by simp; omega
  rcases Classical.em (6 < n ∧ n ≤ 32) with g6 | g6
  · have d1 : decide ((6 : Int) < (n : Int)) = true := by simp; omega
    have d2 : decide ((n : Int) ≤ 32) = true := by simp; omega
    go_wp2_with fail
    go_ret
    exact ⟨⟨false, rfl, fun h => (by cases h), fun h => (by have h1 := h.1; have h2 := h.2.1; omega)⟩, rfl⟩
  have FW : n ≤ 6 ∨ 32 < n := by omega
  clear g6
  rcases Nat.lt_or_ge 6 n with g6 | g6
  · have d1 : decide ((6 : Int) < (n : Int)) = true := by simp; omega
    have d2 : decide ((n : Int) ≤ 32) = false := by simp; omega
    clear g6
    go_wp2_with fail
    go_loopw [3] (fun i wr => LtR9 S n w i wr) (fun i _ => n - (intOf i).toNat)
    case atStart => exact ⟨0, Nat.zero_le _, rfl, fun j h => absurd h (Nat.not_lt_zero j), rfl⟩
    case round =>
      obtain ⟨k, hk, rfl, hz, rfl⟩ := hrel
      have HZ := Lib.hid hz
      clear hz
      rcases Nat.lt_or_ge k n with hlt | hge
      · have hkn : (k : Int) < (n : Int) := by omega
        obtain ⟨b, off, eA, hb, hc⟩ := HL.out.ex (by omega)
        subst eA
        have hck := hc k hlt
        have HN := Lib.hid (HL.out.at_ k hlt)
        have h6 := (HL.out.at_ k hlt).c60
        obtain ⟨s, hs⟩ : ∃ s, S k = s := ⟨_, rfl⟩
        have HSK := Lib.hid hs
        rw [hs] at hck HN h6
        obtain ⟨Aj, nj, cj, Nj⟩ := s
        simp only at hck HN h6
        obtain ⟨q, hq⟩ : ∃ q, dl Nj = q := ⟨_, rfl⟩
        have HQ := Lib.hid hq
        have q6 : q ≤ 17592186044416 := by have := HN.out.dl_le; omega
        clear hc hs hq
        have no : ¬ Li nj Nj → ¬ Lt9 S n := fun g e => by have h := e.2.2 k hlt; rw [HSK.out] at h; exact g h
        have NO := Lib.hid no
        clear no
        go_wp2_with fail
        refine (Limbs_nm HN.out).mono ?_
        rintro e w1 ⟨rfl, rfl⟩
        rw [HQ.out]
        rcases Nat.lt_or_ge 300 nj with g | g
        · have e1 : decide ((300 : Int) < (nj : Int)) = true := by simp; omega
          go_wp2_with fail
          go_ret
          exact ⟨⟨false, rfl, fun h => (by cases h), fun h => absurd h (NO.out fun l => by have := l.1; omega)⟩, rfl⟩
        have e1 : decide ((300 : Int) < (nj : Int)) = false := by simp; omega
        rcases Nat.lt_or_ge 6 q with g2 | g2
        · have e2 : decide ((6 : Int) < (q : Int)) = true := by simp; omega
          rcases Nat.lt_or_ge 64 q with g3 | g3
          · have e3 : decide ((q : Int) ≤ 64) = false := by simp; omega
            go_wp2_with fail
            go_roundw
            case rel =>
              refine ⟨k + 1, by omega, by go_num, fun j hj => ?_, rfl⟩
              rcases Nat.lt_or_ge j k with p | p
              · exact HZ.out j p
              · obtain rfl : j = k := by omega
                rw [HSK.out]
                exact ⟨g, .inr (by rw [HQ.out]; exact g3)⟩
            case measure => simp [intOf]; omega
          · have e3 : decide ((q : Int) ≤ 64) = true := by simp; omega
            go_wp2_with fail
            go_ret
            exact ⟨⟨false, rfl, fun h => (by cases h), fun h => absurd h (NO.out fun l => by have := l.2; rw [HQ.out] at this; omega)⟩, rfl⟩
        · have e2 : decide ((6 : Int) < (q : Int)) = false := by simp; omega
          go_wp2_with fail
          go_roundw
          case rel =>
            refine ⟨k + 1, by omega, by go_num, fun j hj => ?_, rfl⟩
            rcases Nat.lt_or_ge j k with p | p
            · exact HZ.out j p
            · obtain rfl : j = k := by omega
              rw [HSK.out]
              exact ⟨g, .inl (by rw [HQ.out]; exact g2)⟩
          case measure => simp [intOf]; omega
      · obtain rfl : k = n := by omega
        have hkn : decide ((k : Int) < (k : Int)) = false := by simp
        go_wp2_with fail
        go_ret
        exact ⟨⟨true, rfl, fun _ => ⟨FW, g40, HZ.out⟩, fun _ => rfl⟩, rfl⟩
  · have d1 : decide ((6 : Int) < (n : Int)) = false := by simp; omega
    clear g6
    go_wp2_with fail
    go_loopw [3] (fun i wr => LtR9 S n w i wr) (fun i _ => n - (intOf i).toNat)
    case atStart => exact ⟨0, Nat.zero_le _, rfl, fun j h => absurd h (Nat.not_lt_zero j), rfl⟩
    case round =>
      obtain ⟨k, hk, rfl, hz, rfl⟩ := hrel
      have HZ := Lib.hid hz
      clear hz
      rcases Nat.lt_or_ge k n with hlt | hge
      · have hkn : (k : Int) < (n : Int) := by omega
        obtain ⟨b, off, eA, hb, hc⟩ := HL.out.ex (by omega)
        subst eA
        have hck := hc k hlt
        have HN := Lib.hid (HL.out.at_ k hlt)
        have h6 := (HL.out.at_ k hlt).c60
        obtain ⟨s, hs⟩ : ∃ s, S k = s := ⟨_, rfl⟩
        have HSK := Lib.hid hs
        rw [hs] at hck HN h6
        obtain ⟨Aj, nj, cj, Nj⟩ := s
        simp only at hck HN h6
        obtain ⟨q, hq⟩ : ∃ q, dl Nj = q := ⟨_, rfl⟩
        have HQ := Lib.hid hq
        have q6 : q ≤ 17592186044416 := by have := HN.out.dl_le; omega
        clear hc hs hq
        have no : ¬ Li nj Nj → ¬ Lt9 S n := fun g e => by have h := e.2.2 k hlt; rw [HSK.out] at h; exact g h
        have NO := Lib.hid no
        clear no
        go_wp2_with fail
        refine (Limbs_nm HN.out).mono ?_
        rintro e w1 ⟨rfl, rfl⟩
        rw [HQ.out]
        rcases Nat.lt_or_ge 300 nj with g | g
        · have e1 : decide ((300 : Int) < (nj : Int)) = true := by simp; omega
          go_wp2_with fail
          go_ret
          exact ⟨⟨false, rfl, fun h => (by cases h), fun h => absurd h (NO.out fun l => by have := l.1; omega)⟩, rfl⟩
        have e1 : decide ((300 : Int) < (nj : Int)) = false := by simp; omega
        rcases Nat.lt_or_ge 6 q with g2 | g2
        · have e2 : decide ((6 : Int) < (q : Int)) = true := by simp; omega
          rcases Nat.lt_or_ge 64 q with g3 | g3
          · have e3 : decide ((q : Int) ≤ 64) = false := by simp; omega
            go_wp2_with fail
            go_roundw
            case rel =>
              refine ⟨k + 1, by omega, by go_num, fun j hj => ?_, rfl⟩
              rcases Nat.lt_or_ge j k with p | p
              · exact HZ.out j p
              · obtain rfl : j = k := by omega
                rw [HSK.out]
                exact ⟨g, .inr (by rw [HQ.out]; exact g3)⟩
            case measure => simp [intOf]; omega
          · have e3 : decide ((q : Int) ≤ 64) = true := by simp; omega
            go_wp2_with fail
            go_ret
            exact ⟨⟨false, rfl, fun h => (by cases h), fun h => absurd h (NO.out fun l => by have := l.2; rw [HQ.out] at this; omega)⟩, rfl⟩
        · have e2 : decide ((6 : Int) < (q : Int)) = false := by simp; omega
          go_wp2_with fail
          go_roundw
          case rel =>
            refine ⟨k + 1, by omega, by go_num, fun j hj => ?_, rfl⟩
            rcases Nat.lt_or_ge j k with p | p
            · exact HZ.out j p
            · obtain rfl : j = k := by omega
              rw [HSK.out]
              exact ⟨g, .inl (by rw [HQ.out]; exact g2)⟩
          case measure => simp [intOf]; omega
      · obtain rfl : k = n := by omega
        have hkn : decide ((k : Int) < (k : Int)) = false := by simp
        go_wp2_with fail
        go_ret
        exact ⟨⟨true, rfl, fun _ => ⟨FW, g40, HZ.out⟩, fun _ => rfl⟩, rfl⟩
end Go.Proofs.YtkecfdeepmhggaaGreat
