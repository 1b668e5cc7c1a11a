/-
  What mont.New and Modulus answer.
-/
import Derived.Test.YtloajnaphenbjaaGreatDoorNew
namespace Go.Proofs.YtloajnaphenbjaaGreatDoor
open Go.RowKit
set_option linter.unusedVariables false
theorem nb_iff {N : Int} (h : 0 ≤ N) (k : Nat) : nb N ≤ k ↔ N < 2 ^ k := ⟨fun g => dg_lt_pow (by decide) h g, fun g => dg_len_le (by decide) h g⟩
theorem dl_iff {N : Int} (h : 0 ≤ N) (k : Nat) : dl N ≤ k ↔ N < W ^ k := ⟨fun g => lt_dl h g, fun g => dl_le h g⟩
theorem nb_dl {N : Int} (h : 0 ≤ N) (k : Nat) : nb N ≤ 64 * k ↔ dl N ≤ k := by rw [nb_iff h, dl_iff h, W_pow]
theorem nb_two {N : Int} (h : 0 ≤ N) : 2 ≤ nb N ↔ 2 ≤ N := by
  have := nb_iff h 1
  have e : (2 : Int) ^ 1 = 2 := rfl
  rw [e] at this
  omega
theorem bt_zero (N : Int) : bt N 0 = decide (N % 2 = 1) := by
  unfold bt; simp
/-- What reckons modulo m was answered, in new memory. -/
def MkP (m : Int) (n : Nat) (w : World) (e : Ending) (w' : World) : Prop :=
  ∃ b A c low B cB S cS, e = .returned (.tuple #[.pointer (some ⟨b, 0, none⟩), .nilIface]) ∧ Md w' b m n A c low B cB S cS ∧ Below w.heap.size w w' ∧
    w.heap.size ≤ b ∧ (∀ a, A = some a → w.heap.size ≤ a.block) ∧ (∀ a, B = some a → w.heap.size ≤ a.block) ∧ ∀ a, S = some a → w.heap.size ≤ a.block
/-- 'nil, err' was answered, err a Code. -/
def MkE (code : Int) (w : World) (e : Ending) (w' : World) : Prop :=
  e = .returned (.tuple #[.pointer none, .iface 39 (.int .i64 code)]) ∧ Below w.heap.size w w'
theorem new_long {A : Option Addr} {n c : Nat} {N : Int} {w : World} (h : Nm w A n c N) (hl : 32 < dl N) :
    Calls Tryz.prog 31 #[.slice A n c] w (MkE 2 w) := by
  have g : decide ((2048 : Int) < (nb N : Int)) = true := by
    have := nb_dl h.pos 32
    simp; omega
  go_enter Tryz.func31, Tryz.ntmps31
  go_wp2_with fail
  refine (bits_any h).mono ?_
  rintro e w1 ⟨rfl, rfl⟩
  go_wp2
  go_ret2
  exact ⟨rfl, Below.refl _ _⟩
theorem new_even {A : Option Addr} {n c : Nat} {N : Int} {w : World} (h : Nm w A n c N) (hl : dl N ≤ 32) (he : N % 2 = 0 ∨ N < 3) :
    Calls Tryz.prog 31 #[.slice A n c] w (MkE 5 w) := by
  have g : decide ((2048 : Int) < (nb N : Int)) = false := by
    have := nb_dl h.pos 32
    simp; omega
  have hpos := h.pos
  by_cases g0 : N % 2 = 0
  · have g1 : bt N 0 = false := by rw [bt_zero]; simp; omega
    clear he
    go_enter Tryz.func31, Tryz.ntmps31
    go_wp2_with fail
    refine (bits_any h).mono ?_
    rintro e w1 ⟨rfl, rfl⟩
    go_wp2_with fail
    refine (bit_any h 0 (by decide)).mono ?_
    rintro e w1 ⟨rfl, rfl⟩
    go_wp2
    go_ret2
    exact ⟨rfl, Below.refl _ _⟩
  · have g1 : bt N 0 = true := by rw [bt_zero]; simp; omega
    have g2 : decide ((nb N : Int) < 2) = true := by
      have := nb_two h.pos
      simp; omega
    clear he
    go_enter Tryz.func31, Tryz.ntmps31
    go_wp2_with fail
    refine (bits_any h).mono ?_
    rintro e w1 ⟨rfl, rfl⟩
    go_wp2_with fail
    refine (bit_any h 0 (by decide)).mono ?_
    rintro e w1 ⟨rfl, rfl⟩
    go_wp2_with fail
    refine (bits_any h).mono ?_
    rintro e w1 ⟨rfl, rfl⟩
    go_wp2
    go_ret2
    exact ⟨rfl, Below.refl _ _⟩
set_option maxHeartbeats 1000000 in
theorem new_any {A : Option Addr} {n c : Nat} {N : Int} {w : World} (h : Nm w A n c N) (hl : dl N ≤ 32) (odd : N % 2 = 1) (h3 : 3 ≤ N) :
    Calls Tryz.prog 31 #[.slice A n c] w (MkP N (dl N) w) := by
  have g : decide ((2048 : Int) < (nb N : Int)) = false := by
    have := nb_dl h.pos 32
    simp; omega
  have g1 : bt N 0 = true := by rw [bt_zero]; simp; omega
  have g2 : decide ((nb N : Int) < 2) = false := by
    have := nb_two h.pos
    simp; omega
  have HO := Lib.hid odd
  clear odd
  go_enter Tryz.func31, Tryz.ntmps31
  go_wp2_with fail
  refine (bits_any h).mono ?_
  rintro e w1 ⟨rfl, rfl⟩
  go_wp2_with fail
  refine (bit_any h 0 (by decide)).mono ?_
  rintro e w1 ⟨rfl, rfl⟩
  go_wp2_with fail
  refine (bits_any h).mono ?_
  rintro e w1 ⟨rfl, rfl⟩
  go_wp2_with fail
  refine (norm_any h).mono ?_
  rintro e w1 ⟨B1, n1, c1, rfl, k1, b1, hn1⟩
  obtain rfl := k1.len_
  have HN1 := Lib.hid hn1
  clear hn1
  go_wp2_with fail
  refine (newModulus_any k1 HO.out h3 hl).mono ?_
  rintro e w2 ⟨low, B, cB, S, cS, rfl, l0, l1, hlow, hB, hS, b2, nB, nS⟩
  have HLOW := Lib.hid hlow
  have HNB := Lib.hid nB
  have HNS := Lib.hid nS
  clear hlow nB nS
  go_wp2
  go_ret2
  have b3 := b1.trans (b2.mono b1.size)
  have ba : Below w2.heap.size w2 (w2.alloc (.cells #[.slice B1 (dl N) c1, .int .u64 low, .slice B (dl N) cB, .slice S (dl N) cS] 91)) := (Below.refl _ _).alloc (Nat.le_refl _) _
  have s1 := b1.size
  have s2 := b2.size
  refine ⟨w2.heap.size, B1, c1, low, B, cB, S, cS, rfl, ⟨by simp, ?_, ?_, ?_, ?_, (k1.below b2).alloc _, l0, l1, HLOW.out, hB.alloc _, hS.alloc _, HO.out, h3, hl⟩, b3.alloc b3.size _, by omega, HN1.out, fun a ha => by have := HNB.out a ha; omega, fun a ha => by have := HNS.out a ha; omega⟩
  all_goals simp [go_sem]
end Go.Proofs.YtloajnaphenbjaaGreatDoor
