/-
  How many bits a number has, and which: what they say of its size. No call is spoken of here.
-/
import Derived.Test.YtloajnaphenbjaaGreatDoorBit
namespace Go.Proofs.YtloajnaphenbjaaGreatDoor
open Go.RowKit
set_option linter.unusedVariables false
theorem nb_lt {N : Int} (h : 0 ≤ N) : N < 2 ^ nb N := dg_lt_pow (by decide) h (Nat.le_refl _)
theorem nb_ge {N : Int} (h : 0 < N) : 0 < nb N ∧ 2 ^ (nb N - 1) ≤ N := by
  have h0 : nb N ≠ 0 := fun e => by have := (dg_nil_iff (b := 2) (by decide) (show 0 ≤ N by omega)).1 e; omega
  refine ⟨by omega, ?_⟩
  rcases Int.lt_or_le N (2 ^ (nb N - 1)) with g | g
  · have := dg_len_le (b := 2) (by decide) (show 0 ≤ N by omega) g
    have e : (dg 2 N).length = nb N := rfl
    omega
  · exact g
theorem bt_top {N : Int} (h : 0 < N) : bt N ((nb N : Int) - 1) = true := by
  obtain ⟨h0, h1⟩ := nb_ge h
  have h2 := nb_lt (show 0 ≤ N by omega)
  unfold bt
  have e : ((nb N : Int) - 1).toNat = nb N - 1 := by omega
  rw [e]
  have e2 : (2 : Int) ^ nb N = 2 ^ (nb N - 1) * 2 := by
    have : nb N = (nb N - 1) + 1 := by omega
    conv => lhs; rw [this, Int.pow_add]
    rfl
  have hp : (0 : Int) < 2 ^ (nb N - 1) := Int.pow_pos (by decide)
  have q : N / 2 ^ (nb N - 1) = 1 := by
    have a1 : N / 2 ^ (nb N - 1) < 2 := Int.ediv_lt_of_lt_mul hp (by omega)
    have a2 : 1 ≤ N / 2 ^ (nb N - 1) := Int.le_ediv_of_mul_le hp (by omega)
    omega
  rw [q]; simp; omega
theorem bt_past {N : Int} (h : 0 ≤ N) {i : Int} (hi : (nb N : Int) ≤ i) : bt N i = false := by
  unfold bt
  have h2 := nb_lt h
  have q : N / 2 ^ i.toNat = 0 := Int.ediv_eq_zero_of_lt h (Int.lt_of_lt_of_le h2 (pow_mono (by decide) (by omega)))
  rw [q]; simp
theorem half_step {N : Int} {j : Nat} : N / 2 ^ j = 2 * (N / 2 ^ (j + 1)) + N / 2 ^ j % 2 := by
  have e : (2 : Int) ^ (j + 1) = 2 ^ j * 2 := Int.pow_succ _ _
  rw [e, ← Int.ediv_ediv_of_nonneg (Int.le_of_lt (Int.pow_pos (by decide)))]
  omega
theorem bt_val {N : Int} {j : Nat} : N / 2 ^ j % 2 = if bt N j = true then 1 else 0 := by
  unfold bt
  rw [Int.toNat_natCast]
  by_cases h : N / 2 ^ j % 2 = 1
  · rw [if_pos (by simp; exact h)]; exact h
  · rw [if_neg (by simp; exact h)]; omega
def BitsR (N : Int) (w : World) (s i : Value) (wr : World) : Prop :=
  ∃ (k : Nat) (v : Int) (B : Option Addr) (m cap : Nat), i = .int .i64 v ∧ v = (k : Int) - 1 ∧ k ≤ nb N ∧ s = .slice B m cap ∧ Cn wr B m cap (N / 2 ^ k) ∧ Below w.heap.size w wr
end Go.Proofs.YtloajnaphenbjaaGreatDoor
