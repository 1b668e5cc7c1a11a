/-
  What nat.Bits answers.
-/
import Derived.Test.YtloajnaphenbjaaGreatDoorNm
import Derived.Test.YtloajnaphenbjaaGreatDoorMul
import Derived.Lib.ItoaNum
import Derived.Laws.BitsLemmas
import Derived.Laws.Bits64b
namespace Go.Proofs.YtloajnaphenbjaaGreatDoor
open Go.RowKit
set_option linter.unusedVariables false
/-- How many bits a number has. -/
def nb (N : Int) : Nat := (dg 2 N).length
theorem dg_len_eq {b N : Int} {k : Nat} (hb : 2 ≤ b) (h0 : b ^ (k - 1) ≤ N) (h1 : N < b ^ k) (hk : 0 < k) : (dg b N).length = k := by
  have hp := pow_pos' hb (k - 1)
  have a := dg_len_le hb (by omega) h1
  rcases Nat.lt_or_ge (dg b N).length k with g | g
  · have := dg_lt_pow hb (show 0 ≤ N by omega) (show (dg b N).length ≤ k - 1 by omega)
    omega
  · omega
theorem W_pow (n : Nat) : W ^ n = 2 ^ (64 * n) := by
  have : W = 2 ^ 64 := by decide
  rw [this, ← Int.pow_mul]
theorem nb_top {N : Int} {m : Nat} (hN : 0 < N) (hm : dl N = m + 1) : nb N = 64 * m + Lib.bitLen (dig (dg W N) m).toNat := by
  have ht := dg_top W_two hN
  have hl : (dg W N).length - 1 = m := by have : (dg W N).length = m + 1 := hm; omega
  rw [hl] at ht
  have hd := dig_W (dig_dg W_two (show 0 ≤ N by omega)) m
  have hv := val_dl (show 0 ≤ N by omega) (Nat.le_of_eq hm)
  have hlow := vf_bd (b := W) (by decide) (fun j => dig_bd (b := W) (by decide) (dig_dg W_two (show 0 ≤ N by omega)) j) m
  have hv' : vf W (dig (dg W N)) m + dig (dg W N) m * W ^ m = N := hv
  obtain ⟨t, et⟩ := Int.eq_ofNat_of_zero_le hd.1
  rw [et] at ht hd hv' ⊢
  obtain ⟨b1, b2, b3⟩ := Lib.bitLenAux_bounds 64 t (by omega) (by omega)
  have e : Lib.bitLen t = Lib.bitLenAux 64 t := rfl
  rw [Int.toNat_natCast]
  rw [← e] at b1 b2 b3
  generalize Lib.bitLen t = L at *
  have c2 : (2 : Int) ^ (L - 1) ≤ (t : Int) := by
    have : ((2 ^ (L - 1) : Nat) : Int) ≤ (t : Int) := by omega
    simpa using this
  have c3 : (t : Int) + 1 ≤ 2 ^ L := by
    have : ((t + 1 : Nat) : Int) ≤ ((2 ^ L : Nat) : Int) := by omega
    simpa using this
  have hp := pow_pos' W_two m
  refine dg_len_eq (by decide) ?_ ?_ (by omega)
  · have e1 : 64 * m + L - 1 = (L - 1) + 64 * m := by omega
    rw [e1, Int.pow_add, ← W_pow]
    have := Int.mul_le_mul_of_nonneg_right c2 (show 0 ≤ W ^ m by omega)
    omega
  · have e1 : 64 * m + L = L + 64 * m := by omega
    rw [e1, Int.pow_add, ← W_pow]
    have := Int.mul_le_mul_of_nonneg_right c3 (show 0 ≤ W ^ m by omega)
    rw [Int.add_mul] at this
    omega
theorem nb_le {N : Int} (hN : 0 ≤ N) : nb N ≤ 64 * dl N := by
  refine dg_len_le (by decide) hN ?_
  rw [← W_pow]
  exact lt_dl hN (Nat.le_refl _)
set_option maxHeartbeats 400000 in
theorem bits_any {A : Option Addr} {n c : Nat} {N : Int} {w : World} (h : Nm w A n c N) :
    Calls Tryz.prog 54 #[.slice A n c] w fun e w' => e = .returned (.int .i64 (nb N : Nat)) ∧ w = w' := by
  have hx := h.lim
  have hle : dl N ≤ 17592186044416 := by have := hx.nc; have := hx.c60; omega
  by_cases hz : N = 0
  · subst hz
    have h0 : dl 0 = 0 := (dl_zero (Int.le_refl 0)).2 rfl
    have hb : ((dl 0 : Int) == 0) = true := by simpa using h0
    have e0 : nb 0 = 0 := by unfold nb; rw [dg_zero]; rfl
    rw [e0]
    clear h0 e0
    go_enter Tryz.func54, Tryz.ntmps54
    go_wp2_with fail
    refine (limbs_nm h).mono ?_
    rintro e w1 ⟨rfl, rfl⟩
    go_wp2
    go_ret
    exact ⟨rfl, rfl⟩
  · have hN : 0 < N := by have := h.pos; omega
    obtain ⟨m, hm⟩ : ∃ m, dl N = m + 1 := ⟨dl N - 1, by have : dl N ≠ 0 := fun e => hz ((dl_zero h.pos).1 e); omega⟩
    have hnb := nb_top hN hm
    obtain ⟨b, off, x, rfl, hb, hxx, hcell⟩ := hx.rd.at_ (j := m) (by omega)
    have hxe := dig_lt hxx
    have hd := dig_W (dig_dg W_two h.pos) m
    rw [hxe] at hd hnb
    have hbl := Lib.bitLen_le x.toNat 64 (by omega) (by omega)
    have hq : ((dl N : Int) == 0) = false := by rw [hm]; simp; omega
    have e1 : (dl N : Int) - 1 = m := by omega
    have hmn : m < dl N := by omega
    have HNB := Lib.hid hnb
    clear hnb hxx hxe hm hz
    go_enter Tryz.func54, Tryz.ntmps54
    go_wp2_with fail
    refine (limbs_nm h).mono ?_
    rintro e w1 ⟨rfl, rfl⟩
    go_wp2_with fail
    refine (len64 x _ hd.1 hd.2).mono ?_
    rintro e w1 ⟨rfl, rfl⟩
    go_wp2
    go_ret
    exact ⟨by rw [HNB.out]; go_num, rfl⟩
end Go.Proofs.YtloajnaphenbjaaGreatDoor
