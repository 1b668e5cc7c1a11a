/-
  What the document's number, turn and times answer, and the law's number.
-/
import Derived.Test.YtloibmemlkfkfaaGreatDoorHsa
namespace Go.Proofs.YtloibmemlkfkfaaGreatDoor
open Go.RowKit
set_option linter.unusedVariables false
def NuR (N : Int) (kk : IntKind) (w : World) (n i : Value) (wr : World) : Prop :=
  ∃ (p : Nat) (v : Int) (zs : List Int), p ≤ 8 ∧ i = .int .i64 v ∧ v = (p : Int) - 1 ∧ n = .int kk (N / 256 ^ (8 - p)) ∧ Row wr w.heap.size 5 .u8 zs ∧ zs.length = 8 ∧ (∀ j, p ≤ j → j < 8 → dig zs j = N / 256 ^ (7 - j) % 256) ∧ Below w.heap.size w wr
theorem div_next {N : Int} (h0 : 0 ≤ N) {p : Nat} (hp : p + 1 ≤ 8) : N / 256 ^ (8 - (p + 1)) / 256 = N / 256 ^ (8 - p) := by
  rw [Int.ediv_ediv_of_nonneg (Int.le_of_lt (Int.pow_pos (by decide))), ← Int.pow_succ, show (8 - (p + 1)).succ = 8 - p by omega]
set_option maxHeartbeats 1000000 in
theorem number_any (N : Int) (h0 : 0 ≤ N) (h1 : N < 18446744073709551616) (w : World) :
    Calls Tryz.prog 121 #[.int .u64 N] w (AnsOb (be8 N) w) := by
  have hmk := fun W => run_make8 8 (C := 8) rfl (by omega) W
  obtain ⟨Z, hZ⟩ : ∃ Z : List Int, Z = List.replicate 8 0 := ⟨_, rfl⟩
  rw [← hZ] at hmk
  have HZ := Lib.hid hZ
  clear hZ
  go_enter Tryz.func121, Tryz.ntmps121
  go_wp2_with fail
  clear hmk
  go_loopw [0, 4] (fun n i wr => NuR N .u64 w n i wr) (fun _ i _ => (intOf i + 1).toNat)
  case atStart =>
    exact ⟨8, 7, Z, by omega, rfl, rfl, by simp, Row.new _ _ _ _, by rw [HZ.out]; simp, fun j h h' => by omega, (Below.refl _ _).alloc (Nat.le_refl _) _⟩
  case round =>
    obtain ⟨p, v, zs, hp, rfl, hv, rfl, hrow, hzl, hz, hb⟩ := hrel
    have HZE := Lib.hid hz
    have HZL := Lib.hid hzl
    clear hz
    rcases Nat.eq_zero_or_pos p with g | g
    · have hv1 : decide (0 ≤ v) = false := by simp; omega
      have hv2 : v < 0 := by omega
      have hbe : zs = be8 N := ext_dig (by rw [HZL.out, be8_len]) (fun j hj => by rw [HZL.out] at hj; rw [HZE.out j (by omega) hj, be8_dig_at hj])
      have hrow' : Row wr w.heap.size 5 .u8 (be8 N) := by rw [← hbe]; exact hrow
      have ho := Own8.of_row hrow' (Nat.le_refl _) (by rw [be8_len]; omega)
      rw [be8_len] at ho
      clear hzl hbe hrow' hv
      go_wp2_with fail
      go_ret
      exact ⟨_, rfl, ho, hb⟩
    · obtain ⟨m, rfl⟩ : ∃ m, p = m + 1 := ⟨p - 1, by omega⟩
      obtain rfl : v = (m : Int) := by omega
      have fz := hrow.frozen m
      have cz := hrow.cell (getElem?_dig (show m < zs.length by omega))
      obtain ⟨M, hM⟩ : ∃ M, N / 256 ^ (8 - (m + 1)) = M := ⟨_, rfl⟩
      have m0 : 0 ≤ M := by rw [← hM]; exact Int.ediv_nonneg h0 (Int.le_of_lt (Int.pow_pos (by decide)))
      have m1 : M < 18446744073709551616 := by rw [← hM]; have := Int.ediv_le_self (256 ^ (8 - (m + 1))) h0; omega
      rw [hM]
      have HM := Lib.hid hM
      clear hzl hM hv
      go_wp2_with fail
      go_roundw
      case rel =>
        refine ⟨m, _, _, by omega, rfl, rfl, ?_, hrow.set _ _, by simpa using HZL.out, fun j hj hj8 => ?_, hb.setCell (Nat.le_refl _) _⟩
        · rw [← HM.out, div_next h0 (by omega)]
        · rcases Nat.lt_or_ge m j with g | g
          · rw [dig_set_ne (by omega)]; exact HZE.out j (by omega) hj8
          · obtain rfl : j = m := by omega
            rw [dig_set_same (by rw [HZL.out]; omega), ← HM.out, show 8 - (j + 1) = 7 - j by omega]
      case measure => simp [intOf]
/-! ### turn -/
theorem rot_zero (x : Int) : rot 0 x = x := by unfold rot; simp
theorem rot_step {n : Nat} (hn : n + 1 ≤ 32) {x : Int} (hx : Wd x) : rot n x / 2 + rot n x % 2 * 2147483648 = rot (n + 1) x := by
  have hp : (0 : Int) < 2 ^ n := Int.pow_pos (by decide)
  have e1 : (2 : Int) ^ (32 - n) = 2 ^ (32 - (n + 1)) * 2 := by rw [← Int.pow_succ, show (32 - (n + 1)).succ = 32 - n by omega]
  have e2 : (2 : Int) ^ (n + 1) = 2 ^ n * 2 := Int.pow_succ _ _
  have e3 : (2 : Int) ^ n * 2 ^ (32 - (n + 1)) = 2147483648 := by rw [← Int.pow_add, show n + (32 - (n + 1)) = 31 by omega]; decide
  have d1 : x / 2 ^ (n + 1) = x / 2 ^ n / 2 := by rw [e2, Int.ediv_ediv_of_nonneg (Int.le_of_lt hp)]
  have d2 : x % 2 ^ (n + 1) = x % 2 ^ n + x / 2 ^ n % 2 * 2 ^ n := by
    rw [e2]
    have a := Int.emod_add_mul_ediv x (2 ^ n)
    have b := Int.emod_add_mul_ediv x (2 ^ n * 2)
    have c := Int.emod_add_mul_ediv (x / 2 ^ n) 2
    rw [← Int.ediv_ediv_of_nonneg (Int.le_of_lt hp)] at b
    generalize x / 2 ^ n = y at *
    generalize (2 : Int) ^ n = t at *
    have e : t * 2 * (y / 2) = t * (y - y % 2) := by
      have : y - y % 2 = 2 * (y / 2) := by omega
      rw [this]; grind
    rw [e, Int.mul_sub] at b
    have f : y % 2 * t = t * (y % 2) := Int.mul_comm _ _
    omega
  unfold rot
  rw [d1, d2, e1]
  generalize x / 2 ^ n = y
  generalize x % 2 ^ n = z
  have e4 : y + z * (2 ^ (32 - (n + 1)) * 2) = y + z * 2 ^ (32 - (n + 1)) * 2 := by grind
  rw [e4, Int.add_mul_ediv_right _ _ (by decide), Int.add_mul_emod_self_right, Int.add_mul, show y % 2 * 2 ^ n * 2 ^ (32 - (n + 1)) = y % 2 * 2147483648 by rw [Int.mul_assoc, e3]]
  omega
theorem rot_wd {n : Nat} (hn : n ≤ 32) {x : Int} (hx : Wd x) : Wd (rot n x) := (rot_or hn hx).2
def TuR (x : Int) (n : Nat) (w : World) (y i : Value) (wr : World) : Prop := ∃ k : Nat, k ≤ n ∧ i = .int .i64 k ∧ y = .int .u32 (rot k x) ∧ w = wr
theorem turn_w (n : Nat) {v : Int} (hv : v = n) (hn : n ≤ 32) (x : Int) (hx : Wd x) (w : World) :
    Calls Tryz.prog 144 #[.int .u32 x, .int .i64 v] w fun e w' => e = .returned (.int .u32 (rot n x)) ∧ w = w' := by
  subst hv
  go_enter Tryz.func144, Tryz.ntmps144
  go_wp2_with fail
  go_loopw [0, 5] (fun y i wr => TuR x n w y i wr) (fun _ i _ => n - (intOf i).toNat)
  case atStart => exact ⟨0, Nat.zero_le _, rfl, by rw [rot_zero], rfl⟩
  case round =>
    obtain ⟨k, hk, rfl, rfl, rfl⟩ := hrel
    rcases Nat.lt_or_ge k n with hlt | hge
    · have hw := rot_wd (show k ≤ 32 by omega) hx
      have hs := rot_step (show k + 1 ≤ 32 by omega) hx
      have hw2 := rot_wd (show k + 1 ≤ 32 by omega) hx
      obtain ⟨y, hy⟩ : ∃ y, rot k x = y := ⟨_, rfl⟩
      rw [hy] at hs hw ⊢
      have h0 := hw.1
      have h1 := hw.2
      have HS := Lib.hid hs
      have HW2 := Lib.hid hw2
      have hki : (k : Int) < (n : Int) := by omega
      clear hy hs hw2
      go_wp2_with fail
      go_roundw
      case rel => exact ⟨k + 1, by omega, by go_num, by rw [← HS.out], rfl⟩
      case measure => simp [intOf]; omega
    · obtain rfl : k = n := by omega
      go_wp2_with fail
      go_ret
      exact ⟨rfl, rfl⟩
end Go.Proofs.YtloibmemlkfkfaaGreatDoor
