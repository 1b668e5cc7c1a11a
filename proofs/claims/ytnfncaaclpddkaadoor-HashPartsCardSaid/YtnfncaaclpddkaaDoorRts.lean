/-
  What the document's times and root answer.
-/
import Derived.Test.YtnfncaaclpddkaaDoorRnu
namespace Go.Proofs.YtnfncaaclpddkaaDoor
open Go.RowKit
set_option linter.unusedVariables false
theorem mask32 {a : Int} (h0 : 0 ≤ a) (h1 : a < 18446744073709551616) : bits .and .u64 a 4294967295 = a % 4294967296 := by
  have h := bits_mask .u64 64 (by decide) wraps_u64 32 (by decide) a h0 (by omega)
  rw [show (2 : Int) ^ 32 - 1 = 4294967295 by decide, show (2 : Int) ^ 32 = 4294967296 by decide] at h
  exact h
theorem tup2 {k : IntKind} {a b c d : Int} (h : a = c) (h' : b = d) : Ending.returned (.tuple #[.int k a, .int k b]) = Ending.returned (.tuple #[.int k c, .int k d]) := by rw [h, h']
set_option maxHeartbeats 1000000 in
theorem times_any' (a b : Int) (a0 : 0 ≤ a) (a1 : a < 1099511627776) (b0 : 0 ≤ b) (b1 : b < 1099511627776) (w : World) :
    Calls Tryd.prog 33 #[.int .u64 a, .int .u64 b] w fun e w' => e = .returned (.tuple #[.int .u64 (a * b / 18446744073709551616), .int .u64 (a * b % 18446744073709551616)]) ∧ w = w' := by
  have ea := mask32 a0 (by omega)
  have eb := mask32 b0 (by omega)
  obtain ⟨ah, hah⟩ : ∃ ah, a / 4294967296 = ah := ⟨_, rfl⟩
  obtain ⟨al, hal⟩ : ∃ al, a % 4294967296 = al := ⟨_, rfl⟩
  obtain ⟨bh, hbh⟩ : ∃ bh, b / 4294967296 = bh := ⟨_, rfl⟩
  obtain ⟨bl, hbl⟩ : ∃ bl, b % 4294967296 = bl := ⟨_, rfl⟩
  rw [hal] at ea
  rw [hbl] at eb
  obtain ⟨hh, hhh⟩ : ∃ x, ah * bh = x := ⟨_, rfl⟩
  obtain ⟨Q, hQ⟩ : ∃ x, ah * bl = x := ⟨_, rfl⟩
  obtain ⟨R, hR⟩ : ∃ x, al * bh = x := ⟨_, rfl⟩
  obtain ⟨S, hS⟩ : ∃ x, al * bl = x := ⟨_, rfl⟩
  have eA : a = ah * 4294967296 + al := by omega
  have eB : b = bh * 4294967296 + bl := by omega
  have KEY := Lib.hid (show a * b = hh * 18446744073709551616 + (Q + R) * 4294967296 + S by rw [eA, eB, ← hhh, ← hQ, ← hR, ← hS]; grind)
  have h0 : 0 ≤ hh := by rw [← hhh]; exact Int.mul_nonneg (by omega) (by omega)
  have q0 : 0 ≤ Q := by rw [← hQ]; exact Int.mul_nonneg (by omega) (by omega)
  have r0 : 0 ≤ R := by rw [← hR]; exact Int.mul_nonneg (by omega) (by omega)
  have s0 : 0 ≤ S := by rw [← hS]; exact Int.mul_nonneg (by omega) (by omega)
  have h1 : hh ≤ 256 * 256 := by rw [← hhh]; exact Int.mul_le_mul (by omega) (by omega) (by omega) (by omega)
  have q1 : Q ≤ 256 * 4294967296 := by rw [← hQ]; exact Int.mul_le_mul (by omega) (by omega) (by omega) (by omega)
  have r1 : R ≤ 4294967296 * 256 := by rw [← hR]; exact Int.mul_le_mul (by omega) (by omega) (by omega) (by omega)
  have s1 : S ≤ 4294967295 * 4294967295 := by rw [← hS]; exact Int.mul_le_mul (by omega) (by omega) (by omega) (by omega)
  clear eA eB
  go_enter Tryd.func33, Tryd.ntmps33
  go_wp2_with fail
  all_goals
    go_ret2
    refine ⟨?_, rfl⟩
    rename_i hlo
    rw [IntKind.wrap_u64, IntKind.wrap_u64] at hlo
    have key := KEY.out
    refine tup2 ?_ ?_
    · rw [key]; omega
    · rw [key, IntKind.wrap_u64, IntKind.wrap_u64]; omega
theorem times_n {a b hi lo : Int} (a0 : 0 ≤ a) (a1 : a < 1099511627776) (b0 : 0 ≤ b) (b1 : b < 1099511627776) (h1 : a * b / 18446744073709551616 = hi) (h2 : a * b % 18446744073709551616 = lo) (w : World) :
    Calls Tryd.prog 33 #[.int .u64 a, .int .u64 b] w fun e w' => e = .returned (.tuple #[.int .u64 hi, .int .u64 lo]) ∧ w = w' := by
  subst h1 h2
  exact times_any' a b a0 a1 b0 b1 w
theorem hi_bd {a b : Int} (a0 : 0 ≤ a) (a1 : a < 1099511627776) (b0 : 0 ≤ b) (b1 : b < 1099511627776) : 0 ≤ a * b / 18446744073709551616 ∧ a * b / 18446744073709551616 < 65536 := by
  have h := Int.mul_nonneg a0 b0
  have h' := Int.mul_le_mul (show a ≤ 1099511627775 by omega) (show b ≤ 1099511627775 by omega) b0 (by omega)
  generalize a * b = c at *
  omega
/-! ### root -/
/-- r is the root of p. -/
def SqR (p r : Int) : Prop := 0 ≤ r ∧ r < 1099511627776 ∧ r * r ≤ p * 18446744073709551616 ∧ p * 18446744073709551616 < (r + 1) * (r + 1)
theorem mul_mono {a b : Int} (h0 : 0 ≤ a) (h : a ≤ b) : a * a ≤ b * b := Int.mul_le_mul h h h0 (by omega)
theorem sq_test {p r y : Int} (h : SqR p r) (y0 : 0 ≤ y) : (y * y / 18446744073709551616 < p ∨ y * y / 18446744073709551616 = p ∧ y * y % 18446744073709551616 = 0) ↔ y ≤ r := by
  obtain ⟨r0, -, h1, h2⟩ := h
  constructor
  · intro g
    rcases Int.lt_or_le r y with k | k
    · have := mul_mono (show 0 ≤ r + 1 by omega) (show r + 1 ≤ y by omega)
      generalize y * y = Y at *
      generalize (r + 1) * (r + 1) = R at *
      omega
    · exact k
  · intro g
    have := mul_mono y0 g
    generalize y * y = Y at *
    generalize r * r = R at *
    omega
/-- What the loop knows: the bits that are found, and that the root lies not further on. -/
def RtR (r : Int) (w : World) (x i : Value) (wr : World) : Prop :=
  ∃ (k : Nat) (v X : Int), k ≤ 40 ∧ i = .int .i64 v ∧ v = (k : Int) - 1 ∧ x = .int .u64 X ∧ 0 ≤ X ∧ X ≤ r ∧ r < X + 2 ^ k ∧ X + 2 ^ k ≤ 1099511627776 ∧ w = wr
set_option maxHeartbeats 4000000 in
set_option maxRecDepth 100000 in
theorem root_sq (p r : Int) (p0 : 0 ≤ p) (p1 : p < 65536) (h : SqR p r) (w : World) :
    Calls Tryd.prog 22 #[.int .u64 p, .bool false] w fun e w' => e = .returned (.int .u64 (r % 4294967296)) ∧ w = w' := by
  have r0 := h.1
  have r1 := h.2.1
  have H := Lib.hid h
  clear h
  go_enter Tryd.func22, Tryd.ntmps22
  go_wp2_with fail
  go_loopw [5, 6] (fun x i wr => RtR r w x i wr) (fun _ i _ => (intOf i + 1).toNat)
  case atStart => exact ⟨40, 39, 0, by omega, rfl, rfl, rfl, by omega, r0, by omega, by omega, rfl⟩
  case round =>
    obtain ⟨k, v, X, hk, rfl, hv, rfl, x0, x1, x2, x3, rfl⟩ := hrel
    rcases Nat.eq_zero_or_pos k with g | g
    · subst g
      have hv2 : v < 0 := by omega
      have hm := mask32 x0 (by omega)
      have hX : X = r := by omega
      have HX := Lib.hid hX
      clear hX hv x2 x3
      go_wp2_with fail
      go_ret
      exact ⟨by rw [HX.out]; rfl, rfl⟩
    · obtain ⟨b, rfl⟩ : ∃ b, k = b + 1 := ⟨k - 1, by omega⟩
      obtain rfl : v = (b : Int) := by omega
      rw [Int.pow_succ] at x2 x3
      obtain ⟨P2, hP2⟩ : ∃ P2 : Int, 2 ^ b = P2 := ⟨_, rfl⟩
      have hp0 : 0 < P2 := by rw [← hP2]; exact Int.pow_pos (by decide)
      rw [hP2] at x2 x3
      have hbi : (b : Int) ≤ 39 := by omega
      have TEST := Lib.hid (sq_test H.out (y := X + P2) (by omega))
      have hb := hi_bd (a := X + P2) (b := X + P2) (by omega) (by omega) (by omega) (by omega)
      obtain ⟨hi, hhi⟩ : ∃ hi, (X + P2) * (X + P2) / 18446744073709551616 = hi := ⟨_, rfl⟩
      obtain ⟨lo, hlo⟩ : ∃ lo, (X + P2) * (X + P2) % 18446744073709551616 = lo := ⟨_, rfl⟩
      rw [hhi] at hb TEST
      rw [hlo] at TEST
      have l0 : 0 ≤ lo := by omega
      have HHI := Lib.hid hhi
      have HLO := Lib.hid hlo
      have Y1 := Lib.hid (show X + P2 < 1099511627776 by omega)
      obtain ⟨hb0, hb1⟩ := hb
      clear hv hhi hlo
      go_wp2_with fail
      refine (times_n (by omega) Y1.out (by omega) Y1.out HHI.out HLO.out _).mono ?_
      rintro e w1 ⟨rfl, rfl⟩
      go_wp2_with fail
      all_goals
        go_roundw
        case rel =>
          have T := TEST.out
          first
          | (have e := eq_of_beq (by assumption : (lo == 0) = true)
             exact ⟨b, _, X + P2, by omega, rfl, rfl, rfl, by omega, by omega, by rw [hP2]; omega, by rw [hP2]; omega, rfl⟩)
          | (have e := ne_of_beq_false (by assumption : (lo == 0) = false)
             exact ⟨b, _, X, by omega, rfl, rfl, rfl, by omega, by omega, by rw [hP2]; omega, by rw [hP2]; omega, rfl⟩)
          | exact ⟨b, _, X + P2, by omega, rfl, rfl, rfl, by omega, by omega, by rw [hP2]; omega, by rw [hP2]; omega, rfl⟩
          | exact ⟨b, _, X, by omega, rfl, rfl, rfl, by omega, by omega, by rw [hP2]; omega, by rw [hP2]; omega, rfl⟩
        case measure => simp [intOf]
end Go.Proofs.YtnfncaaclpddkaaDoor
