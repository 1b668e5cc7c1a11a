/-
  Several texts in one: Rts, Rtc, Rpr.
-/
import Derived.Test.YtloibmemlkfkfaaGreatDoorRnu
import Derived.Test.YtloibmemlkfkfaaGreatDoorHsa
import Derived.OwnWalk
import Derived.Deep.CutBlock
import Derived.Deep.DeepCutAuto
/-
  What the document's times and root answer.
-/
namespace Go.Proofs.YtloibmemlkfkfaaGreatDoor
open Go.RowKit
set_option linter.unusedVariables false
theorem mask32 {a : Int} (h0 : 0 ≤ a) (h1 : a < 18446744073709551616) : bits .and .u64 a 4294967295 = a % 4294967296 := by
  have h := bits_mask .u64 64 (by decide) wraps_u64 32 (by decide) a h0 (by omega)
  rw [show (2 : Int) ^ 32 - 1 = 4294967295 by decide, show (2 : Int) ^ 32 = 4294967296 by decide] at h
  exact h
theorem tup2 {k : IntKind} {a b c d : Int} (h : a = c) (h' : b = d) : Ending.returned (.tuple #[.int k a, .int k b]) = Ending.returned (.tuple #[.int k c, .int k d]) := by rw [h, h']
set_option maxHeartbeats 1000000 in
theorem times_any' (a b : Int) (a0 : 0 ≤ a) (a1 : a < 1099511627776) (b0 : 0 ≤ b) (b1 : b < 1099511627776) (w : World) :
    Calls Tryz.prog 143 #[.int .u64 a, .int .u64 b] w fun e w' => e = .returned (.tuple #[.int .u64 (a * b / 18446744073709551616), .int .u64 (a * b % 18446744073709551616)]) ∧ w = w' := by
  have ea := mask32 a0 (by omega)
  have eb := mask32 b0 (by omega)
  obtain ⟨ah, hah⟩ : ∃ ah, a / 4294967296 = ah := ⟨_, rfl⟩
  obtain ⟨al, hal⟩ : ∃ al, a % 4294967296 = al := ⟨_, rfl⟩
  obtain ⟨bh, hbh⟩ : ∃ bh, b / 4294967296 = bh := ⟨_, rfl⟩
  obtain ⟨bl, hbl⟩ : ∃ bl, b % 4294967296 = bl := ⟨_, rfl⟩
  rw [hal] at ea
  rw [hbl] at eb
  obtain ⟨hh, hhh⟩ : ∃ x, ah * bh = x := ⟨_, rfl⟩
  obtain ⟨Q, hQ⟩ : ∃ x, ah * bl = x := ⟨_, rfl⟩
  obtain ⟨R, hR⟩ : ∃ x, al * bh = x := ⟨_, rfl⟩
  obtain ⟨S, hS⟩ : ∃ x, al * bl = x := ⟨_, rfl⟩
  have eA : a = ah * 4294967296 + al := by omega
  have eB : b = bh * 4294967296 + bl := by omega
  have KEY := Lib.hid (show a * b = hh * 18446744073709551616 + (Q + R) * 4294967296 + S by rw [eA, eB, ← hhh, ← hQ, ← hR, ← hS]; grind)
  have h0 : 0 ≤ hh := by rw [← hhh]; exact Int.mul_nonneg (by omega) (by omega)
  have q0 : 0 ≤ Q := by rw [← hQ]; exact Int.mul_nonneg (by omega) (by omega)
  have r0 : 0 ≤ R := by rw [← hR]; exact Int.mul_nonneg (by omega) (by omega)
  have s0 : 0 ≤ S := by rw [← hS]; exact Int.mul_nonneg (by omega) (by omega)
  have h1 : hh ≤ 256 * 256 := by rw [← hhh]; exact Int.mul_le_mul (by omega) (by omega) (by omega) (by omega)
  have q1 : Q ≤ 256 * 4294967296 := by rw [← hQ]; exact Int.mul_le_mul (by omega) (by omega) (by omega) (by omega)
  have r1 : R ≤ 4294967296 * 256 := by rw [← hR]; exact Int.mul_le_mul (by omega) (by omega) (by omega) (by omega)
  have s1 : S ≤ 4294967295 * 4294967295 := by rw [← hS]; exact Int.mul_le_mul (by omega) (by omega) (by omega) (by omega)
  clear eA eB
  go_enter Tryz.func143, Tryz.ntmps143
  go_wp2_with fail
  all_goals
    go_ret2
    refine ⟨?_, rfl⟩
    rename_i hlo
    rw [IntKind.wrap_u64, IntKind.wrap_u64] at hlo
    have key := KEY.out
    refine tup2 ?_ ?_
    · rw [key]; omega
    · rw [key, IntKind.wrap_u64, IntKind.wrap_u64]; omega
theorem times_n {a b hi lo : Int} (a0 : 0 ≤ a) (a1 : a < 1099511627776) (b0 : 0 ≤ b) (b1 : b < 1099511627776) (h1 : a * b / 18446744073709551616 = hi) (h2 : a * b % 18446744073709551616 = lo) (w : World) :
    Calls Tryz.prog 143 #[.int .u64 a, .int .u64 b] w fun e w' => e = .returned (.tuple #[.int .u64 hi, .int .u64 lo]) ∧ w = w' := by
  subst h1 h2
  exact times_any' a b a0 a1 b0 b1 w
theorem hi_bd {a b : Int} (a0 : 0 ≤ a) (a1 : a < 1099511627776) (b0 : 0 ≤ b) (b1 : b < 1099511627776) : 0 ≤ a * b / 18446744073709551616 ∧ a * b / 18446744073709551616 < 65536 := by
  have h := Int.mul_nonneg a0 b0
  have h' := Int.mul_le_mul (show a ≤ 1099511627775 by omega) (show b ≤ 1099511627775 by omega) b0 (by omega)
  generalize a * b = c at *
  omega
/-! ### root -/
/-- r is the root of p. -/
def SqR (p r : Int) : Prop := 0 ≤ r ∧ r < 1099511627776 ∧ r * r ≤ p * 18446744073709551616 ∧ p * 18446744073709551616 < (r + 1) * (r + 1)
theorem mul_mono {a b : Int} (h0 : 0 ≤ a) (h : a ≤ b) : a * a ≤ b * b := Int.mul_le_mul h h h0 (by omega)
theorem sq_test {p r y : Int} (h : SqR p r) (y0 : 0 ≤ y) : (y * y / 18446744073709551616 < p ∨ y * y / 18446744073709551616 = p ∧ y * y % 18446744073709551616 = 0) ↔ y ≤ r := by
  obtain ⟨r0, -, h1, h2⟩ := h
  constructor
  · intro g
    rcases Int.lt_or_le r y with k | k
    · have := mul_mono (show 0 ≤ r + 1 by omega) (show r + 1 ≤ y by omega)
      generalize y * y = Y at *
      generalize (r + 1) * (r + 1) = R at *
      omega
    · exact k
  · intro g
    have := mul_mono y0 g
    generalize y * y = Y at *
    generalize r * r = R at *
    omega
/-- What the loop knows: the bits that are found, and that the root lies not further on. -/
def RtS (r : Int) (w : World) (x i : Value) (wr : World) : Prop :=
  ∃ (k : Nat) (v X : Int), k ≤ 40 ∧ i = .int .i64 v ∧ v = (k : Int) - 1 ∧ x = .int .u64 X ∧ 0 ≤ X ∧ X ≤ r ∧ r < X + 2 ^ k ∧ X + 2 ^ k ≤ 1099511627776 ∧ w = wr
set_option maxHeartbeats 4000000 in
set_option maxRecDepth 100000 in
theorem root_sq (p r : Int) (p0 : 0 ≤ p) (p1 : p < 65536) (h : SqR p r) (w : World) :
    Calls Tryz.prog 120 #[.int .u64 p, .bool false] w fun e w' => e = .returned (.int .u64 (r % 4294967296)) ∧ w = w' := by
  have r0 := h.1
  have r1 := h.2.1
  have H := Lib.hid h
  clear h
  go_enter Tryz.func120, Tryz.ntmps120
  go_wp2_with fail
  go_loopw [5, 6] (fun x i wr => RtS r w x i wr) (fun _ i _ => (intOf i + 1).toNat)
  case atStart => exact ⟨40, 39, 0, by omega, rfl, rfl, rfl, by omega, r0, by omega, by omega, rfl⟩
  case round =>
    obtain ⟨k, v, X, hk, rfl, hv, rfl, x0, x1, x2, x3, rfl⟩ := hrel
    rcases Nat.eq_zero_or_pos k with g | g
    · subst g
      have hv2 : v < 0 := by omega
      have hm := mask32 x0 (by omega)
      have hX : X = r := by omega
      have HX := Lib.hid hX
      clear hX hv x2 x3
      go_wp2_with fail
      go_ret
      exact ⟨by rw [HX.out]; rfl, rfl⟩
    · obtain ⟨b, rfl⟩ : ∃ b, k = b + 1 := ⟨k - 1, by omega⟩
      obtain rfl : v = (b : Int) := by omega
      rw [Int.pow_succ] at x2 x3
      obtain ⟨P2, hP2⟩ : ∃ P2 : Int, 2 ^ b = P2 := ⟨_, rfl⟩
      have hp0 : 0 < P2 := by rw [← hP2]; exact Int.pow_pos (by decide)
      rw [hP2] at x2 x3
      have hbi : (b : Int) ≤ 39 := by omega
      have TEST := Lib.hid (sq_test H.out (y := X + P2) (by omega))
      have hb := hi_bd (a := X + P2) (b := X + P2) (by omega) (by omega) (by omega) (by omega)
      obtain ⟨hi, hhi⟩ : ∃ hi, (X + P2) * (X + P2) / 18446744073709551616 = hi := ⟨_, rfl⟩
      obtain ⟨lo, hlo⟩ : ∃ lo, (X + P2) * (X + P2) % 18446744073709551616 = lo := ⟨_, rfl⟩
      rw [hhi] at hb TEST
      rw [hlo] at TEST
      have l0 : 0 ≤ lo := by omega
      have HHI := Lib.hid hhi
      have HLO := Lib.hid hlo
      have Y1 := Lib.hid (show X + P2 < 1099511627776 by omega)
      obtain ⟨hb0, hb1⟩ := hb
      clear hv hhi hlo
      go_wp2_with fail
      refine (times_n (by omega) Y1.out (by omega) Y1.out HHI.out HLO.out _).mono ?_
      rintro e w1 ⟨rfl, rfl⟩
      go_wp2_with fail
      all_goals
        go_roundw
        case rel =>
          have T := TEST.out
          first
          | (have e := eq_of_beq (by assumption : (lo == 0) = true)
             exact ⟨b, _, X + P2, by omega, rfl, rfl, rfl, by omega, by omega, by rw [hP2]; omega, by rw [hP2]; omega, rfl⟩)
          | (have e := ne_of_beq_false (by assumption : (lo == 0) = false)
             exact ⟨b, _, X, by omega, rfl, rfl, rfl, by omega, by omega, by rw [hP2]; omega, by rw [hP2]; omega, rfl⟩)
          | exact ⟨b, _, X + P2, by omega, rfl, rfl, rfl, by omega, by omega, by rw [hP2]; omega, by rw [hP2]; omega, rfl⟩
          | exact ⟨b, _, X, by omega, rfl, rfl, rfl, by omega, by omega, by rw [hP2]; omega, by rw [hP2]; omega, rfl⟩
        case measure => simp [intOf]
end Go.Proofs.YtloibmemlkfkfaaGreatDoor
/-
  What the document's root answers of cubes.
-/
namespace Go.Proofs.YtloibmemlkfkfaaGreatDoor
open Go.RowKit
set_option linter.unusedVariables false
/-- r is the third root of p. -/
def CbR (p r : Int) : Prop := 0 ≤ r ∧ r < 1099511627776 ∧ r * r * r ≤ p * 79228162514264337593543950336 ∧ p * 79228162514264337593543950336 < (r + 1) * (r + 1) * (r + 1)
theorem cb_mono {a b : Int} (h0 : 0 ≤ a) (h : a ≤ b) : a * a * a ≤ b * b * b := Int.mul_le_mul (mul_mono h0 h) h h0 (Int.mul_nonneg (by omega) (by omega))
theorem cb_test {p r y w1 w0 : Int} (h : CbR p r) (y0 : 0 ≤ y) (e : y * y * y = w1 * 18446744073709551616 + w0) (z0 : 0 ≤ w0) (z1 : w0 < 18446744073709551616) :
    (w1 / 4294967296 < p ∨ w1 / 4294967296 = p ∧ w1 % 4294967296 = 0 ∧ w0 = 0) ↔ y ≤ r := by
  obtain ⟨r0, -, h1, h2⟩ := h
  constructor
  · intro g
    rcases Int.lt_or_le r y with k | k
    · have := cb_mono (show 0 ≤ r + 1 by omega) (show r + 1 ≤ y by omega)
      generalize y * y * y = Y at *
      generalize (r + 1) * (r + 1) * (r + 1) = R at *
      omega
    · exact k
  · intro g
    have := cb_mono y0 g
    generalize y * y * y = Y at *
    generalize r * r * r = R at *
    omega
set_option maxHeartbeats 4000000 in
set_option maxRecDepth 100000 in
theorem root_cb (p r : Int) (p0 : 0 ≤ p) (p1 : p < 65536) (h : CbR p r) (w : World) :
    Calls Tryz.prog 120 #[.int .u64 p, .bool true] w fun e w' => e = .returned (.int .u64 (r % 4294967296)) ∧ w = w' := by
  have r0 := h.1
  have r1 := h.2.1
  have H := Lib.hid h
  clear h
  go_enter Tryz.func120, Tryz.ntmps120
  go_wp2_with fail
  go_loopw [5, 6] (fun x i wr => RtS r w x i wr) (fun _ i _ => (intOf i + 1).toNat)
  case atStart => exact ⟨40, 39, 0, by omega, rfl, rfl, rfl, by omega, r0, by omega, by omega, rfl⟩
  case round =>
    obtain ⟨k, v, X, hk, rfl, hv, rfl, x0, x1, x2, x3, rfl⟩ := hrel
    rcases Nat.eq_zero_or_pos k with g | g
    · subst g
      have hv2 : v < 0 := by omega
      have hm := mask32 x0 (by omega)
      have hX : X = r := by omega
      have HX := Lib.hid hX
      clear hX hv x2 x3
      go_wp2_with fail
      go_ret
      exact ⟨by rw [HX.out]; rfl, rfl⟩
    · obtain ⟨b, rfl⟩ : ∃ b, k = b + 1 := ⟨k - 1, by omega⟩
      obtain rfl : v = (b : Int) := by omega
      rw [Int.pow_succ] at x2 x3
      obtain ⟨P2, hP2⟩ : ∃ P2 : Int, 2 ^ b = P2 := ⟨_, rfl⟩
      have hp0 : 0 < P2 := by rw [← hP2]; exact Int.pow_pos (by decide)
      rw [hP2] at x2 x3
      have hbi : (b : Int) ≤ 39 := by omega
      obtain ⟨y, hy⟩ : ∃ y, X + P2 = y := ⟨_, rfl⟩
      have y0 : 0 ≤ y := by omega
      have y1 : y < 1099511627776 := by omega
      obtain ⟨hi, hhi⟩ : ∃ hi, y * y / 18446744073709551616 = hi := ⟨_, rfl⟩
      obtain ⟨lo, hlo⟩ : ∃ lo, y * y % 18446744073709551616 = lo := ⟨_, rfl⟩
      have hb := hi_bd y0 y1 y0 y1
      rw [hhi] at hb
      have l0 : 0 ≤ lo := by omega
      have l1 : lo < 18446744073709551616 := by omega
      have hm := mask32 l0 l1
      obtain ⟨lo0, hlo0⟩ : ∃ x, lo % 4294967296 = x := ⟨_, rfl⟩
      obtain ⟨lo1, hlo1⟩ : ∃ x, lo / 4294967296 = x := ⟨_, rfl⟩
      rw [hlo0] at hm
      obtain ⟨A, hA⟩ : ∃ A, lo0 * y = A := ⟨_, rfl⟩
      obtain ⟨B, hB⟩ : ∃ B, lo1 * y = B := ⟨_, rfl⟩
      obtain ⟨C, hC⟩ : ∃ C, hi * y = C := ⟨_, rfl⟩
      have a0 : 0 ≤ A := by rw [← hA]; exact Int.mul_nonneg (by omega) y0
      have b0 : 0 ≤ B := by rw [← hB]; exact Int.mul_nonneg (by omega) y0
      have c0 : 0 ≤ C := by rw [← hC]; exact Int.mul_nonneg (by omega) y0
      have a1 : A ≤ 4294967295 * 1099511627775 := by rw [← hA]; exact Int.mul_le_mul (by omega) (by omega) y0 (by omega)
      have b1 : B ≤ 4294967295 * 1099511627775 := by rw [← hB]; exact Int.mul_le_mul (by omega) (by omega) y0 (by omega)
      have c1 : C ≤ 65535 * 1099511627775 := by rw [← hC]; exact Int.mul_le_mul (by omega) (by omega) y0 (by omega)
      have cube : y * y * y = C * 18446744073709551616 + B * 4294967296 + A := by
        have e : y * y = hi * 18446744073709551616 + lo1 * 4294967296 + lo0 := by omega
        rw [e, ← hA, ← hB, ← hC]; grind
      obtain ⟨h1, hh1⟩ : ∃ x, A / 18446744073709551616 = x := ⟨_, rfl⟩
      obtain ⟨m1, hm1⟩ : ∃ x, A % 18446744073709551616 = x := ⟨_, rfl⟩
      obtain ⟨h2, hh2⟩ : ∃ x, B / 18446744073709551616 = x := ⟨_, rfl⟩
      obtain ⟨m2, hm2⟩ : ∃ x, B % 18446744073709551616 = x := ⟨_, rfl⟩
      obtain ⟨q2, hq2⟩ : ∃ x, m2 / 4294967296 = x := ⟨_, rfl⟩
      obtain ⟨ad', had⟩ : ∃ x, IntKind.u64.wrap (m2 * 4294967296) = x := ⟨_, rfl⟩
      obtain ⟨z, hz⟩ : ∃ x, IntKind.u64.wrap (m1 + ad') = x := ⟨_, rfl⟩
      have had' := had
      have hz' := hz
      rw [IntKind.wrap_u64] at had' hz'
      have C0 : C / 18446744073709551616 = 0 := by omega
      have C1 : C % 18446744073709551616 = C := by omega
      -- the carry
      obtain ⟨cy, hcy⟩ : ∃ cy : Int, (z < ad' ∧ cy = 1 ∨ ad' ≤ z ∧ cy = 0) := by
        rcases Int.lt_or_le z ad' with g | g
        · exact ⟨1, .inl ⟨g, rfl⟩⟩
        · exact ⟨0, .inr ⟨g, rfl⟩⟩
      have CUBE : y * y * y = (h1 + cy + q2 + h2 * 4294967296 + C) * 18446744073709551616 + z := by rw [cube]; omega
      have z0 : 0 ≤ z := by omega
      have z1 : z < 18446744073709551616 := by omega
      have TEST := Lib.hid (cb_test H.out y0 CUBE z0 z1)
      have hh10 : 0 ≤ h1 := by omega
      have hh11 : h1 ≤ 256 := by omega
      have hh20 : 0 ≤ h2 := by omega
      have hh21 : h2 ≤ 256 := by omega
      have q0 : 0 ≤ q2 := by omega
      have q1 : q2 < 4294967296 := by omega
      have m10 : 0 ≤ m1 := by omega
      have m20 : 0 ≤ m2 := by omega
      have ad0 : 0 ≤ ad' := by omega
      obtain ⟨hb0, hb1⟩ := hb
      have lb1 : lo1 < 4294967296 := by omega
      have lb0 : 0 ≤ lo1 := by omega
      have la1 : lo0 < 4294967296 := by omega
      have la0 : 0 ≤ lo0 := by omega
      have HHI := Lib.hid hhi
      have HLO := Lib.hid hlo
      have HA := Lib.hid hA
      have HB := Lib.hid hB
      have HC := Lib.hid hC
      have HH1 := Lib.hid hh1
      have HM1 := Lib.hid hm1
      have HH2 := Lib.hid hh2
      have HM2 := Lib.hid hm2
      have HC0 := Lib.hid C0
      have HC1 := Lib.hid C1
      have Y1 := Lib.hid y1
      have X01 := Lib.hid (show X + P2 * 2 ≤ 1099511627776 ∧ r < X + P2 * 2 from ⟨x3, x2⟩)
      have m11 : m1 < 18446744073709551616 := by omega
      have m21 : m2 < 18446744073709551616 := by omega
      have ad1 : ad' < 18446744073709551616 := by omega
      have M11 := Lib.hid m11
      have HY := Lib.hid hy
      have C1' : C ≤ 72057594037927936 := by omega
      clear hhi hlo hA hB hC hh1 hm1 hh2 hm2 C0 C1 hv CUBE cube had' hz' hlo0 a1 b1 c1 x2 x3
      rcases hcy with ⟨hc, rfl⟩ | ⟨hc, rfl⟩
      all_goals
        go_wp2_with fail
        refine (times_n y0 Y1.out y0 Y1.out HHI.out HLO.out _).mono ?_
        rintro e w1 ⟨rfl, rfl⟩
        go_wp2_with fail
        refine (times_n (hi := h1) (lo := m1) (by omega) (by omega) y0 Y1.out (by rw [HA.out]; exact HH1.out) (by rw [HA.out]; exact HM1.out) _).mono ?_
        rintro e w1 ⟨rfl, rfl⟩
        go_wp2_with fail
        refine (times_n (hi := h2) (lo := m2) (by omega) (by omega) y0 Y1.out (by rw [HB.out]; exact HH2.out) (by rw [HB.out]; exact HM2.out) _).mono ?_
        rintro e w1 ⟨rfl, rfl⟩
        go_wp2_with fail
        refine (times_n (hi := 0) (lo := C) (by omega) (by omega) y0 Y1.out (by rw [HC.out]; exact HC0.out) (by rw [HC.out]; exact HC1.out) _).mono ?_
        rintro e w1 ⟨rfl, rfl⟩
        go_wp2_with fail
        all_goals
          go_roundw
          case rel =>
            have T := TEST.out
            have X1 := X01.out
            have hy := HY.out
            have k1 := mask32 (show 0 ≤ h1 + 1 + q2 + h2 * 4294967296 + C by omega) (by omega)
            have k0 := mask32 (show 0 ≤ h1 + q2 + h2 * 4294967296 + C by omega) (by omega)
            first
            | (have e := eq_of_beq (by assumption : (z == 0) = true)
               exact ⟨b, _, y, by omega, rfl, rfl, rfl, by omega, by omega, by rw [hP2]; omega, by rw [hP2]; omega, rfl⟩)
            | (have e := ne_of_beq_false (by assumption : (z == 0) = false)
               exact ⟨b, _, X, by omega, rfl, rfl, rfl, by omega, by omega, by rw [hP2]; omega, by rw [hP2]; omega, rfl⟩)
            | exact ⟨b, _, y, by omega, rfl, rfl, rfl, by omega, by omega, by rw [hP2]; omega, by rw [hP2]; omega, rfl⟩
            | exact ⟨b, _, X, by omega, rfl, rfl, rfl, by omega, by omega, by rw [hP2]; omega, by rw [hP2]; omega, rfl⟩
          case measure => simp [intOf]
end Go.Proofs.YtloibmemlkfkfaaGreatDoor
/-
  What the document's primes and Made answer.
-/
namespace Go.Proofs.YtloibmemlkfkfaaGreatDoor
open Go.RowKit
set_option linter.unusedVariables false
/-- The first 64 primes. -/
def PL : List Int := [2, 3, 5, 7, 11, 13, 17, 19, 23, 29, 31, 37, 41, 43, 47, 53, 59, 61, 67, 71, 73, 79, 83, 89, 97, 101, 103, 107, 109, 113, 127, 131, 137, 139, 149, 151, 157, 163, 167, 173, 179, 181, 191, 193, 197, 199, 211, 223, 227, 229, 233, 239, 241, 251, 257, 263, 269, 271, 277, 281, 283, 293, 307, 311]
/-- Those below k. -/
def PLi (k : Nat) : List Int := PL.filter fun p => decide (p < (k : Int))
def nod (k : Nat) (l : List Int) : Bool := l.all fun p => !((k : Int) % p == 0)
theorem PLi_two : PLi 2 = [] := by decide
theorem PLi_end : PLi 312 = PL := by decide +kernel
theorem PLi_len : ∀ k, k < 313 → ((PLi k).length < 64 ↔ k < 312) := by decide +kernel
theorem PLi_next : ∀ k, k < 312 → 2 ≤ k → PLi (k + 1) = if nod k (PLi k) then PLi k ++ [(k : Int)] else PLi k := by decide +kernel
theorem PLi_bd {k : Nat} {x : Int} (h : x ∈ PLi k) : 2 ≤ x ∧ x ≤ 311 := by
  have h1 : x ∈ PL := (List.mem_filter.1 h).1
  have h2 : ∀ y ∈ PL, 2 ≤ y ∧ y ≤ 311 := by decide
  exact h2 x h1
theorem PLi_len_le (k : Nat) : (PLi k).length ≤ 64 := List.length_filter_le _ PL
def PrR (w : World) (v k : Value) (wr : World) : Prop :=
  ∃ m : Nat, 2 ≤ m ∧ m ≤ 312 ∧ k = .int .i64 m ∧ wr.ownsRow w.heap.size 3 1 v (PLi m).length ((PLi m).map (Value.int .i64)) ∧ Below w.heap.size w wr
def PrI (m : Nat) (w : World) (ok i : Value) (wr : World) : Prop :=
  ∃ j : Nat, j ≤ (PLi m).length ∧ i = .int .i64 j ∧ ok = .bool (nod m ((PLi m).take j)) ∧ w = wr
theorem nod_snoc (m : Nat) (l : List Int) (x : Int) : nod m (l ++ [x]) = (nod m l && !((m : Int) % x == 0)) := by simp [nod]
theorem own_alloc1 {w : World} {base : Nat} {e : TypeId} {v : Value} {n : Nat} {xs : List Value} (h : w.ownsRow base e 1 v n xs) (o : Obj) : (w.alloc o).ownsRow base e 1 v n xs := by
  refine ⟨h.1, ?_⟩
  rcases h.2 with g | ⟨g, cap, cur, h1, h2, h3, h4⟩
  · exact .inl g
  · exact .inr ⟨g, cap, cur, h1, h2, (Below.heap_alloc w o g (Array.getElem?_eq_some_iff.1 h3).1).trans h3, h4⟩
theorem info_int : (Tryz.prog.info? 3).map (fun i => (i.zero, i.size, i.bytes)) = some (some (.int .i64 0), 1, 8) := by kernel_rfl
set_option maxHeartbeats 4000000 in
set_option maxRecDepth 100000 in
theorem primes_any (w : World) :
    Calls Tryz.prog 119 #[.int .i64 64] w fun e w' => ∃ v, e = .returned v ∧ w'.ownsRow w.heap.size 3 1 v PL.length (PL.map (Value.int .i64)) ∧ Below w.heap.size w w' := by
  go_enter Tryz.func119, Tryz.ntmps119
  go_wp2_with fail
  go_loopw [3, 4] (fun v k wr => PrR w v k wr) (fun _ k _ => 312 - (intOf k).toNat)
  case atStart => exact ⟨2, by omega, by omega, rfl, by rw [PLi_two]; exact ⟨rfl, .inl ⟨rfl, rfl⟩⟩, Below.refl _ _⟩
  case round =>
    obtain ⟨m, hm2, hm, rfl, ho, hb⟩ := hrel
    have hle := PLi_len_le m
    have hli := PLi_len m (by omega)
    have hnx := PLi_next m
    obtain ⟨L, hL⟩ : ∃ L, PLi m = L := ⟨_, rfl⟩
    have hbd : ∀ x ∈ L, 2 ≤ x ∧ x ≤ 311 := fun x hx => PLi_bd (by rw [hL]; exact hx)
    obtain ⟨A, c, hv, hrd, hc, hA⟩ := own_rd ho
    rw [hL] at hle hli ho hv hrd hc hnx
    obtain ⟨n, hn⟩ : ∃ n, L.length = n := ⟨_, rfl⟩
    rw [hn] at hle hli ho hv hrd hc
    subst hv
    have HL := Lib.hid hL
    have HN := Lib.hid hn
    have HBD := Lib.hid hbd
    have HO := Lib.hid ho
    have HRD := Lib.hid hrd
    have HNX := Lib.hid hnx
    rcases Nat.lt_or_ge m 312 with hlt | hge
    · have hn64 : (n : Int) < 64 := by omega
      clear hL hn hbd ho hrd hnx hli
      go_wp2_with fail
      go_loopw [5, 6] (fun ok i wr' => PrI m wr ok i wr') (fun _ i _ => n - (intOf i).toNat)
      case atStart => exact ⟨0, Nat.zero_le _, rfl, by simp [nod], rfl⟩
      case round =>
        obtain ⟨j, hj, rfl, rfl, rfl⟩ := hrel
        rw [HL.out] at hj ⊢
        rw [HN.out] at hj
        rcases Nat.lt_or_ge j n with hjl | hjg
        · obtain ⟨b, off, x, rfl, hbl, hx, hcell⟩ := HRD.out.at_ hjl
          have hxb := HBD.out x (List.mem_of_getElem? hx)
          have x2 := hxb.1
          have x3 := hxb.2
          have hsn : nod m (L.take (j + 1)) = (nod m (L.take j) && !((m : Int) % x == 0)) := by
            have hlt2 : j < L.length := by have := HN.out; omega
            rw [List.take_succ_eq_append_getElem hlt2, nod_snoc]
            have : L[j] = x := by rw [List.getElem?_eq_getElem hlt2] at hx; exact Option.some.inj hx
            rw [this]
          have HSN := Lib.hid hsn
          obtain ⟨d, hd⟩ : ∃ d, nod m (L.take j) = d := ⟨_, rfl⟩
          rw [hd]
          have HD := Lib.hid hd
          have hmi : (m : Int) ≤ 312 := by omega
          have hji : (j : Int) < (n : Int) := by omega
          have hjj : (j : Int) ≤ 64 := by omega
          clear hsn hxb hx hd
          rcases Int.lt_or_le 0 ((m : Int) % x) with hz | hz
          · have e : ((m : Int) % x == 0) = false := by simp; omega
            go_wp2_with fail
            go_roundw
            case rel => exact ⟨j + 1, by rw [HL.out, HN.out]; omega, by go_num, by rw [HL.out, HSN.out, HD.out, e]; simp, rfl⟩
            case measure => simp [intOf]; omega
          · have hz2 := Int.emod_nonneg (m : Int) (show x ≠ 0 by omega)
            have e : ((m : Int) % x == 0) = true := by simp; omega
            clear hz hz2
            go_wp2_with fail
            go_roundw
            case rel => exact ⟨j + 1, by rw [HL.out, HN.out]; omega, by go_num, by rw [HL.out, HSN.out, e]; simp, rfl⟩
            case measure => simp [intOf]; omega
        · have hjn : j = n := by omega
          have ht : L.take n = L := by rw [← HN.out, List.take_length]
          rw [hjn, ht]
          clear ht
          have hmi : (m : Int) ≤ 312 := by omega
          have s1 := hb.size
          cases hd : nod m L with
          | true =>
            have hnx := HNX.out hlt hm2
            rw [hd, if_pos rfl] at hnx
            have HNX2 := Lib.hid hnx
            have hoa := own_alloc1 HO.out (.cells #[.int .i64 (m : Int)] 3)
            have HOA := Lib.hid hoa
            have hcl : (wr.alloc (.cells #[.int .i64 (m : Int)] 3)).cell? ⟨wr.heap.size, 0, none⟩ = some (.int .i64 m) := by simp [World.cell?_alloc_at]
            have ba := hb.alloc s1 (.cells #[.int .i64 (m : Int)] 3)
            have BA := Lib.hid ba
            have sa : w.heap.size ≤ (wr.alloc (.cells #[.int .i64 (m : Int)] 3)).heap.size := ba.size
            clear hd hnx hoa hjn ba
            go_wp2_with (at_builtin; refine wpList_app _ rfl _ _ 60 rfl w.heap.size 3 .i64 Tryz.underlying60 info_int _ _ L rfl HOA.out wr.heap.size (m : Int) rfl hcl (by omega) sa ?_)
            rintro v2 w2 h2 hg2
            have b2 := own_below BA.out HOA.out hg2 sa (Nat.le_refl _)
            have H2 := Lib.hid h2
            clear h2
            go_wp2_with fail
            go_roundw
            case rel =>
              refine ⟨m + 1, by omega, by omega, by go_num, ?_, b2⟩
              rw [HNX2.out, List.length_append, HN.out]
              simpa using H2.out
            case measure => simp [intOf]; omega
          | false =>
            have hnx := HNX.out hlt hm2
            rw [hd] at hnx
            have HNX2 := Lib.hid hnx
            clear hd hnx hjn
            go_wp2_with fail
            go_roundw
            case rel => exact ⟨m + 1, by omega, by omega, by go_num, by rw [HNX2.out]; simp; rw [HN.out]; exact HO.out, hb⟩
            case measure => simp [intOf]; omega
    · obtain rfl : m = 312 := by omega
      have hn64 : n = 64 := by
        have h := HN.out
        rw [← HL.out, PLi_end] at h
        rw [← h]; rfl
      have hL312 : L = PL := by rw [← HL.out, PLi_end]
      subst hn64 hL312
      clear hL hn hbd hrd hnx hli hle
      go_wp2_with fail
      go_ret
      exact ⟨_, rfl, ho, hb⟩
end Go.Proofs.YtloibmemlkfkfaaGreatDoor
