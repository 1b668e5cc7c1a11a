/-
  What the document's root answers of cubes.
-/
import Derived.Test.YtnfncaaclpddkaaDoorRts
namespace Go.Proofs.YtnfncaaclpddkaaDoor
open Go.RowKit
set_option linter.unusedVariables false
/-- r is the third root of p. -/
def CbR (p r : Int) : Prop := 0 ≤ r ∧ r < 1099511627776 ∧ r * r * r ≤ p * 79228162514264337593543950336 ∧ p * 79228162514264337593543950336 < (r + 1) * (r + 1) * (r + 1)
theorem cb_mono {a b : Int} (h0 : 0 ≤ a) (h : a ≤ b) : a * a * a ≤ b * b * b := Int.mul_le_mul (mul_mono h0 h) h h0 (Int.mul_nonneg (by omega) (by omega))
theorem cb_test {p r y w1 w0 : Int} (h : CbR p r) (y0 : 0 ≤ y) (e : y * y * y = w1 * 18446744073709551616 + w0) (z0 : 0 ≤ w0) (z1 : w0 < 18446744073709551616) :
    (w1 / 4294967296 < p ∨ w1 / 4294967296 = p ∧ w1 % 4294967296 = 0 ∧ w0 = 0) ↔ y ≤ r := by
  obtain ⟨r0, -, h1, h2⟩ := h
  constructor
  · intro g
    rcases Int.lt_or_le r y with k | k
    · have := cb_mono (show 0 ≤ r + 1 by omega) (show r + 1 ≤ y by omega)
      generalize y * y * y = Y at *
      generalize (r + 1) * (r + 1) * (r + 1) = R at *
      omega
    · exact k
  · intro g
    have := cb_mono y0 g
    generalize y * y * y = Y at *
    generalize r * r * r = R at *
    omega
set_option maxHeartbeats 4000000 in
set_option maxRecDepth 100000 in
theorem root_cb (p r : Int) (p0 : 0 ≤ p) (p1 : p < 65536) (h : CbR p r) (w : World) :
    Calls Tryd.prog 22 #[.int .u64 p, .bool true] w fun e w' => e = .returned (.int .u64 (r % 4294967296)) ∧ w = w' := by
  have r0 := h.1
  have r1 := h.2.1
  have H := Lib.hid h
  clear h
  go_enter Tryd.func22, Tryd.ntmps22
  go_wp2_with fail
  go_loopw [5, 6] (fun x i wr => RtR r w x i wr) (fun _ i _ => (intOf i + 1).toNat)
  case atStart => exact ⟨40, 39, 0, by omega, rfl, rfl, rfl, by omega, r0, by omega, by omega, rfl⟩
  case round =>
    obtain ⟨k, v, X, hk, rfl, hv, rfl, x0, x1, x2, x3, rfl⟩ := hrel
    rcases Nat.eq_zero_or_pos k with g | g
    · subst g
      have hv2 : v < 0 := by omega
      have hm := mask32 x0 (by omega)
      have hX : X = r := by omega
      have HX := Lib.hid hX
      clear hX hv x2 x3
      go_wp2_with fail
      go_ret
      exact ⟨by rw [HX.out]; rfl, rfl⟩
    · obtain ⟨b, rfl⟩ : ∃ b, k = b + 1 := ⟨k - 1, by omega⟩
      obtain rfl : v = (b : Int) := by omega
      rw [Int.pow_succ] at x2 x3
      obtain ⟨P2, hP2⟩ : ∃ P2 : Int, 2 ^ b = P2 := ⟨_, rfl⟩
      have hp0 : 0 < P2 := by rw [← hP2]; exact Int.pow_pos (by decide)
      rw [hP2] at x2 x3
      have hbi : (b : Int) ≤ 39 := by omega
      obtain ⟨y, hy⟩ : ∃ y, X + P2 = y := ⟨_, rfl⟩
      have y0 : 0 ≤ y := by omega
      have y1 : y < 1099511627776 := by omega
      obtain ⟨hi, hhi⟩ : ∃ hi, y * y / 18446744073709551616 = hi := ⟨_, rfl⟩
      obtain ⟨lo, hlo⟩ : ∃ lo, y * y % 18446744073709551616 = lo := ⟨_, rfl⟩
      have hb := hi_bd y0 y1 y0 y1
      rw [hhi] at hb
      have l0 : 0 ≤ lo := by omega
      have l1 : lo < 18446744073709551616 := by omega
      have hm := mask32 l0 l1
      obtain ⟨lo0, hlo0⟩ : ∃ x, lo % 4294967296 = x := ⟨_, rfl⟩
      obtain ⟨lo1, hlo1⟩ : ∃ x, lo / 4294967296 = x := ⟨_, rfl⟩
      rw [hlo0] at hm
      obtain ⟨A, hA⟩ : ∃ A, lo0 * y = A := ⟨_, rfl⟩
      obtain ⟨B, hB⟩ : ∃ B, lo1 * y = B := ⟨_, rfl⟩
      obtain ⟨C, hC⟩ : ∃ C, hi * y = C := ⟨_, rfl⟩
      have a0 : 0 ≤ A := by rw [← hA]; exact Int.mul_nonneg (by omega) y0
      have b0 : 0 ≤ B := by rw [← hB]; exact Int.mul_nonneg (by omega) y0
      have c0 : 0 ≤ C := by rw [← hC]; exact Int.mul_nonneg (by omega) y0
      have a1 : A ≤ 4294967295 * 1099511627775 := by rw [← hA]; exact Int.mul_le_mul (by omega) (by omega) y0 (by omega)
      have b1 : B ≤ 4294967295 * 1099511627775 := by rw [← hB]; exact Int.mul_le_mul (by omega) (by omega) y0 (by omega)
      have c1 : C ≤ 65535 * 1099511627775 := by rw [← hC]; exact Int.mul_le_mul (by omega) (by omega) y0 (by omega)
      have cube : y * y * y = C * 18446744073709551616 + B * 4294967296 + A := by
        have e : y * y = hi * 18446744073709551616 + lo1 * 4294967296 + lo0 := by omega
        rw [e, ← hA, ← hB, ← hC]; grind
      obtain ⟨h1, hh1⟩ : ∃ x, A / 18446744073709551616 = x := ⟨_, rfl⟩
      obtain ⟨m1, hm1⟩ : ∃ x, A % 18446744073709551616 = x := ⟨_, rfl⟩
      obtain ⟨h2, hh2⟩ : ∃ x, B / 18446744073709551616 = x := ⟨_, rfl⟩
      obtain ⟨m2, hm2⟩ : ∃ x, B % 18446744073709551616 = x := ⟨_, rfl⟩
      obtain ⟨q2, hq2⟩ : ∃ x, m2 / 4294967296 = x := ⟨_, rfl⟩
      obtain ⟨ad', had⟩ : ∃ x, IntKind.u64.wrap (m2 * 4294967296) = x := ⟨_, rfl⟩
      obtain ⟨z, hz⟩ : ∃ x, IntKind.u64.wrap (m1 + ad') = x := ⟨_, rfl⟩
      have had' := had
      have hz' := hz
      rw [IntKind.wrap_u64] at had' hz'
      have C0 : C / 18446744073709551616 = 0 := by omega
      have C1 : C % 18446744073709551616 = C := by omega
      -- the carry
      obtain ⟨cy, hcy⟩ : ∃ cy : Int, (z < ad' ∧ cy = 1 ∨ ad' ≤ z ∧ cy = 0) := by
        rcases Int.lt_or_le z ad' with g | g
        · exact ⟨1, .inl ⟨g, rfl⟩⟩
        · exact ⟨0, .inr ⟨g, rfl⟩⟩
      have CUBE : y * y * y = (h1 + cy + q2 + h2 * 4294967296 + C) * 18446744073709551616 + z := by rw [cube]; omega
      have z0 : 0 ≤ z := by omega
      have z1 : z < 18446744073709551616 := by omega
      have TEST := Lib.hid (cb_test H.out y0 CUBE z0 z1)
      have hh10 : 0 ≤ h1 := by omega
      have hh11 : h1 ≤ 256 := by omega
      have hh20 : 0 ≤ h2 := by omega
      have hh21 : h2 ≤ 256 := by omega
      have q0 : 0 ≤ q2 := by omega
      have q1 : q2 < 4294967296 := by omega
      have m10 : 0 ≤ m1 := by omega
      have m20 : 0 ≤ m2 := by omega
      have ad0 : 0 ≤ ad' := by omega
      obtain ⟨hb0, hb1⟩ := hb
      have lb1 : lo1 < 4294967296 := by omega
      have lb0 : 0 ≤ lo1 := by omega
      have la1 : lo0 < 4294967296 := by omega
      have la0 : 0 ≤ lo0 := by omega
      have HHI := Lib.hid hhi
      have HLO := Lib.hid hlo
      have HA := Lib.hid hA
      have HB := Lib.hid hB
      have HC := Lib.hid hC
      have HH1 := Lib.hid hh1
      have HM1 := Lib.hid hm1
      have HH2 := Lib.hid hh2
      have HM2 := Lib.hid hm2
      have HC0 := Lib.hid C0
      have HC1 := Lib.hid C1
      have Y1 := Lib.hid y1
      have X01 := Lib.hid (show X + P2 * 2 ≤ 1099511627776 ∧ r < X + P2 * 2 from ⟨x3, x2⟩)
      have m11 : m1 < 18446744073709551616 := by omega
      have m21 : m2 < 18446744073709551616 := by omega
      have ad1 : ad' < 18446744073709551616 := by omega
      have M11 := Lib.hid m11
      have HY := Lib.hid hy
      have C1' : C ≤ 72057594037927936 := by omega
      clear hhi hlo hA hB hC hh1 hm1 hh2 hm2 C0 C1 hv CUBE cube had' hz' hlo0 a1 b1 c1 x2 x3
      rcases hcy with ⟨hc, rfl⟩ | ⟨hc, rfl⟩
      all_goals
        go_wp2_with fail
        refine (times_n y0 Y1.out y0 Y1.out HHI.out HLO.out _).mono ?_
        rintro e w1 ⟨rfl, rfl⟩
        go_wp2_with fail
        refine (times_n (hi := h1) (lo := m1) (by omega) (by omega) y0 Y1.out (by rw [HA.out]; exact HH1.out) (by rw [HA.out]; exact HM1.out) _).mono ?_
        rintro e w1 ⟨rfl, rfl⟩
        go_wp2_with fail
        refine (times_n (hi := h2) (lo := m2) (by omega) (by omega) y0 Y1.out (by rw [HB.out]; exact HH2.out) (by rw [HB.out]; exact HM2.out) _).mono ?_
        rintro e w1 ⟨rfl, rfl⟩
        go_wp2_with fail
        refine (times_n (hi := 0) (lo := C) (by omega) (by omega) y0 Y1.out (by rw [HC.out]; exact HC0.out) (by rw [HC.out]; exact HC1.out) _).mono ?_
        rintro e w1 ⟨rfl, rfl⟩
        go_wp2_with fail
        all_goals
          go_roundw
          case rel =>
            have T := TEST.out
            have X1 := X01.out
            have hy := HY.out
            have k1 := mask32 (show 0 ≤ h1 + 1 + q2 + h2 * 4294967296 + C by omega) (by omega)
            have k0 := mask32 (show 0 ≤ h1 + q2 + h2 * 4294967296 + C by omega) (by omega)
            first
            | (have e := eq_of_beq (by assumption : (z == 0) = true)
               exact ⟨b, _, y, by omega, rfl, rfl, rfl, by omega, by omega, by rw [hP2]; omega, by rw [hP2]; omega, rfl⟩)
            | (have e := ne_of_beq_false (by assumption : (z == 0) = false)
               exact ⟨b, _, X, by omega, rfl, rfl, rfl, by omega, by omega, by rw [hP2]; omega, by rw [hP2]; omega, rfl⟩)
            | exact ⟨b, _, y, by omega, rfl, rfl, rfl, by omega, by omega, by rw [hP2]; omega, by rw [hP2]; omega, rfl⟩
            | exact ⟨b, _, X, by omega, rfl, rfl, rfl, by omega, by omega, by rw [hP2]; omega, by rw [hP2]; omega, rfl⟩
          case measure => simp [intOf]
end Go.Proofs.YtnfncaaclpddkaaDoor
