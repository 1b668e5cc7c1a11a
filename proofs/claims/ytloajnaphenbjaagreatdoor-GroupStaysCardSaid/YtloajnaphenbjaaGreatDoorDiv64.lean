/-
  What bits.Div64 answers where the divisor's highest bit is set: the quotient.
-/
import Derived.Test.YtloajnaphenbjaaGreatDoorNm
import Derived.Test.YtloajnaphenbjaaGreatDoorCmp
import Derived.Laws.BitsLemmas
import Derived.Laws.Bits64b
import Derived.Deep.DeepCutAuto
import Derived.Deep.CutBlock
namespace Go.Proofs.YtloajnaphenbjaaGreatDoor
open Go.RowKit
set_option linter.unusedVariables false
theorem bitLen_top {x : Nat} (h0 : 9223372036854775808 ≤ x) (h1 : x < 18446744073709551616) : Lib.bitLen x = 64 := by
  have h := Lib.bitLen_shift 63 x (by omega) (by omega)
  have e : x / 2 ^ 63 = 1 := by omega
  rw [h, e]; decide
theorem lz64_top (x : Int) (w : World) (h0 : 9223372036854775808 ≤ x) (h1 : x < 18446744073709551616) :
    Calls Tryz.prog 113 #[.int .u64 x] w fun e w' => e = .returned (.int .i64 0) ∧ w = w' := by
  refine (lz64 x w (by omega) h1).mono fun e w' ⟨he, hw⟩ => ⟨?_, hw⟩
  subst he
  rw [bitLen_top (x := x.toNat) (by omega) (by omega)]; rfl
/-! ### A digit of a quotient, guessed and made less -/
section
variable {u d y1 y0 a t : Int}
theorem dq_init (u0 : 0 ≤ u) (uy : u < y1 * 4294967296 + y0) (d0 : 0 ≤ d) (d1 : d < 4294967296) (ya : 2147483648 ≤ y1) (yb : y1 < 4294967296) (za : 0 ≤ y0) (zb : y0 < 4294967296) :
    0 ≤ u / y1 ∧ u / y1 ≤ 4294967297 ∧ 0 ≤ u - u / y1 * y1 ∧ u - u / y1 * y1 < 4294967296 ∧ u * 4294967296 + d < (u / y1 + 1) * (y1 * 4294967296 + y0) := by
  have hd := Int.emod_add_mul_ediv u y1
  have m0 := Int.emod_nonneg u (show y1 ≠ 0 by omega)
  have m1 := Int.emod_lt_of_pos u (show 0 < y1 by omega)
  have q0 := Int.ediv_nonneg u0 (show 0 ≤ y1 by omega)
  rw [Int.mul_comm y1] at hd
  have q1 : u / y1 < 4294967298 := Int.ediv_lt_of_lt_mul (by omega) (by omega)
  refine ⟨q0, by omega, by omega, by omega, ?_⟩
  have e1 : (u / y1 + 1) * (y1 * 4294967296 + y0) = (u / y1 * y1 + y1) * 4294967296 + (u / y1 + 1) * y0 := by grind
  have e2 : 0 ≤ (u / y1 + 1) * y0 := Int.mul_nonneg (by omega) za
  rw [e1]
  omega
theorem dq_over (uy : u < y1 * 4294967296 + y0) (d1 : d < 4294967296) (ya : 2147483648 ≤ y1) (za : 0 ≤ y0) (ha : 4294967296 ≤ a) : u * 4294967296 + d < a * (y1 * 4294967296 + y0) := by
  have : 4294967296 * (y1 * 4294967296 + y0) ≤ a * (y1 * 4294967296 + y0) := Int.mul_le_mul_of_nonneg_right ha (by omega)
  omega
theorem dq_test (e : a * y1 + t = u) (h : 4294967296 * t + d < a * y0) : u * 4294967296 + d < a * (y1 * 4294967296 + y0) := by
  have e1 : a * (y1 * 4294967296 + y0) = a * y1 * 4294967296 + a * y0 := by grind
  rw [e1]; omega
theorem dq_exit (e : a * y1 + t = u) (h : a * y0 ≤ 4294967296 * t + d) : a * (y1 * 4294967296 + y0) ≤ u * 4294967296 + d := by
  have e1 : a * (y1 * 4294967296 + y0) = a * y1 * 4294967296 + a * y0 := by grind
  rw [e1]; omega
theorem dq_break (e : a * y1 + t = u) (d0 : 0 ≤ d) (za : 0 ≤ y0) (zb : y0 < 4294967296) (ha : a ≤ 4294967296) (a0 : 0 ≤ a) (ht : 4294967296 ≤ t) : a * (y1 * 4294967296 + y0) ≤ u * 4294967296 + d := by
  apply dq_exit e
  have : a * y0 ≤ 4294967296 * 4294967295 := Int.mul_le_mul ha (by omega) za (by decide)
  omega
theorem dq_lt {Y n : Int} (h : a * Y ≤ n) (hn : n < Y * 4294967296) (hY : 0 < Y) : a < 4294967296 := by
  rcases Int.lt_or_le a 4294967296 with g | g
  · exact g
  · have := Int.mul_le_mul_of_nonneg_right g (show 0 ≤ Y by omega)
    omega
end
def DqR (u d y1 y0 : Int) (q r : Value) : Prop :=
  ∃ a t : Int, q = .int .u64 a ∧ r = .int .u64 t ∧ 0 ≤ a ∧ a ≤ 4294967297 ∧ 0 ≤ t ∧ t < 4294967296 ∧ a * y1 + t = u ∧ u * 4294967296 + d < (a + 1) * (y1 * 4294967296 + y0)
/-- The digit. -/
def DqP (u d y1 y0 : Int) (w : World) (q : Value) (w' : World) : Prop :=
  ∃ a : Int, q = .int .u64 a ∧ 0 ≤ a ∧ a < 4294967296 ∧ a * (y1 * 4294967296 + y0) ≤ u * 4294967296 + d ∧ u * 4294967296 + d < (a + 1) * (y1 * 4294967296 + y0) ∧ w = w'
def QAns (q : Int) (w : World) (e : Ending) (w' : World) : Prop := (∃ r, e = .returned (.tuple #[.int .u64 q, .int .u64 r])) ∧ ∃ m, w' = w.drewN m
theorem and_mask {a : Int} (h0 : 0 ≤ a) (h1 : a < 18446744073709551616) : bits .and .u64 a 4294967295 = a % 4294967296 := by
  obtain ⟨a, rfl⟩ := Int.eq_ofNat_of_zero_le h0
  have h := bits_and_u64_nat a 4294967295 (by omega) (by omega)
  have e : a &&& 4294967295 = a % 4294967296 := Nat.and_two_pow_sub_one_eq_mod a 32
  rw [e] at h
  exact h
theorem or_none {a b : Int} (h0 : 0 ≤ a) (h1 : a < 18446744073709551616) (hb : b = 0) : bits .or .u64 a b = a := by
  subst hb
  obtain ⟨a, rfl⟩ := Int.eq_ofNat_of_zero_le h0
  have h := bits_or_u64_nat a 0 (by omega) (by omega)
  simpa using h
theorem rest_mod {u d p : Int} (d0 : 0 ≤ d) (d1 : d < 4294967296) (h0 : 0 ≤ u * 4294967296 + d - p) (h1 : u * 4294967296 + d - p < 18446744073709551616) :
    IntKind.u64.wrap (IntKind.u64.wrap (IntKind.u64.wrap (u * 4294967296) + d) - IntKind.u64.wrap p) = u * 4294967296 + d - p := by
  simp only [IntKind.wrap_u64]
  omega
theorem quot_two {hi lo y yh yl lh ll q1 q0 u2 : Int} (ey : y = yh * 4294967296 + yl) (el : lo = lh * 4294967296 + ll) (hu : hi * 4294967296 + lh - q1 * y = u2)
    (h0 : q0 * (yh * 4294967296 + yl) ≤ u2 * 4294967296 + ll) (h1 : u2 * 4294967296 + ll < (q0 + 1) * (yh * 4294967296 + yl)) (hy : 0 < y) : (hi * W + lo) / y = q1 * 4294967296 + q0 := by
  rw [← ey] at h0 h1
  have e : hi * W + lo = (u2 * 4294967296 + ll - q0 * y) + y * (q1 * 4294967296 + q0) := by
    have hW : W = 4294967296 * 4294967296 := by decide
    rw [hW, el, ← hu]; grind
  rw [e, Int.add_mul_ediv_left _ _ (by omega), Int.ediv_eq_zero_of_lt (by omega) (by rw [Int.add_mul] at h1; omega)]
  simp
set_option maxHeartbeats 4000000 in
theorem div64_any (hi lo y : Int) (w : World) (h0 : 0 ≤ hi) (h1 : hi < y) (l0 : 0 ≤ lo) (l1 : lo < 18446744073709551616) (y0 : 9223372036854775808 ≤ y) (y1 : y < 18446744073709551616) :
    Calls Tryz.prog 122 #[.int .u64 hi, .int .u64 lo, .int .u64 y] w (QAns ((hi * W + lo) / y) w) := by
  by_cases hz : hi = 0
  · subst hz
    have e0 : (0 * W + lo) / y = lo / y := by simp
    rw [e0]
    clear e0
    have yn : (y == 0) = false := by simp; omega
    go_enter Tryz.func122, Tryz.ntmps122
    go_wp2_with fail
    go_quiet (fail)
    go_wp2
    go_ret2
    exact ⟨⟨_, rfl⟩, _, rfl⟩
  · have hne : (hi == 0) = false := by simpa using hz
    have hp : 1 ≤ hi := by omega
    clear hz
    obtain ⟨yh, hyh⟩ : ∃ v, y / 4294967296 = v := ⟨_, rfl⟩
    obtain ⟨yl, hyl⟩ : ∃ v, y % 4294967296 = v := ⟨_, rfl⟩
    obtain ⟨lh, hlh⟩ : ∃ v, lo / 4294967296 = v := ⟨_, rfl⟩
    obtain ⟨ll, hll⟩ : ∃ v, lo % 4294967296 = v := ⟨_, rfl⟩
    have hyl' : bits .and .u64 y 4294967295 = yl := by rw [and_mask (by omega) y1]; exact hyl
    have hll' : bits .and .u64 lo 4294967295 = ll := by rw [and_mask l0 l1]; exact hll
    have hor : bits .or .u64 hi (lo / 18446744073709551616) = hi := or_none h0 (by omega) (by omega)
    have b1 : 2147483648 ≤ yh := by omega
    have b2 : yh < 4294967296 := by omega
    have b3 : 0 ≤ yl := by omega
    have b4 : yl < 4294967296 := by omega
    have b5 : 0 ≤ lh := by omega
    have b6 : lh < 4294967296 := by omega
    have b7 : 0 ≤ ll := by omega
    have b8 : ll < 4294967296 := by omega
    have ey : y = yh * 4294967296 + yl := by omega
    have el : lo = lh * 4294967296 + ll := by omega
    have EY := Lib.hid ey
    have EL := Lib.hid el
    clear ey el hyl hll
    have hI := dq_init (u := hi) (d := lh) h0 (by rw [← EY.out]; exact h1) b5 b6 b1 b2 b3 b4
    obtain ⟨a0, ha0⟩ : ∃ v, hi / yh = v := ⟨_, rfl⟩
    obtain ⟨p0, hp0⟩ : ∃ v, a0 * yh = v := ⟨_, rfl⟩
    rw [ha0] at hI
    rw [hp0] at hI
    obtain ⟨i1, i2, i3, i4, i5⟩ := hI
    have HI5 := Lib.hid i5
    clear i5
    have hp1 : 0 ≤ p0 := by rw [← hp0]; exact Int.mul_nonneg i1 (by omega)
    have HP0 := Lib.hid hp0
    have HA0 := Lib.hid ha0
    have HUY := Lib.hid (show hi < yh * 4294967296 + yl by rw [← EY.out]; exact h1)
    go_enter Tryz.func122, Tryz.ntmps122
    go_wp2_with fail
    refine (lz64_top y _ y0 y1).mono ?_
    rintro e w1 ⟨rfl, rfl⟩
    go_upto_block 0 with fail
    clear hp0 ha0 hyl' hll' hor hyh hlh
    go_cut [15] (fun q wx => DqP hi lh yh yl w q wx)
    case first =>
      go_wp2_with fail
      go_loop [15, 16] (fun q r => DqR hi lh yh yl q r) (fun q _ => (intOf q).toNat)
      case atStart => exact ⟨_, _, rfl, rfl, by first | exact i1 | (rw [HA0.out]; exact i1), by first | exact i2 | (rw [HA0.out]; exact i2), i3, i4, by first | (rw [HA0.out, HP0.out]; omega) | (rw [HP0.out]; omega), by first | exact HI5.out | (rw [HA0.out]; exact HI5.out)⟩
      case round =>
        obtain ⟨a, t, rfl, rfl, a0', a1', t0, t1, et, hlt⟩ := hrel
        have ET := Lib.hid et
        have HLT := Lib.hid hlt
        clear et hlt
        by_cases ha : a < 4294967296
        · obtain ⟨p, hp⟩ : ∃ v, a * yl = v := ⟨_, rfl⟩
          have pa : 0 ≤ p := by rw [← hp]; exact Int.mul_nonneg a0' b3
          have pb : p < 18446744073709551616 := by
            have := Int.mul_le_mul (show a ≤ 4294967295 by omega) (show yl ≤ 4294967295 by omega) b3 (by decide)
            rw [hp] at this; omega
          have HPP := Lib.hid hp
          by_cases hc : 4294967296 * t + lh < p
          · have hu := dq_test (y0 := yl) ET.out (by rw [HPP.out]; exact hc)
            have HU := Lib.hid hu
            clear hu
            have ap : 1 ≤ a := by
              rcases Int.lt_or_le 0 a with g | g
              · omega
              · have : a = 0 := by omega
                rw [← HPP.out, this] at hc; simp at hc; omega
            by_cases hb : 4294967296 ≤ t + yh
            · go_wp2_with fail
              go_meet
              have e2 : (a - 1) * yh + (t + yh) = hi := by have := ET.out; rw [Int.sub_mul]; omega
              have f := dq_break (y0 := yl) e2 b5 b3 b4 (by omega) (by omega) hb
              exact ⟨_, rfl, by omega, dq_lt f (by have := HUY.out; omega) (by omega), f, by rw [Int.sub_add_cancel]; exact HU.out, rfl⟩
            · go_wp2_with fail
              go_round
              case rel => exact ⟨_, _, rfl, rfl, by omega, by omega, by omega, by omega, by have := ET.out; rw [Int.sub_mul]; omega, by rw [Int.sub_add_cancel]; exact HU.out⟩
              case measure => simp [intOf]; omega
          · have hc' : p ≤ 4294967296 * t + lh := by omega
            have f := dq_exit (y0 := yl) (d := lh) ET.out (by rw [HPP.out]; exact hc')
            have FF := Lib.hid f
            clear f hc
            go_wp2_with fail
            go_meet
            exact ⟨a, rfl, a0', ha, FF.out, HLT.out, rfl⟩
        · have ha' : 4294967296 ≤ a := by omega
          have hu := dq_over (u := hi) (d := lh) (y1 := yh) (y0 := yl) (by have := HUY.out; omega) b6 b1 b3 ha'
          have HU := Lib.hid hu
          clear hu ha
          by_cases hb : 4294967296 ≤ t + yh
          · go_wp2_with fail
            go_meet
            have e2 : (a - 1) * yh + (t + yh) = hi := by have := ET.out; rw [Int.sub_mul]; omega
            have f := dq_break (y0 := yl) e2 b5 b3 b4 (by omega) (by omega) hb
            exact ⟨_, rfl, by omega, dq_lt f (by have := HUY.out; omega) (by omega), f, by rw [Int.sub_add_cancel]; exact HU.out, rfl⟩
          · go_wp2_with fail
            go_round
            case rel => exact ⟨_, _, rfl, rfl, by omega, by omega, by omega, by omega, by have := ET.out; rw [Int.sub_mul]; omega, by rw [Int.sub_add_cancel]; exact HU.out⟩
            case measure => simp [intOf]; omega
    case rest =>
      obtain ⟨q1, rfl, q1a, q1b, q1c, q1d, rfl⟩ := hcut
      have Q1C := Lib.hid q1c
      have Q1D := Lib.hid q1d
      clear q1c q1d
      have hq := Q1C.out
      have hq' := Q1D.out
      rw [← EY.out] at hq hq'
      rw [Int.add_mul] at hq'
      obtain ⟨u2, hu2⟩ : ∃ v, hi * 4294967296 + lh - q1 * y = v := ⟨_, rfl⟩
      have hw := rest_mod (u := hi) (d := lh) (p := q1 * y) b5 b6 (by omega) (by omega)
      rw [hu2] at hw
      have u0 : 0 ≤ u2 := by omega
      have u1 : u2 < y := by omega
      have HU2 := Lib.hid hu2
      clear hq hq' hu2
      have hJ := dq_init (u := u2) (d := ll) u0 (by rw [← EY.out]; exact u1) b7 b8 b1 b2 b3 b4
      obtain ⟨a2, ha2⟩ : ∃ v, u2 / yh = v := ⟨_, rfl⟩
      obtain ⟨p2, hp2⟩ : ∃ v, a2 * yh = v := ⟨_, rfl⟩
      rw [ha2] at hJ
      rw [hp2] at hJ
      obtain ⟨j1, j2, j3, j4, j5⟩ := hJ
      have HJ5 := Lib.hid j5
      clear j5
      have hp3 : 0 ≤ p2 := by rw [← hp2]; exact Int.mul_nonneg j1 (by omega)
      have HP2 := Lib.hid hp2
      have HA2 := Lib.hid ha2
      have HUY2 := Lib.hid (show u2 < yh * 4294967296 + yl by rw [← EY.out]; exact u1)
      go_upto_block 2 with fail
      clear hw ha2 hp2
      go_cut [18] (fun q wx => DqP u2 ll yh yl w q wx)
      case first =>
        go_wp2_with fail
        go_loop [18, 16] (fun q r => DqR u2 ll yh yl q r) (fun q _ => (intOf q).toNat)
        case atStart => exact ⟨_, _, rfl, rfl, by first | exact j1 | (rw [HA2.out]; exact j1), by first | exact j2 | (rw [HA2.out]; exact j2), j3, j4, by first | (rw [HA2.out, HP2.out]; omega) | (rw [HP2.out]; omega), by first | exact HJ5.out | (rw [HA2.out]; exact HJ5.out)⟩
        case round =>
          obtain ⟨a, t, rfl, rfl, a0', a1', t0, t1, et, hlt⟩ := hrel
          have ET := Lib.hid et
          have HLT := Lib.hid hlt
          clear et hlt
          by_cases ha : a < 4294967296
          · obtain ⟨p, hp⟩ : ∃ v, a * yl = v := ⟨_, rfl⟩
            have pa : 0 ≤ p := by rw [← hp]; exact Int.mul_nonneg a0' b3
            have pb : p < 18446744073709551616 := by
              have := Int.mul_le_mul (show a ≤ 4294967295 by omega) (show yl ≤ 4294967295 by omega) b3 (by decide)
              rw [hp] at this; omega
            have HPP := Lib.hid hp
            by_cases hc : 4294967296 * t + ll < p
            · have hu := dq_test (y0 := yl) ET.out (by rw [HPP.out]; exact hc)
              have HU := Lib.hid hu
              clear hu
              have ap : 1 ≤ a := by
                rcases Int.lt_or_le 0 a with g | g
                · omega
                · have : a = 0 := by omega
                  rw [← HPP.out, this] at hc; simp at hc; omega
              by_cases hb : 4294967296 ≤ t + yh
              · go_wp2_with fail
                go_meet
                have e2 : (a - 1) * yh + (t + yh) = u2 := by have := ET.out; rw [Int.sub_mul]; omega
                have f := dq_break (y0 := yl) e2 b7 b3 b4 (by omega) (by omega) hb
                exact ⟨_, rfl, by omega, dq_lt f (by have := HUY2.out; omega) (by omega), f, by rw [Int.sub_add_cancel]; exact HU.out, rfl⟩
              · go_wp2_with fail
                go_round
                case rel => exact ⟨_, _, rfl, rfl, by omega, by omega, by omega, by omega, by have := ET.out; rw [Int.sub_mul]; omega, by rw [Int.sub_add_cancel]; exact HU.out⟩
                case measure => simp [intOf]; omega
            · have hc' : p ≤ 4294967296 * t + ll := by omega
              have f := dq_exit (y0 := yl) (d := ll) ET.out (by rw [HPP.out]; exact hc')
              have FF := Lib.hid f
              clear f hc
              go_wp2_with fail
              go_meet
              exact ⟨a, rfl, a0', ha, FF.out, HLT.out, rfl⟩
          · have ha' : 4294967296 ≤ a := by omega
            have hu := dq_over (u := u2) (d := ll) (y1 := yh) (y0 := yl) (by have := HUY2.out; omega) b8 b1 b3 ha'
            have HU := Lib.hid hu
            clear hu ha
            by_cases hb : 4294967296 ≤ t + yh
            · go_wp2_with fail
              go_meet
              have e2 : (a - 1) * yh + (t + yh) = u2 := by have := ET.out; rw [Int.sub_mul]; omega
              have f := dq_break (y0 := yl) e2 b7 b3 b4 (by omega) (by omega) hb
              exact ⟨_, rfl, by omega, dq_lt f (by have := HUY2.out; omega) (by omega), f, by rw [Int.sub_add_cancel]; exact HU.out, rfl⟩
            · go_wp2_with fail
              go_round
              case rel => exact ⟨_, _, rfl, rfl, by omega, by omega, by omega, by omega, by have := ET.out; rw [Int.sub_mul]; omega, by rw [Int.sub_add_cancel]; exact HU.out⟩
              case measure => simp [intOf]; omega
      case rest =>
        obtain ⟨q0, rfl, q0a, q0b, q0c, q0d, rfl⟩ := hcut
        have fin := quot_two EY.out EL.out HU2.out q0c q0d (by omega)
        have FIN := Lib.hid fin
        clear fin q0c q0d
        go_wp2
        go_ret2
        exact ⟨⟨_, by rw [FIN.out]; rfl⟩, 0, rfl⟩
end Go.Proofs.YtloajnaphenbjaaGreatDoor
