/-
  Several texts in one: Rnu, Rts, Rtc, Rpr, Shd0.
-/
import Derived.Test.YtjalncdllegfoaaGreatDoorHsa
import Derived.OwnWalk
import Derived.Deep.CutBlock
import Derived.Deep.DeepCutAuto
/-
  What the document's number, turn and times answer, and the law's number.
-/
namespace Go.Proofs.YtjalncdllegfoaaGreatDoor
open Go.RowKit
set_option linter.unusedVariables false
def NuR (N : Int) (kk : IntKind) (w : World) (n i : Value) (wr : World) : Prop :=
  ∃ (p : Nat) (v : Int) (zs : List Int), p ≤ 8 ∧ i = .int .i64 v ∧ v = (p : Int) - 1 ∧ n = .int kk (N / 256 ^ (8 - p)) ∧ Row wr w.heap.size 5 .u8 zs ∧ zs.length = 8 ∧ (∀ j, p ≤ j → j < 8 → dig zs j = N / 256 ^ (7 - j) % 256) ∧ Below w.heap.size w wr
theorem div_next {N : Int} (h0 : 0 ≤ N) {p : Nat} (hp : p + 1 ≤ 8) : N / 256 ^ (8 - (p + 1)) / 256 = N / 256 ^ (8 - p) := by
  rw [Int.ediv_ediv_of_nonneg (Int.le_of_lt (Int.pow_pos (by decide))), ← Int.pow_succ, show (8 - (p + 1)).succ = 8 - p by omega]
set_option maxHeartbeats 1000000 in
theorem number_any (N : Int) (h0 : 0 ≤ N) (h1 : N < 18446744073709551616) (w : World) :
    Calls Tryz.prog 91 #[.int .u64 N] w (AnsOb (be8 N) w) := by
  have hmk := fun W => run_make8 8 (C := 8) rfl (by omega) W
  obtain ⟨Z, hZ⟩ : ∃ Z : List Int, Z = List.replicate 8 0 := ⟨_, rfl⟩
  rw [← hZ] at hmk
  have HZ := Lib.hid hZ
  clear hZ
  go_enter Tryz.func91, Tryz.ntmps91
  go_wp2_with fail
  clear hmk
  go_loopw [0, 4] (fun n i wr => NuR N .u64 w n i wr) (fun _ i _ => (intOf i + 1).toNat)
  case atStart =>
    exact ⟨8, 7, Z, by omega, rfl, rfl, by simp, Row.new _ _ _ _, by rw [HZ.out]; simp, fun j h h' => by omega, (Below.refl _ _).alloc (Nat.le_refl _) _⟩
  case round =>
    obtain ⟨p, v, zs, hp, rfl, hv, rfl, hrow, hzl, hz, hb⟩ := hrel
    have HZE := Lib.hid hz
    have HZL := Lib.hid hzl
    clear hz
    rcases Nat.eq_zero_or_pos p with g | g
    · have hv1 : decide (0 ≤ v) = false := by simp; omega
      have hv2 : v < 0 := by omega
      have hbe : zs = be8 N := ext_dig (by rw [HZL.out, be8_len]) (fun j hj => by rw [HZL.out] at hj; rw [HZE.out j (by omega) hj, be8_dig_at hj])
      have hrow' : Row wr w.heap.size 5 .u8 (be8 N) := by rw [← hbe]; exact hrow
      have ho := Own8.of_row hrow' (Nat.le_refl _) (by rw [be8_len]; omega)
      rw [be8_len] at ho
      clear hzl hbe hrow' hv
      go_wp2_with fail
      go_ret
      exact ⟨_, rfl, ho, hb⟩
    · obtain ⟨m, rfl⟩ : ∃ m, p = m + 1 := ⟨p - 1, by omega⟩
      obtain rfl : v = (m : Int) := by omega
      have fz := hrow.frozen m
      have cz := hrow.cell (getElem?_dig (show m < zs.length by omega))
      obtain ⟨M, hM⟩ : ∃ M, N / 256 ^ (8 - (m + 1)) = M := ⟨_, rfl⟩
      have m0 : 0 ≤ M := by rw [← hM]; exact Int.ediv_nonneg h0 (Int.le_of_lt (Int.pow_pos (by decide)))
      have m1 : M < 18446744073709551616 := by rw [← hM]; have := Int.ediv_le_self (256 ^ (8 - (m + 1))) h0; omega
      rw [hM]
      have HM := Lib.hid hM
      clear hzl hM hv
      go_wp2_with fail
      go_roundw
      case rel =>
        refine ⟨m, _, _, by omega, rfl, rfl, ?_, hrow.set _ _, by simpa using HZL.out, fun j hj hj8 => ?_, hb.setCell (Nat.le_refl _) _⟩
        · rw [← HM.out, div_next h0 (by omega)]
        · rcases Nat.lt_or_ge m j with g | g
          · rw [dig_set_ne (by omega)]; exact HZE.out j (by omega) hj8
          · obtain rfl : j = m := by omega
            rw [dig_set_same (by rw [HZL.out]; omega), ← HM.out, show 8 - (j + 1) = 7 - j by omega]
      case measure => simp [intOf]
/-! ### turn -/
theorem rot_zero (x : Int) : rot 0 x = x := by unfold rot; simp
theorem rot_step {n : Nat} (hn : n + 1 ≤ 32) {x : Int} (hx : Wd x) : rot n x / 2 + rot n x % 2 * 2147483648 = rot (n + 1) x := by
  have hp : (0 : Int) < 2 ^ n := Int.pow_pos (by decide)
  have e1 : (2 : Int) ^ (32 - n) = 2 ^ (32 - (n + 1)) * 2 := by rw [← Int.pow_succ, show (32 - (n + 1)).succ = 32 - n by omega]
  have e2 : (2 : Int) ^ (n + 1) = 2 ^ n * 2 := Int.pow_succ _ _
  have e3 : (2 : Int) ^ n * 2 ^ (32 - (n + 1)) = 2147483648 := by rw [← Int.pow_add, show n + (32 - (n + 1)) = 31 by omega]; decide
  have d1 : x / 2 ^ (n + 1) = x / 2 ^ n / 2 := by rw [e2, Int.ediv_ediv_of_nonneg (Int.le_of_lt hp)]
  have d2 : x % 2 ^ (n + 1) = x % 2 ^ n + x / 2 ^ n % 2 * 2 ^ n := by
    rw [e2]
    have a := Int.emod_add_mul_ediv x (2 ^ n)
    have b := Int.emod_add_mul_ediv x (2 ^ n * 2)
    have c := Int.emod_add_mul_ediv (x / 2 ^ n) 2
    rw [← Int.ediv_ediv_of_nonneg (Int.le_of_lt hp)] at b
    generalize x / 2 ^ n = y at *
    generalize (2 : Int) ^ n = t at *
    have e : t * 2 * (y / 2) = t * (y - y % 2) := by
      have : y - y % 2 = 2 * (y / 2) := by omega
      rw [this]; grind
    rw [e, Int.mul_sub] at b
    have f : y % 2 * t = t * (y % 2) := Int.mul_comm _ _
    omega
  unfold rot
  rw [d1, d2, e1]
  generalize x / 2 ^ n = y
  generalize x % 2 ^ n = z
  have e4 : y + z * (2 ^ (32 - (n + 1)) * 2) = y + z * 2 ^ (32 - (n + 1)) * 2 := by grind
  rw [e4, Int.add_mul_ediv_right _ _ (by decide), Int.add_mul_emod_self_right, Int.add_mul, show y % 2 * 2 ^ n * 2 ^ (32 - (n + 1)) = y % 2 * 2147483648 by rw [Int.mul_assoc, e3]]
  omega
theorem rot_wd {n : Nat} (hn : n ≤ 32) {x : Int} (hx : Wd x) : Wd (rot n x) := (rot_or hn hx).2
def TuR (x : Int) (n : Nat) (w : World) (y i : Value) (wr : World) : Prop := ∃ k : Nat, k ≤ n ∧ i = .int .i64 k ∧ y = .int .u32 (rot k x) ∧ w = wr
theorem turn_w (n : Nat) {v : Int} (hv : v = n) (hn : n ≤ 32) (x : Int) (hx : Wd x) (w : World) :
    Calls Tryz.prog 120 #[.int .u32 x, .int .i64 v] w fun e w' => e = .returned (.int .u32 (rot n x)) ∧ w = w' := by
  subst hv
  go_enter Tryz.func120, Tryz.ntmps120
  go_wp2_with fail
  go_loopw [0, 5] (fun y i wr => TuR x n w y i wr) (fun _ i _ => n - (intOf i).toNat)
  case atStart => exact ⟨0, Nat.zero_le _, rfl, by rw [rot_zero], rfl⟩
  case round =>
    obtain ⟨k, hk, rfl, rfl, rfl⟩ := hrel
    rcases Nat.lt_or_ge k n with hlt | hge
    · have hw := rot_wd (show k ≤ 32 by omega) hx
      have hs := rot_step (show k + 1 ≤ 32 by omega) hx
      have hw2 := rot_wd (show k + 1 ≤ 32 by omega) hx
      obtain ⟨y, hy⟩ : ∃ y, rot k x = y := ⟨_, rfl⟩
      rw [hy] at hs hw ⊢
      have h0 := hw.1
      have h1 := hw.2
      have HS := Lib.hid hs
      have HW2 := Lib.hid hw2
      have hki : (k : Int) < (n : Int) := by omega
      clear hy hs hw2
      go_wp2_with fail
      go_roundw
      case rel => exact ⟨k + 1, by omega, by go_num, by rw [← HS.out], rfl⟩
      case measure => simp [intOf]; omega
    · obtain rfl : k = n := by omega
      go_wp2_with fail
      go_ret
      exact ⟨rfl, rfl⟩
end Go.Proofs.YtjalncdllegfoaaGreatDoor
/-
  What the document's times and root answer.
-/
namespace Go.Proofs.YtjalncdllegfoaaGreatDoor
open Go.RowKit
set_option linter.unusedVariables false
theorem mask32 {a : Int} (h0 : 0 ≤ a) (h1 : a < 18446744073709551616) : bits .and .u64 a 4294967295 = a % 4294967296 := by
  have h := bits_mask .u64 64 (by decide) wraps_u64 32 (by decide) a h0 (by omega)
  rw [show (2 : Int) ^ 32 - 1 = 4294967295 by decide, show (2 : Int) ^ 32 = 4294967296 by decide] at h
  exact h
theorem tup2 {k : IntKind} {a b c d : Int} (h : a = c) (h' : b = d) : Ending.returned (.tuple #[.int k a, .int k b]) = Ending.returned (.tuple #[.int k c, .int k d]) := by rw [h, h']
set_option maxHeartbeats 1000000 in
theorem times_any' (a b : Int) (a0 : 0 ≤ a) (a1 : a < 1099511627776) (b0 : 0 ≤ b) (b1 : b < 1099511627776) (w : World) :
    Calls Tryz.prog 119 #[.int .u64 a, .int .u64 b] w fun e w' => e = .returned (.tuple #[.int .u64 (a * b / 18446744073709551616), .int .u64 (a * b % 18446744073709551616)]) ∧ w = w' := by
  have ea := mask32 a0 (by omega)
  have eb := mask32 b0 (by omega)
  obtain ⟨ah, hah⟩ : ∃ ah, a / 4294967296 = ah := ⟨_, rfl⟩
  obtain ⟨al, hal⟩ : ∃ al, a % 4294967296 = al := ⟨_, rfl⟩
  obtain ⟨bh, hbh⟩ : ∃ bh, b / 4294967296 = bh := ⟨_, rfl⟩
  obtain ⟨bl, hbl⟩ : ∃ bl, b % 4294967296 = bl := ⟨_, rfl⟩
  rw [hal] at ea
  rw [hbl] at eb
  obtain ⟨hh, hhh⟩ : ∃ x, ah * bh = x := ⟨_, rfl⟩
  obtain ⟨Q, hQ⟩ : ∃ x, ah * bl = x := ⟨_, rfl⟩
  obtain ⟨R, hR⟩ : ∃ x, al * bh = x := ⟨_, rfl⟩
  obtain ⟨S, hS⟩ : ∃ x, al * bl = x := ⟨_, rfl⟩
  have eA : a = ah * 4294967296 + al := by omega
  have eB : b = bh * 4294967296 + bl := by omega
  have KEY := Lib.hid (show a * b = hh * 18446744073709551616 + (Q + R) * 4294967296 + S by rw [eA, eB, ← hhh, ← hQ, ← hR, ← hS]; grind)
  have h0 : 0 ≤ hh := by rw [← hhh]; exact Int.mul_nonneg (by omega) (by omega)
  have q0 : 0 ≤ Q := by rw [← hQ]; exact Int.mul_nonneg (by omega) (by omega)
  have r0 : 0 ≤ R := by rw [← hR]; exact Int.mul_nonneg (by omega) (by omega)
  have s0 : 0 ≤ S := by rw [← hS]; exact Int.mul_nonneg (by omega) (by omega)
  have h1 : hh ≤ 256 * 256 := by rw [← hhh]; exact Int.mul_le_mul (by omega) (by omega) (by omega) (by omega)
  have q1 : Q ≤ 256 * 4294967296 := by rw [← hQ]; exact Int.mul_le_mul (by omega) (by omega) (by omega) (by omega)
  have r1 : R ≤ 4294967296 * 256 := by rw [← hR]; exact Int.mul_le_mul (by omega) (by omega) (by omega) (by omega)
  have s1 : S ≤ 4294967295 * 4294967295 := by rw [← hS]; exact Int.mul_le_mul (by omega) (by omega) (by omega) (by omega)
  clear eA eB
  go_enter Tryz.func119, Tryz.ntmps119
  go_wp2_with fail
  all_goals
    go_ret2
    refine ⟨?_, rfl⟩
    rename_i hlo
    rw [IntKind.wrap_u64, IntKind.wrap_u64] at hlo
    have key := KEY.out
    refine tup2 ?_ ?_
    · rw [key]; omega
    · rw [key, IntKind.wrap_u64, IntKind.wrap_u64]; omega
theorem times_n {a b hi lo : Int} (a0 : 0 ≤ a) (a1 : a < 1099511627776) (b0 : 0 ≤ b) (b1 : b < 1099511627776) (h1 : a * b / 18446744073709551616 = hi) (h2 : a * b % 18446744073709551616 = lo) (w : World) :
    Calls Tryz.prog 119 #[.int .u64 a, .int .u64 b] w fun e w' => e = .returned (.tuple #[.int .u64 hi, .int .u64 lo]) ∧ w = w' := by
  subst h1 h2
  exact times_any' a b a0 a1 b0 b1 w
theorem hi_bd {a b : Int} (a0 : 0 ≤ a) (a1 : a < 1099511627776) (b0 : 0 ≤ b) (b1 : b < 1099511627776) : 0 ≤ a * b / 18446744073709551616 ∧ a * b / 18446744073709551616 < 65536 := by
  have h := Int.mul_nonneg a0 b0
  have h' := Int.mul_le_mul (show a ≤ 1099511627775 by omega) (show b ≤ 1099511627775 by omega) b0 (by omega)
  generalize a * b = c at *
  omega
/-! ### root -/
/-- r is the root of p. -/
def SqR (p r : Int) : Prop := 0 ≤ r ∧ r < 1099511627776 ∧ r * r ≤ p * 18446744073709551616 ∧ p * 18446744073709551616 < (r + 1) * (r + 1)
theorem mul_mono {a b : Int} (h0 : 0 ≤ a) (h : a ≤ b) : a * a ≤ b * b := Int.mul_le_mul h h h0 (by omega)
theorem sq_test {p r y : Int} (h : SqR p r) (y0 : 0 ≤ y) : (y * y / 18446744073709551616 < p ∨ y * y / 18446744073709551616 = p ∧ y * y % 18446744073709551616 = 0) ↔ y ≤ r := by
  obtain ⟨r0, -, h1, h2⟩ := h
  constructor
  · intro g
    rcases Int.lt_or_le r y with k | k
    · have := mul_mono (show 0 ≤ r + 1 by omega) (show r + 1 ≤ y by omega)
      generalize y * y = Y at *
      generalize (r + 1) * (r + 1) = R at *
      omega
    · exact k
  · intro g
    have := mul_mono y0 g
    generalize y * y = Y at *
    generalize r * r = R at *
    omega
/-- What the loop knows: the bits that are found, and that the root lies not further on. -/
def RtS (r : Int) (w : World) (x i : Value) (wr : World) : Prop :=
  ∃ (k : Nat) (v X : Int), k ≤ 40 ∧ i = .int .i64 v ∧ v = (k : Int) - 1 ∧ x = .int .u64 X ∧ 0 ≤ X ∧ X ≤ r ∧ r < X + 2 ^ k ∧ X + 2 ^ k ≤ 1099511627776 ∧ w = wr
set_option maxHeartbeats 4000000 in
set_option maxRecDepth 100000 in
theorem root_sq (p r : Int) (p0 : 0 ≤ p) (p1 : p < 65536) (h : SqR p r) (w : World) :
    Calls Tryz.prog 90 #[.int .u64 p, .bool false] w fun e w' => e = .returned (.int .u64 (r % 4294967296)) ∧ w = w' := by
  have r0 := h.1
  have r1 := h.2.1
  have H := Lib.hid h
  clear h
  go_enter Tryz.func90, Tryz.ntmps90
  go_wp2_with fail
  go_loopw [5, 6] (fun x i wr => RtS r w x i wr) (fun _ i _ => (intOf i + 1).toNat)
  case atStart => exact ⟨40, 39, 0, by omega, rfl, rfl, rfl, by omega, r0, by omega, by omega, rfl⟩
  case round =>
    obtain ⟨k, v, X, hk, rfl, hv, rfl, x0, x1, x2, x3, rfl⟩ := hrel
    rcases Nat.eq_zero_or_pos k with g | g
    · subst g
      have hv2 : v < 0 := by omega
      have hm := mask32 x0 (by omega)
      have hX : X = r := by omega
      have HX := Lib.hid hX
      clear hX hv x2 x3
      go_wp2_with fail
      go_ret
      exact ⟨by rw [HX.out]; rfl, rfl⟩
    · obtain ⟨b, rfl⟩ : ∃ b, k = b + 1 := ⟨k - 1, by omega⟩
      obtain rfl : v = (b : Int) := by omega
      rw [Int.pow_succ] at x2 x3
      obtain ⟨P2, hP2⟩ : ∃ P2 : Int, 2 ^ b = P2 := ⟨_, rfl⟩
      have hp0 : 0 < P2 := by rw [← hP2]; exact Int.pow_pos (by decide)
      rw [hP2] at x2 x3
      have hbi : (b : Int) ≤ 39 := by omega
      have TEST := Lib.hid (sq_test H.out (y := X + P2) (by omega))
      have hb := hi_bd (a := X + P2) (b := X + P2) (by omega) (by omega) (by omega) (by omega)
      obtain ⟨hi, hhi⟩ : ∃ hi, (X + P2) * (X + P2) / 18446744073709551616 = hi := ⟨_, rfl⟩
      obtain ⟨lo, hlo⟩ : ∃ lo, (X + P2) * (X + P2) % 18446744073709551616 = lo := ⟨_, rfl⟩
      rw [hhi] at hb TEST
      rw [hlo] at TEST
      have l0 : 0 ≤ lo := by omega
      have HHI := Lib.hid hhi
      have HLO := Lib.hid hlo
      have Y1 := Lib.hid (show X + P2 < 1099511627776 by omega)
      obtain ⟨hb0, hb1⟩ := hb
      clear hv hhi hlo
      go_wp2_with fail
      refine (times_n (by omega) Y1.out (by omega) Y1.out HHI.out HLO.out _).mono ?_
      rintro e w1 ⟨rfl, rfl⟩
      go_wp2_with fail
      all_goals
        go_roundw
        case rel =>
          have T := TEST.out
          first
          | (have e := eq_of_beq (by assumption : (lo == 0) = true)
             exact ⟨b, _, X + P2, by omega, rfl, rfl, rfl, by omega, by omega, by rw [hP2]; omega, by rw [hP2]; omega, rfl⟩)
          | (have e := ne_of_beq_false (by assumption : (lo == 0) = false)
             exact ⟨b, _, X, by omega, rfl, rfl, rfl, by omega, by omega, by rw [hP2]; omega, by rw [hP2]; omega, rfl⟩)
          | exact ⟨b, _, X + P2, by omega, rfl, rfl, rfl, by omega, by omega, by rw [hP2]; omega, by rw [hP2]; omega, rfl⟩
          | exact ⟨b, _, X, by omega, rfl, rfl, rfl, by omega, by omega, by rw [hP2]; omega, by rw [hP2]; omega, rfl⟩
        case measure => simp [intOf]
end Go.Proofs.YtjalncdllegfoaaGreatDoor
/-
  What the document's root answers of cubes.
-/
namespace Go.Proofs.YtjalncdllegfoaaGreatDoor
open Go.RowKit
set_option linter.unusedVariables false
/-- r is the third root of p. -/
def CbR (p r : Int) : Prop := 0 ≤ r ∧ r < 1099511627776 ∧ r * r * r ≤ p * 79228162514264337593543950336 ∧ p * 79228162514264337593543950336 < (r + 1) * (r + 1) * (r + 1)
theorem cb_mono {a b : Int} (h0 : 0 ≤ a) (h : a ≤ b) : a * a * a ≤ b * b * b := Int.mul_le_mul (mul_mono h0 h) h h0 (Int.mul_nonneg (by omega) (by omega))
theorem cb_test {p r y w1 w0 : Int} (h : CbR p r) (y0 : 0 ≤ y) (e : y * y * y = w1 * 18446744073709551616 + w0) (z0 : 0 ≤ w0) (z1 : w0 < 18446744073709551616) :
    (w1 / 4294967296 < p ∨ w1 / 4294967296 = p ∧ w1 % 4294967296 = 0 ∧ w0 = 0) ↔ y ≤ r := by
  obtain ⟨r0, -, h1, h2⟩ := h
  constructor
  · intro g
    rcases Int.lt_or_le r y with k | k
    · have := cb_mono (show 0 ≤ r + 1 by omega) (show r + 1 ≤ y by omega)
      generalize y * y * y = Y at *
      generalize (r + 1) * (r + 1) * (r + 1) = R at *
      omega
    · exact k
  · intro g
    have := cb_mono y0 g
    generalize y * y * y = Y at *
    generalize r * r * r = R at *
    omega
set_option maxHeartbeats 4000000 in
set_option maxRecDepth 100000 in
theorem root_cb (p r : Int) (p0 : 0 ≤ p) (p1 : p < 65536) (h : CbR p r) (w : World) :
    Calls Tryz.prog 90 #[.int .u64 p, .bool true] w fun e w' => e = .returned (.int .u64 (r % 4294967296)) ∧ w = w' := by
  have r0 := h.1
  have r1 := h.2.1
  have H := Lib.hid h
  clear h
  go_enter Tryz.func90, Tryz.ntmps90
  go_wp2_with fail
  go_loopw [5, 6] (fun x i wr => RtS r w x i wr) (fun _ i _ => (intOf i + 1).toNat)
  case atStart => exact ⟨40, 39, 0, by omega, rfl, rfl, rfl, by omega, r0, by omega, by omega, rfl⟩
  case round =>
    obtain ⟨k, v, X, hk, rfl, hv, rfl, x0, x1, x2, x3, rfl⟩ := hrel
    rcases Nat.eq_zero_or_pos k with g | g
    · subst g
      have hv2 : v < 0 := by omega
      have hm := mask32 x0 (by omega)
      have hX : X = r := by omega
      have HX := Lib.hid hX
      clear hX hv x2 x3
      go_wp2_with fail
      go_ret
      exact ⟨by rw [HX.out]; rfl, rfl⟩
    · obtain ⟨b, rfl⟩ : ∃ b, k = b + 1 := ⟨k - 1, by omega⟩
      obtain rfl : v = (b : Int) := by omega
      rw [Int.pow_succ] at x2 x3
      obtain ⟨P2, hP2⟩ : ∃ P2 : Int, 2 ^ b = P2 := ⟨_, rfl⟩
      have hp0 : 0 < P2 := by rw [← hP2]; exact Int.pow_pos (by decide)
      rw [hP2] at x2 x3
      have hbi : (b : Int) ≤ 39 := by omega
      obtain ⟨y, hy⟩ : ∃ y, X + P2 = y := ⟨_, rfl⟩
      have y0 : 0 ≤ y := by omega
      have y1 : y < 1099511627776 := by omega
      obtain ⟨hi, hhi⟩ : ∃ hi, y * y / 18446744073709551616 = hi := ⟨_, rfl⟩
      obtain ⟨lo, hlo⟩ : ∃ lo, y * y % 18446744073709551616 = lo := ⟨_, rfl⟩
      have hb := hi_bd y0 y1 y0 y1
      rw [hhi] at hb
      have l0 : 0 ≤ lo := by omega
      have l1 : lo < 18446744073709551616 := by omega
      have hm := mask32 l0 l1
      obtain ⟨lo0, hlo0⟩ : ∃ x, lo % 4294967296 = x := ⟨_, rfl⟩
      obtain ⟨lo1, hlo1⟩ : ∃ x, lo / 4294967296 = x := ⟨_, rfl⟩
      rw [hlo0] at hm
      obtain ⟨A, hA⟩ : ∃ A, lo0 * y = A := ⟨_, rfl⟩
      obtain ⟨B, hB⟩ : ∃ B, lo1 * y = B := ⟨_, rfl⟩
      obtain ⟨C, hC⟩ : ∃ C, hi * y = C := ⟨_, rfl⟩
      have a0 : 0 ≤ A := by rw [← hA]; exact Int.mul_nonneg (by omega) y0
      have b0 : 0 ≤ B := by rw [← hB]; exact Int.mul_nonneg (by omega) y0
      have c0 : 0 ≤ C := by rw [← hC]; exact Int.mul_nonneg (by omega) y0
      have a1 : A ≤ 4294967295 * 1099511627775 := by rw [← hA]; exact Int.mul_le_mul (by omega) (by omega) y0 (by omega)
      have b1 : B ≤ 4294967295 * 1099511627775 := by rw [← hB]; exact Int.mul_le_mul (by omega) (by omega) y0 (by omega)
      have c1 : C ≤ 65535 * 1099511627775 := by rw [← hC]; exact Int.mul_le_mul (by omega) (by omega) y0 (by omega)
      have cube : y * y * y = C * 18446744073709551616 + B * 4294967296 + A := by
        have e : y * y = hi * 18446744073709551616 + lo1 * 4294967296 + lo0 := by omega
        rw [e, ← hA, ← hB, ← hC]; grind
      obtain ⟨h1, hh1⟩ : ∃ x, A / 18446744073709551616 = x := ⟨_, rfl⟩
      obtain ⟨m1, hm1⟩ : ∃ x, A % 18446744073709551616 = x := ⟨_, rfl⟩
      obtain ⟨h2, hh2⟩ : ∃ x, B / 18446744073709551616 = x := ⟨_, rfl⟩
      obtain ⟨m2, hm2⟩ : ∃ x, B % 18446744073709551616 = x := ⟨_, rfl⟩
      obtain ⟨q2, hq2⟩ : ∃ x, m2 / 4294967296 = x := ⟨_, rfl⟩
      obtain ⟨ad', had⟩ : ∃ x, IntKind.u64.wrap (m2 * 4294967296) = x := ⟨_, rfl⟩
      obtain ⟨z, hz⟩ : ∃ x, IntKind.u64.wrap (m1 + ad') = x := ⟨_, rfl⟩
      have had' := had
      have hz' := hz
      rw [IntKind.wrap_u64] at had' hz'
      have C0 : C / 18446744073709551616 = 0 := by omega
      have C1 : C % 18446744073709551616 = C := by omega
      -- the carry
      obtain ⟨cy, hcy⟩ : ∃ cy : Int, (z < ad' ∧ cy = 1 ∨ ad' ≤ z ∧ cy = 0) := by
        rcases Int.lt_or_le z ad' with g | g
        · exact ⟨1, .inl ⟨g, rfl⟩⟩
        · exact ⟨0, .inr ⟨g, rfl⟩⟩
      have CUBE : y * y * y = (h1 + cy + q2 + h2 * 4294967296 + C) * 18446744073709551616 + z := by rw [cube]; omega
      have z0 : 0 ≤ z := by omega
      have z1 : z < 18446744073709551616 := by omega
      have TEST := Lib.hid (cb_test H.out y0 CUBE z0 z1)
      have hh10 : 0 ≤ h1 := by omega
      have hh11 : h1 ≤ 256 := by omega
      have hh20 : 0 ≤ h2 := by omega
      have hh21 : h2 ≤ 256 := by omega
      have q0 : 0 ≤ q2 := by omega
      have q1 : q2 < 4294967296 := by omega
      have m10 : 0 ≤ m1 := by omega
      have m20 : 0 ≤ m2 := by omega
      have ad0 : 0 ≤ ad' := by omega
      obtain ⟨hb0, hb1⟩ := hb
      have lb1 : lo1 < 4294967296 := by omega
      have lb0 : 0 ≤ lo1 := by omega
      have la1 : lo0 < 4294967296 := by omega
      have la0 : 0 ≤ lo0 := by omega
      have HHI := Lib.hid hhi
      have HLO := Lib.hid hlo
      have HA := Lib.hid hA
      have HB := Lib.hid hB
      have HC := Lib.hid hC
      have HH1 := Lib.hid hh1
      have HM1 := Lib.hid hm1
      have HH2 := Lib.hid hh2
      have HM2 := Lib.hid hm2
      have HC0 := Lib.hid C0
      have HC1 := Lib.hid C1
      have Y1 := Lib.hid y1
      have X01 := Lib.hid (show X + P2 * 2 ≤ 1099511627776 ∧ r < X + P2 * 2 from ⟨x3, x2⟩)
      have m11 : m1 < 18446744073709551616 := by omega
      have m21 : m2 < 18446744073709551616 := by omega
      have ad1 : ad' < 18446744073709551616 := by omega
      have M11 := Lib.hid m11
      have HY := Lib.hid hy
      have C1' : C ≤ 72057594037927936 := by omega
      clear hhi hlo hA hB hC hh1 hm1 hh2 hm2 C0 C1 hv CUBE cube had' hz' hlo0 a1 b1 c1 x2 x3
      rcases hcy with ⟨hc, rfl⟩ | ⟨hc, rfl⟩
      all_goals
        go_wp2_with fail
        refine (times_n y0 Y1.out y0 Y1.out HHI.out HLO.out _).mono ?_
        rintro e w1 ⟨rfl, rfl⟩
        go_wp2_with fail
        refine (times_n (hi := h1) (lo := m1) (by omega) (by omega) y0 Y1.out (by rw [HA.out]; exact HH1.out) (by rw [HA.out]; exact HM1.out) _).mono ?_
        rintro e w1 ⟨rfl, rfl⟩
        go_wp2_with fail
        refine (times_n (hi := h2) (lo := m2) (by omega) (by omega) y0 Y1.out (by rw [HB.out]; exact HH2.out) (by rw [HB.out]; exact HM2.out) _).mono ?_
        rintro e w1 ⟨rfl, rfl⟩
        go_wp2_with fail
        refine (times_n (hi := 0) (lo := C) (by omega) (by omega) y0 Y1.out (by rw [HC.out]; exact HC0.out) (by rw [HC.out]; exact HC1.out) _).mono ?_
        rintro e w1 ⟨rfl, rfl⟩
        go_wp2_with fail
        all_goals
          go_roundw
          case rel =>
            have T := TEST.out
            have X1 := X01.out
            have hy := HY.out
            have k1 := mask32 (show 0 ≤ h1 + 1 + q2 + h2 * 4294967296 + C by omega) (by omega)
            have k0 := mask32 (show 0 ≤ h1 + q2 + h2 * 4294967296 + C by omega) (by omega)
            first
            | (have e := eq_of_beq (by assumption : (z == 0) = true)
               exact ⟨b, _, y, by omega, rfl, rfl, rfl, by omega, by omega, by rw [hP2]; omega, by rw [hP2]; omega, rfl⟩)
            | (have e := ne_of_beq_false (by assumption : (z == 0) = false)
               exact ⟨b, _, X, by omega, rfl, rfl, rfl, by omega, by omega, by rw [hP2]; omega, by rw [hP2]; omega, rfl⟩)
            | exact ⟨b, _, y, by omega, rfl, rfl, rfl, by omega, by omega, by rw [hP2]; omega, by rw [hP2]; omega, rfl⟩
            | exact ⟨b, _, X, by omega, rfl, rfl, rfl, by omega, by omega, by rw [hP2]; omega, by rw [hP2]; omega, rfl⟩
          case measure => simp [intOf]
end Go.Proofs.YtjalncdllegfoaaGreatDoor
/-
  What the document's primes and Made answer.
-/
namespace Go.Proofs.YtjalncdllegfoaaGreatDoor
open Go.RowKit
set_option linter.unusedVariables false
/-- The first 64 primes. -/
def PL : List Int := [2, 3, 5, 7, 11, 13, 17, 19, 23, 29, 31, 37, 41, 43, 47, 53, 59, 61, 67, 71, 73, 79, 83, 89, 97, 101, 103, 107, 109, 113, 127, 131, 137, 139, 149, 151, 157, 163, 167, 173, 179, 181, 191, 193, 197, 199, 211, 223, 227, 229, 233, 239, 241, 251, 257, 263, 269, 271, 277, 281, 283, 293, 307, 311]
/-- Those below k. -/
def PLi (k : Nat) : List Int := PL.filter fun p => decide (p < (k : Int))
def nod (k : Nat) (l : List Int) : Bool := l.all fun p => !((k : Int) % p == 0)
theorem PLi_two : PLi 2 = [] := by decide
theorem PLi_end : PLi 312 = PL := by decide +kernel
theorem PLi_len : ∀ k, k < 313 → ((PLi k).length < 64 ↔ k < 312) := by decide +kernel
theorem PLi_next : ∀ k, k < 312 → 2 ≤ k → PLi (k + 1) = if nod k (PLi k) then PLi k ++ [(k : Int)] else PLi k := by decide +kernel
theorem PLi_bd {k : Nat} {x : Int} (h : x ∈ PLi k) : 2 ≤ x ∧ x ≤ 311 := by
  have h1 : x ∈ PL := (List.mem_filter.1 h).1
  have h2 : ∀ y ∈ PL, 2 ≤ y ∧ y ≤ 311 := by decide
  exact h2 x h1
theorem PLi_len_le (k : Nat) : (PLi k).length ≤ 64 := List.length_filter_le _ PL
def PrR (w : World) (v k : Value) (wr : World) : Prop :=
  ∃ m : Nat, 2 ≤ m ∧ m ≤ 312 ∧ k = .int .i64 m ∧ wr.ownsRow w.heap.size 3 1 v (PLi m).length ((PLi m).map (Value.int .i64)) ∧ Below w.heap.size w wr
def PrI (m : Nat) (w : World) (ok i : Value) (wr : World) : Prop :=
  ∃ j : Nat, j ≤ (PLi m).length ∧ i = .int .i64 j ∧ ok = .bool (nod m ((PLi m).take j)) ∧ w = wr
theorem nod_snoc (m : Nat) (l : List Int) (x : Int) : nod m (l ++ [x]) = (nod m l && !((m : Int) % x == 0)) := by simp [nod]
theorem own_alloc1 {w : World} {base : Nat} {e : TypeId} {v : Value} {n : Nat} {xs : List Value} (h : w.ownsRow base e 1 v n xs) (o : Obj) : (w.alloc o).ownsRow base e 1 v n xs := by
  refine ⟨h.1, ?_⟩
  rcases h.2 with g | ⟨g, cap, cur, h1, h2, h3, h4⟩
  · exact .inl g
  · exact .inr ⟨g, cap, cur, h1, h2, (Below.heap_alloc w o g (Array.getElem?_eq_some_iff.1 h3).1).trans h3, h4⟩
theorem info_int : (Tryz.prog.info? 3).map (fun i => (i.zero, i.size, i.bytes)) = some (some (.int .i64 0), 1, 8) := by kernel_rfl
set_option maxHeartbeats 4000000 in
set_option maxRecDepth 100000 in
theorem primes_any (w : World) :
    Calls Tryz.prog 89 #[.int .i64 64] w fun e w' => ∃ v, e = .returned v ∧ w'.ownsRow w.heap.size 3 1 v PL.length (PL.map (Value.int .i64)) ∧ Below w.heap.size w w' := by
  go_enter Tryz.func89, Tryz.ntmps89
  go_wp2_with fail
  go_loopw [3, 4] (fun v k wr => PrR w v k wr) (fun _ k _ => 312 - (intOf k).toNat)
  case atStart => exact ⟨2, by omega, by omega, rfl, by rw [PLi_two]; exact ⟨rfl, .inl ⟨rfl, rfl⟩⟩, Below.refl _ _⟩
  case round =>
    obtain ⟨m, hm2, hm, rfl, ho, hb⟩ := hrel
    have hle := PLi_len_le m
    have hli := PLi_len m (by omega)
    have hnx := PLi_next m
    obtain ⟨L, hL⟩ : ∃ L, PLi m = L := ⟨_, rfl⟩
    have hbd : ∀ x ∈ L, 2 ≤ x ∧ x ≤ 311 := fun x hx => PLi_bd (by rw [hL]; exact hx)
    obtain ⟨A, c, hv, hrd, hc, hA⟩ := own_rd ho
    rw [hL] at hle hli ho hv hrd hc hnx
    obtain ⟨n, hn⟩ : ∃ n, L.length = n := ⟨_, rfl⟩
    rw [hn] at hle hli ho hv hrd hc
    subst hv
    have HL := Lib.hid hL
    have HN := Lib.hid hn
    have HBD := Lib.hid hbd
    have HO := Lib.hid ho
    have HRD := Lib.hid hrd
    have HNX := Lib.hid hnx
    rcases Nat.lt_or_ge m 312 with hlt | hge
    · have hn64 : (n : Int) < 64 := by omega
      clear hL hn hbd ho hrd hnx hli
      go_wp2_with fail
      go_loopw [5, 6] (fun ok i wr' => PrI m wr ok i wr') (fun _ i _ => n - (intOf i).toNat)
      case atStart => exact ⟨0, Nat.zero_le _, rfl, by simp [nod], rfl⟩
      case round =>
        obtain ⟨j, hj, rfl, rfl, rfl⟩ := hrel
        rw [HL.out] at hj ⊢
        rw [HN.out] at hj
        rcases Nat.lt_or_ge j n with hjl | hjg
        · obtain ⟨b, off, x, rfl, hbl, hx, hcell⟩ := HRD.out.at_ hjl
          have hxb := HBD.out x (List.mem_of_getElem? hx)
          have x2 := hxb.1
          have x3 := hxb.2
          have hsn : nod m (L.take (j + 1)) = (nod m (L.take j) && !((m : Int) % x == 0)) := by
            have hlt2 : j < L.length := by have := HN.out; omega
            rw [List.take_succ_eq_append_getElem hlt2, nod_snoc]
            have : L[j] = x := by rw [List.getElem?_eq_getElem hlt2] at hx; exact Option.some.inj hx
            rw [this]
          have HSN := Lib.hid hsn
          obtain ⟨d, hd⟩ : ∃ d, nod m (L.take j) = d := ⟨_, rfl⟩
          rw [hd]
          have HD := Lib.hid hd
          have hmi : (m : Int) ≤ 312 := by omega
          have hji : (j : Int) < (n : Int) := by omega
          have hjj : (j : Int) ≤ 64 := by omega
          clear hsn hxb hx hd
          rcases Int.lt_or_le 0 ((m : Int) % x) with hz | hz
          · have e : ((m : Int) % x == 0) = false := by simp; omega
            go_wp2_with fail
            go_roundw
            case rel => exact ⟨j + 1, by rw [HL.out, HN.out]; omega, by go_num, by rw [HL.out, HSN.out, HD.out, e]; simp, rfl⟩
            case measure => simp [intOf]; omega
          · have hz2 := Int.emod_nonneg (m : Int) (show x ≠ 0 by omega)
            have e : ((m : Int) % x == 0) = true := by simp; omega
            clear hz hz2
            go_wp2_with fail
            go_roundw
            case rel => exact ⟨j + 1, by rw [HL.out, HN.out]; omega, by go_num, by rw [HL.out, HSN.out, e]; simp, rfl⟩
            case measure => simp [intOf]; omega
        · have hjn : j = n := by omega
          have ht : L.take n = L := by rw [← HN.out, List.take_length]
          rw [hjn, ht]
          clear ht
          have hmi : (m : Int) ≤ 312 := by omega
          have s1 := hb.size
          cases hd : nod m L with
          | true =>
            have hnx := HNX.out hlt hm2
            rw [hd, if_pos rfl] at hnx
            have HNX2 := Lib.hid hnx
            have hoa := own_alloc1 HO.out (.cells #[.int .i64 (m : Int)] 3)
            have HOA := Lib.hid hoa
            have hcl : (wr.alloc (.cells #[.int .i64 (m : Int)] 3)).cell? ⟨wr.heap.size, 0, none⟩ = some (.int .i64 m) := by simp [World.cell?_alloc_at]
            have ba := hb.alloc s1 (.cells #[.int .i64 (m : Int)] 3)
            have BA := Lib.hid ba
            have sa : w.heap.size ≤ (wr.alloc (.cells #[.int .i64 (m : Int)] 3)).heap.size := ba.size
            clear hd hnx hoa hjn ba
            go_wp2_with (at_builtin; refine wpList_app _ rfl _ _ 69 rfl w.heap.size 3 .i64 Tryz.underlying69 info_int _ _ L rfl HOA.out wr.heap.size (m : Int) rfl hcl (by omega) sa ?_)
            rintro v2 w2 h2 hg2
            have b2 := own_below BA.out HOA.out hg2 sa (Nat.le_refl _)
            have H2 := Lib.hid h2
            clear h2
            go_wp2_with fail
            go_roundw
            case rel =>
              refine ⟨m + 1, by omega, by omega, by go_num, ?_, b2⟩
              rw [HNX2.out, List.length_append, HN.out]
              simpa using H2.out
            case measure => simp [intOf]; omega
          | false =>
            have hnx := HNX.out hlt hm2
            rw [hd] at hnx
            have HNX2 := Lib.hid hnx
            clear hd hnx hjn
            go_wp2_with fail
            go_roundw
            case rel => exact ⟨m + 1, by omega, by omega, by go_num, by rw [HNX2.out]; simp; rw [HN.out]; exact HO.out, hb⟩
            case measure => simp [intOf]; omega
    · obtain rfl : m = 312 := by omega
      have hn64 : n = 64 := by
        have h := HN.out
        rw [← HL.out, PLi_end] at h
        rw [← h]; rfl
      have hL312 : L = PL := by rw [← HL.out, PLi_end]
      subst hn64 hL312
      clear hL hn hbd hrd hnx hli hle
      go_wp2_with fail
      go_ret
      exact ⟨_, rfl, ho, hb⟩
end Go.Proofs.YtjalncdllegfoaaGreatDoor
/-
  The document's way of reckoning a digest, over lists; small laws for what it appends.
-/
namespace Go.Proofs.YtjalncdllegfoaaGreatDoor
open Go.RowKit
set_option linter.unusedVariables false
/-! ### A block's words, one by one -/
theorem ext_take (m : List Int) : ∀ {n j : Nat}, j ≤ n → (ext m n).take (m.length + j) = ext m j
  | 0, j, h => by
    obtain rfl : j = 0 := by omega
    exact List.take_of_length_le (by show m.length ≤ _; omega)
  | n + 1, j, h => by
    rcases Nat.lt_or_ge n j with g | g
    · obtain rfl : j = n + 1 := by omega
      exact List.take_of_length_le (by rw [ext_len]; omega)
    · show (ext m n ++ [nxt (ext m n)]).take (m.length + j) = ext m j
      rw [List.take_append_of_le_length (by rw [ext_len]; omega)]
      exact ext_take m g
theorem bwN_take (b : List Int) {n k : Nat} (h : k ≤ n) : (bwN b n).take k = bwN b k := by
  unfold bwN; rw [← List.map_take, List.take_range, Nat.min_eq_left h]
theorem sched_hi (b : List Int) {j : Nat} (h : j ≤ 48) : (sched b).take (16 + j) = ext (bwN b 16) j := by
  have := ext_take (bwN b 16) h
  rw [bwN_len] at this
  exact this
theorem sched_lo (b : List Int) {k : Nat} (h : k ≤ 16) : (sched b).take k = bwN b k := by
  have e := sched_hi b (j := 0) (by omega)
  have e2 : (sched b).take k = ((sched b).take (16 + 0)).take k := by rw [List.take_take, show min k (16 + 0) = k by omega]
  rw [e2, e]
  exact bwN_take b (by omega)
theorem sched_next_lo (b : List Int) {k : Nat} (h : k < 16) : (sched b).take (k + 1) = (sched b).take k ++ [wdAt b k] := by
  rw [sched_lo b (by omega), sched_lo b (by omega), bwN_succ]
theorem sched_next_hi (b : List Int) {k : Nat} (h : 16 ≤ k) (h2 : k < 64) : (sched b).take (k + 1) = (sched b).take k ++ [nxt ((sched b).take k)] := by
  obtain ⟨j, rfl⟩ : ∃ j, k = 16 + j := ⟨k - 16, by omega⟩
  rw [show 16 + j + 1 = 16 + (j + 1) by omega, sched_hi b (by omega), sched_hi b (by omega)]
  rfl
theorem sched_take_len (b : List Int) {k : Nat} (h : k ≤ 64) : ((sched b).take k).length = k := by rw [List.length_take, sched_len]; omega
theorem sched_wds {b : List Int} (h : Dig 256 b) : Wds (sched b) := ext_wds (bwN_wds h 16) 48
/-- A word, byte by byte. -/
def px (b : List Int) (i : Nat) : Nat → Int
  | 0 => 0
  | k + 1 => 256 * px b i k + dig b (4 * i + k)
theorem px_end (b : List Int) (i : Nat) : px b i 4 = wdAt b i := by simp only [px, wdAt]; rw [Nat.add_zero]; omega
theorem px_bd {b : List Int} (h : Dig 256 b) (i : Nat) : ∀ k, 0 ≤ px b i k ∧ px b i k < 256 ^ k
  | 0 => by simp [px]
  | k + 1 => by
    have h1 := px_bd h i k
    have h2 := dig_bd (b := 256) (by decide) h (4 * i + k)
    rw [Int.pow_succ]
    simp only [px]
    generalize (256 : Int) ^ k = p at *
    omega
theorem px_bd3 {b : List Int} (h : Dig 256 b) (i : Nat) {k : Nat} (hk : k < 4) : 0 ≤ px b i k ∧ px b i k < 16777216 := by
  have h1 := px_bd h i k
  have h2 : (256 : Int) ^ k ≤ 256 ^ 3 := by
    match k, hk with
    | 0, _ => decide
    | 1, _ => decide
    | 2, _ => decide
    | 3, _ => decide
  have h3 : (256 : Int) ^ 3 = 16777216 := by decide
  omega
/-- The state's words, the first k of them added. -/
def hmx (s r : St) (k : Nat) : List Int := (addS s r).l.take k ++ s.l.drop k
theorem hmx_zero (s r : St) : hmx s r 0 = s.l := rfl
theorem hmx_end (s r : St) : hmx s r 8 = (addS s r).l := rfl
theorem lt8 {k : Nat} (h : k < 8) : k = 0 ∨ k = 1 ∨ k = 2 ∨ k = 3 ∨ k = 4 ∨ k = 5 ∨ k = 6 ∨ k = 7 := by omega
theorem hmx_dig (s r : St) {k : Nat} (h : k < 8) : dig (hmx s r k) k = dig s.l k := by
  rcases lt8 h with rfl | rfl | rfl | rfl | rfl | rfl | rfl | rfl <;> rfl
theorem hmx_set (s r : St) {k : Nat} (h : k < 8) : (hmx s r k).set k (ad (dig s.l k) (dig r.l k)) = hmx s r (k + 1) := by
  rcases lt8 h with rfl | rfl | rfl | rfl | rfl | rfl | rfl | rfl <;> rfl
theorem hmx_len (s r : St) {k : Nat} (h : k ≤ 8) : (hmx s r k).length = 8 := by
  unfold hmx
  rw [List.length_append, List.length_take, List.length_drop]
  show min k 8 + (8 - k) = 8
  omega
theorem stl_at (s : St) : s.l = [s.a, s.b, s.c, s.d, s.e, s.f, s.g, s.h] := rfl
theorem fill_test (n j : Nat) (h : j ≤ fillN n) : ((n + 1 + j) % 64 = 56 ↔ j = fillN n) := by unfold fillN at *; omega
theorem fillN_lt (n : Nat) : fillN n < 64 := by unfold fillN; omega
theorem blk_dig (L : List Int) (j i : Nat) (h : i < 64) : dig ((L.drop (64 * j)).take 64) i = dig L (64 * j + i) := by rw [dig_take h, dig_drop]
/-! ### Appends -/
theorem cell_one (w : World) (v : Value) (t : TypeId) : (w.alloc (.cells #[v] t)).cell? ⟨w.heap.size, 0, none⟩ = some v := by simp [World.cell?_alloc_at]
/-- A slice just made with nothing in it. -/
theorem own_none (w : World) (t : TypeId) (k : IntKind) {base : Nat} (hb : base ≤ w.heap.size) : (w.alloc (.cells #[] t)).ownsRow base t 1 (.slice (some ⟨w.heap.size, 0, none⟩) 0 0) 0 (([] : List Int).map (Value.int k)) :=
  ⟨rfl, .inr ⟨w.heap.size, 0, _, rfl, hb, heap_alloc_new w _, Nat.zero_le _, by unfold maxLen; omega, by simp, by simp⟩⟩
theorem own_none_at (w : World) (t : TypeId) (k : IntKind) {base q : Nat} (hq : w.heap.size = q) (hb : base ≤ q) : (w.alloc (.cells #[] t)).ownsRow base t 1 (.slice (some ⟨q, 0, none⟩) 0 0) 0 (([] : List Int).map (Value.int k)) := by
  subst hq
  exact own_none w t k hb
theorem own_base {w : World} {base base' : Nat} {t : TypeId} {v : Value} {n : Nat} {xs : List Value} (h : w.ownsRow base t 1 v n xs) (hb : base' ≤ base) : w.ownsRow base' t 1 v n xs := by
  refine ⟨h.1, ?_⟩
  rcases h.2 with g | ⟨g, cap, cur, h1, h2, h3⟩
  · exact .inl g
  · exact .inr ⟨g, cap, cur, h1, Nat.le_trans hb h2, h3⟩
section
variable {P : Program} (w : World)
theorem rd_one {k : IntKind} {g : Nat} {y : Int} (hc : w.cell? ⟨g, 0, none⟩ = some (.int k y)) (hl : g < w.heap.size) : Rd k w (some ⟨g, 0, none⟩) 1 [y] :=
  ⟨rfl, fun _ => ⟨g, 0, rfl, hl, fun j x hx => by
    match j, hx with
    | 0, hx => injection hx with hx; subst hx; exact hc⟩⟩
/-- One integer more. -/
theorem wpList_app1 {ops : Array Oper} {rest : List Oper} {o : Oper} {a : Act} {Q : Exit → Act → World → Prop} (hgd : o.guard = none) (s x : Operand) (t : TypeId)
    (ho : o.op = .call { callee := .builtin .append, args := #[s, x], argTypes := #[t, t] })
    (base : Nat) (by' : Nat) (e : TypeId) (k : IntKind) (ht : P.underlying t = some (.slice e)) (hi : (P.info? e).map (fun i => (i.zero, i.size, i.bytes)) = some (some (.int k 0), 1, by'))
    (hby : by' ≤ 16) (v : Value) (n : Nat) (L : List Int) (hs : a.eval s = v) (hown : w.ownsRow base e 1 v n (L.map (Value.int k)))
    (g : Nat) (y : Int) (hx : a.eval x = .slice (some ⟨g, 0, none⟩) 1 1) (hc : w.cell? ⟨g, 0, none⟩ = some (.int k y)) (hl : g < w.heap.size) (hn : n ≤ 4398046511104) (hbase : base ≤ w.heap.size)
    (h : ∀ v' w', w'.ownsRow base e 1 v' (n + 1) ((L ++ [y]).map (Value.int k)) → w.grownBy w' v.ownBlock → wpList P ops Q rest (a.put o.dst v') w') : wpList P ops Q (o :: rest) a w :=
  wpList_catK w hgd s x t ho base by' e k ht hi hby v n L hs hown _ 1 1 [y] hx (rd_one w hc hl) (by omega) hbase h
theorem step_app1 {ops : Array Oper} {o : Oper} {a : Act} {K : Act → World → Prop} {Q : Exit → Act → World → Prop} {E : Prop} (hgd : o.guard = none) (s x : Operand) (t : TypeId)
    (ho : o.op = .call { callee := .builtin .append, args := #[s, x], argTypes := #[t, t] })
    (base : Nat) (by' : Nat) (e : TypeId) (k : IntKind) (ht : P.underlying t = some (.slice e)) (hi : (P.info? e).map (fun i => (i.zero, i.size, i.bytes)) = some (some (.int k 0), 1, by'))
    (hby : by' ≤ 16) (v : Value) (n : Nat) (L : List Int) (hs : a.eval s = v) (hown : w.ownsRow base e 1 v n (L.map (Value.int k)))
    (g : Nat) (y : Int) (hx : a.eval x = .slice (some ⟨g, 0, none⟩) 1 1) (hc : w.cell? ⟨g, 0, none⟩ = some (.int k y)) (hl : g < w.heap.size) (hn : n ≤ 4398046511104) (hbase : base ≤ w.heap.size)
    (h : ∀ v' w', w'.ownsRow base e 1 v' (n + 1) ((L ++ [y]).map (Value.int k)) → w.grownBy w' v.ownBlock → K (a.put o.dst v') w') :
    if Region.wanted o (yielded ops a.tmps) = true then Oper.wp P o a w K Q else E :=
  step_catK w hgd s x t ho base by' e k ht hi hby v n L hs hown _ 1 1 [y] hx (rd_one w hc hl) (by omega) hbase h
end
theorem info32 : (Tryz.prog.info? 139).map (fun i => (i.zero, i.size, i.bytes)) = some (some (.int .u32 0), 1, 4) := by kernel_rfl
/-! ### A slice that is turned -/
section
variable {t : TypeId} {k : IntKind} {w : World} {base : Nat} {n c : Nat} {xs : List Int}
theorem Mn.at0 {A : Option Addr} (h : Mn t k w base A n c xs) (hn : 0 < n) : ∃ g, A = some ⟨g, 0, none⟩ ∧ base ≤ g ∧ g < w.heap.size := by
  obtain ⟨g, cur, e, hg, -⟩ := h.row hn
  exact ⟨g, e, h.new _ e, (Array.getElem?_eq_some_iff.1 hg).1⟩
theorem Mn.cell {g j : Nat} (h : Mn t k w base (some ⟨g, 0, none⟩) n c xs) (hj : j < n) : w.cell? ⟨g, j, none⟩ = some (.int k (dig xs j)) := by
  obtain ⟨g', cur, e, hg, hc⟩ := h.row (by omega)
  injection e with e; injection e with e; subst e
  rw [cell_of_row w g j cur _ _ hg]
  exact hc j _ (getElem?_dig (by have := h.len; omega))
theorem Mn.frozen {g j : Nat} (h : Mn t k w base (some ⟨g, 0, none⟩) n c xs) (hj : j < n) : w.frozen? ⟨g, j, none⟩ = false := by
  obtain ⟨g', cur, e, hg, hc⟩ := h.row (by omega)
  injection e with e; injection e with e; subst e
  exact frozen_of_row w g j cur _ hg
theorem Mn.set {g j : Nat} (h : Mn t k w base (some ⟨g, 0, none⟩) n c xs) (hj : j < n) (x : Int) : Mn t k (w.setCell ⟨g, j, none⟩ (.int k x)) base (some ⟨g, 0, none⟩) n c (xs.set j x) := by
  obtain ⟨g', cur, e, hg, hc⟩ := h.row (by omega)
  have e2 := e
  injection e2 with e2; injection e2 with e2; subst e2
  refine ⟨by rw [List.length_set]; exact h.len, h.nc, h.new, fun a ha => by simp only [World.setCell, Array.size_modify]; exact h.lt a ha, fun _ => ⟨g, cur.setIfInBounds j (.int k x), rfl, ?_, fun i y hi => ?_⟩⟩
  · rw [setCell_eq_setRow w g j cur _ _ _ hg]; exact setRow_heap w g cur _ _ _ hg
  · rw [Array.getElem?_setIfInBounds]
    rw [List.getElem?_set] at hi
    have hl := h.len
    have hcj := (Array.getElem?_eq_some_iff.1 (hc j _ (getElem?_dig (by omega)))).1
    split
    · rename_i q
      subst q
      rw [if_pos rfl, if_pos (by omega)] at hi
      injection hi with hi
      subst hi
      rfl
    · rename_i q
      rw [if_neg q] at hi
      exact hc i y hi
theorem Mn.drew {A : Option Addr} (h : Mn t k w base A n c xs) : Mn t k w.drew base A n c xs := ⟨h.len, h.nc, h.new, h.lt, h.row⟩
theorem Mn.drewN {A : Option Addr} (h : Mn t k w base A n c xs) (m : Nat) : Mn t k (w.drewN m) base A n c xs := ⟨h.len, h.nc, h.new, h.lt, h.row⟩
theorem Mn.base_ {A : Option Addr} {base' : Nat} (h : Mn t k w base A n c xs) (hb : base' ≤ base) : Mn t k w base' A n c xs := ⟨h.len, h.nc, fun a ha => Nat.le_trans hb (h.new a ha), h.lt, h.row⟩
theorem Kept.set {X : Nat → Prop} {w0 : World} (h : Kept X w0 w) {g : Nat} (hg : X g) (j : Nat) (u : Value) : Kept X w0 (w.setCell ⟨g, j, none⟩ u) :=
  ⟨by simp only [World.setCell, Array.size_modify]; exact h.size, fun b hb hx => (Below.heap_setCell w ⟨g, j, none⟩ u b (by rintro rfl; exact hx hg)).trans (h.block b hb hx)⟩
theorem Kept.drew {X : Nat → Prop} {w0 : World} (h : Kept X w0 w) : Kept X w0 w.drew := ⟨h.size, h.block⟩
theorem Kept.below {X : Nat → Prop} {w0 w' : World} (h : Kept X w0 w) (hb : Below w.heap.size w w') : Kept X w0 w' := h.trans (Kept.of_below hb)
end
end Go.Proofs.YtjalncdllegfoaaGreatDoor
