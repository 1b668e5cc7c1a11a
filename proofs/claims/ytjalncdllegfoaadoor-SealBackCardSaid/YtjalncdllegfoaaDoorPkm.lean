/-
  Several texts in one: Mo, Tp, Drop, Ad, Tim, Fm, New, Mk, Pw, Red0, Red, RedA, Modul, Exp, Inv.
-/
import Derived.Test.YtjalncdllegfoaaDoorPkg
import Derived.Test.YtjalncdllegfoaaDoorPkf
import Derived.Test.YtjalncdllegfoaaDoorPka
import Derived.Deep.RegionWith
import Derived.Deep.QuietTactic
import Derived.BigQuiet
import Derived.Laws.Rows
import Derived.Laws.Tables
import Derived.Deep.WholeRow
import Derived.Deep.DeepCutAuto
import Derived.Deep.CutBlock
/-
  Residues, and what Montgomery's multiplication and Euclid's way rest on; no call is spoken of here.
-/
namespace Go.Proofs.YtjalncdllegfoaaDoor
set_option linter.unusedVariables false
/-- a and b leave the same residue. -/
def Eqm (m a b : Int) : Prop := ∃ q : Int, a = b + q * m
section
variable {m a b c d : Int}
theorem Eqm.refl (m a : Int) : Eqm m a a := ⟨0, by simp⟩
theorem Eqm.of_eq (h : a = b) : Eqm m a b := h ▸ Eqm.refl m a
theorem Eqm.symm (h : Eqm m a b) : Eqm m b a := by obtain ⟨q, h⟩ := h; exact ⟨-q, by grind⟩
theorem Eqm.trans (h : Eqm m a b) (k : Eqm m b c) : Eqm m a c := by obtain ⟨q, h⟩ := h; obtain ⟨r, k⟩ := k; exact ⟨q + r, by grind⟩
theorem Eqm.add (h : Eqm m a b) (k : Eqm m c d) : Eqm m (a + c) (b + d) := by obtain ⟨q, h⟩ := h; obtain ⟨r, k⟩ := k; exact ⟨q + r, by grind⟩
theorem Eqm.sub (h : Eqm m a b) (k : Eqm m c d) : Eqm m (a - c) (b - d) := by obtain ⟨q, h⟩ := h; obtain ⟨r, k⟩ := k; exact ⟨q - r, by grind⟩
theorem Eqm.neg (h : Eqm m a b) : Eqm m (-a) (-b) := by obtain ⟨q, h⟩ := h; exact ⟨-q, by grind⟩
theorem Eqm.mul (h : Eqm m a b) (k : Eqm m c d) : Eqm m (a * c) (b * d) := by obtain ⟨q, h⟩ := h; obtain ⟨r, k⟩ := k; exact ⟨b * r + q * d + q * r * m, by grind⟩
theorem Eqm.pow (h : Eqm m a b) (e : Nat) : Eqm m (a ^ e) (b ^ e) := by
  induction e with
  | zero => simp; exact Eqm.refl _ _
  | succ e ih => rw [Int.pow_succ, Int.pow_succ]; exact ih.mul h
theorem Eqm.mod (m a : Int) : Eqm m (a % m) a := ⟨-(a / m), by have := Int.emod_add_mul_ediv a m; grind⟩
theorem Eqm.emod (h : Eqm m a b) : a % m = b % m := by obtain ⟨q, h⟩ := h; rw [h]; exact Int.add_mul_emod_self_right _ _ _
theorem Eqm.iff : Eqm m a b ↔ a % m = b % m := ⟨Eqm.emod, fun h => (Eqm.mod m a).symm.trans (h ▸ Eqm.mod m b)⟩
theorem Eqm.self (m a k : Int) : Eqm m (a + k * m) a := ⟨k, rfl⟩
theorem Eqm.eq (h : Eqm m a b) (a0 : 0 ≤ a) (a1 : a < m) (b0 : 0 ≤ b) (b1 : b < m) : a = b := by
  have := h.emod
  rwa [Int.emod_eq_of_lt a0 a1, Int.emod_eq_of_lt b0 b1] at this
theorem Eqm.rest (h : Eqm m a b) (a0 : 0 ≤ a) (a1 : a < m) : a = b % m := by
  rw [← h.emod, Int.emod_eq_of_lt a0 a1]
/-- 2 goes into an odd modulus' multiples alone where it went before. -/
theorem odd_half (hm : m % 2 = 1) (h : Eqm m (2 * a) 0) : Eqm m a 0 := by
  obtain ⟨q, h⟩ := h
  have h1 : (q * m) % 2 = 0 := by omega
  rw [Int.mul_emod, hm] at h1
  have h2 : q % 2 = 0 := by omega
  refine ⟨q / 2, ?_⟩
  have h3 : q = 2 * (q / 2) := by omega
  rw [h3] at h
  have h4 : 2 * a = 2 * (q / 2 * m) := by grind
  omega
theorem odd_cancel (hm : m % 2 = 1) (k : Nat) (h : Eqm m (2 ^ k * a) 0) : Eqm m a 0 := by
  induction k with
  | zero => simpa using h
  | succ k ih =>
    apply ih
    apply odd_half hm
    rw [Int.pow_succ] at h
    have e : 2 ^ k * 2 * a = 2 * (2 ^ k * a) := by grind
    rwa [e] at h
/-- Powers of 2 to the 64 are struck on both sides. -/
theorem W_cancel (hm : m % 2 = 1) (n : Nat) (h : Eqm m (a * W ^ n) (b * W ^ n)) : Eqm m a b := by
  have h1 : Eqm m (2 ^ (64 * n) * (a - b)) 0 := by
    rw [← W_pow]
    obtain ⟨q, h⟩ := h
    exact ⟨q, by grind⟩
  obtain ⟨q, h2⟩ := odd_cancel hm (64 * n) h1
  exact ⟨q, by omega⟩
end
/-! ### Forms -/
/-- z is the form of v. -/
structure Form (m : Int) (n : Nat) (v z : Int) : Prop where
  pos : 0 ≤ z
  lt : z < m
  eqm : Eqm m z (v * W ^ n)
/-- What times answers of X and Y. -/
structure Tim (m : Int) (n : Nat) (X Y T : Int) : Prop where
  pos : 0 ≤ T
  lt : T < m
  eqm : Eqm m (T * W ^ n) (X * Y)
section
variable {m : Int} {n : Nat}
theorem Tim.form {u v X Y T : Int} (hm : m % 2 = 1) (h : Tim m n X Y T) (hX : Form m n u X) (hY : Form m n v Y) : Form m n (u * v) T := by
  refine ⟨h.pos, h.lt, W_cancel hm n ?_⟩
  refine h.eqm.trans ((hX.eqm.mul hY.eqm).trans (Eqm.of_eq ?_))
  grind
/-- A residue, times the form of 2 to the 64 n. -/
theorem Tim.formed {u X S T : Int} (hm : m % 2 = 1) (h : Tim m n X S T) (hX : Eqm m X u) (hS : Eqm m S (W ^ n * W ^ n)) : Form m n u T := by
  refine ⟨h.pos, h.lt, W_cancel hm n ?_⟩
  refine h.eqm.trans ((hX.mul hS).trans (Eqm.of_eq ?_))
  grind
/-- A form, times 1. -/
theorem Tim.residue {v X T : Int} (hm : m % 2 = 1) (h : Tim m n X 1 T) (hX : Form m n v X) : T = v % m := by
  refine Eqm.rest ?_ h.pos h.lt
  apply W_cancel hm n
  refine h.eqm.trans ?_
  rw [Int.mul_one]
  exact hX.eqm
theorem Form.congr {u v z : Int} (h : Form m n u z) (e : Eqm m u v) : Form m n v z := ⟨h.pos, h.lt, h.eqm.trans (e.mul (Eqm.refl _ _))⟩
end
/-! ### One limb's inverse -/
/-- How far the inverse goes behind k rounds. -/
def far : Nat → Int
  | 0 => 8
  | 1 => 64
  | 2 => 4096
  | 3 => 16777216
  | 4 => 281474976710656
  | _ => 18446744073709551616
def farF : Nat → Int
  | 0 => 1
  | 1 => 1
  | 2 => 1
  | 3 => 1
  | _ => 4294967296
def farG : Nat → Int
  | 0 => 288230376151711744
  | 1 => 4503599627370496
  | 2 => 1099511627776
  | 3 => 65536
  | _ => 1
theorem far_ok {k : Nat} (h : k < 5) : far k * far k = far (k + 1) * farF k ∧ 18446744073709551616 = far (k + 1) * farG k := by
  match k, h with
  | 0, _ => decide
  | 1, _ => decide
  | 2, _ => decide
  | 3, _ => decide
  | 4, _ => decide
theorem far_step {a z z' t : Int} {k : Nat} (hk : k < 5) (h : Eqm (far k) (a * z) 1) (e : z' = z * (2 - a * z) + t * 18446744073709551616) : Eqm (far (k + 1)) (a * z') 1 := by
  obtain ⟨h1, h2⟩ := far_ok hk
  obtain ⟨q, h⟩ := h
  generalize far k = E at *
  generalize far (k + 1) = E' at *
  generalize farF k = F at *
  generalize farG k = G at *
  generalize (18446744073709551616 : Int) = B at *
  refine ⟨a * t * G - q * q * F, ?_⟩
  have e1 : a * z' = (a * z) * (2 - a * z) + a * t * B := by grind
  rw [e1, h, h2]
  have e2 : (1 + q * E) * (2 - (1 + q * E)) = 1 - q * q * (E * E) := by grind
  rw [e2, h1]
  grind
theorem far_start {a : Int} (h : a % 2 = 1) : Eqm (far 0) (a * a) 1 := by
  show Eqm 8 (a * a) 1
  rw [Eqm.iff, Int.mul_emod]
  have : a % 8 = 1 ∨ a % 8 = 3 ∨ a % 8 = 5 ∨ a % 8 = 7 := by omega
  rcases this with g | g | g | g <;> rw [g] <;> decide
/-- The product that clears the lowest limb. -/
theorem low_clear {m0 low limb u : Int} (h : Eqm W (m0 * low) (-1)) (hu : Eqm W u (limb * low)) : (m0 * u + limb + 0) % 18446744073709551616 = 0 := by
  show _ % W = 0
  have h1 : Eqm W (m0 * u + limb + 0) 0 := by
    obtain ⟨q, h⟩ := h
    obtain ⟨r, hu⟩ := hu
    refine ⟨q * limb + m0 * r, ?_⟩
    rw [hu]
    have : m0 * (limb * low + r * W) + limb + 0 = limb * (m0 * low) + limb + m0 * r * W := by grind
    rw [this, h]
    grind
  have := h1.emod
  simpa using this
/-! ### Euclid -/
theorem gcd_step {H L : Int} (h : 0 ≤ H) (l : 0 ≤ L) : Int.gcd L (H % L) = Int.gcd H L := by
  obtain ⟨a, rfl⟩ := Int.eq_ofNat_of_zero_le h
  obtain ⟨b, rfl⟩ := Int.eq_ofNat_of_zero_le l
  rw [← Int.natCast_emod, Int.gcd_natCast_natCast, Int.gcd_natCast_natCast, Nat.gcd_comm b, Nat.gcd_comm a, Nat.gcd_rec b a]
structure Eu (m x H L F G : Int) (neg : Bool) : Prop where
  l0 : 0 ≤ L
  lh : L < H
  f0 : 0 ≤ F
  fg : F ≤ G
  g0 : 1 ≤ G
  det : F * L + G * H = m
  hi : Eqm m H (if neg then -(x * F) else x * F)
  lo : Eqm m L (if neg then x * G else -(x * G))
  gcd : Int.gcd H L = Int.gcd m x
theorem Eu.start {m x : Int} (h0 : 0 ≤ x) (h1 : x < m) : Eu m x m x 0 1 true :=
  ⟨h0, h1, Int.le_refl _, by omega, Int.le_refl _, by omega, ⟨1, by simp⟩, ⟨0, by simp⟩, rfl⟩
theorem Eu.step {m x H L F G : Int} {neg : Bool} (h : Eu m x H L F G neg) (hL : 0 < L) : Eu m x L (H % L) G (F + H / L * G) (!neg) := by
  obtain ⟨l0, lh, f0, fg, g0, det, hi, lo, gcd⟩ := h
  have hd := Int.emod_add_mul_ediv H L
  have q1 : 1 ≤ H / L := Int.le_ediv_of_mul_le hL (by omega)
  have hG : G ≤ H / L * G := by
    have := Int.mul_le_mul_of_nonneg_right q1 (show 0 ≤ G by omega)
    omega
  refine ⟨Int.emod_nonneg _ (by omega), Int.emod_lt_of_pos _ hL, by omega, by omega, by omega, ?_, ?_, ?_, ?_⟩
  · generalize H / L = q at *
    generalize H % L = r at *
    rw [← det, ← hd]
    grind
  · cases neg <;> simpa using lo
  · have e : H % L = H - H / L * L := by have := Int.mul_comm L (H / L); omega
    rw [e]
    generalize H / L = q at *
    have := hi.sub ((Eqm.refl m q).mul lo)
    refine this.trans (Eqm.of_eq ?_)
    cases neg <;> simp <;> grind
  · rw [← gcd]
    exact gcd_step (by omega) l0
theorem Eu.g_le {m x H L F G : Int} {neg : Bool} (h : Eu m x H L F G neg) : G ≤ m ∧ F ≤ m ∧ H ≤ m := by
  obtain ⟨l0, lh, f0, fg, g0, det, hi, lo, gcd⟩ := h
  have h1 := Int.mul_nonneg f0 l0
  have h2 := Int.mul_le_mul_of_nonneg_left (show 1 ≤ H by omega) (show 0 ≤ G by omega)
  have h3 := Int.mul_le_mul_of_nonneg_right g0 (show 0 ≤ H by omega)
  omega
theorem Eu.next_le {m x H L F G : Int} {neg : Bool} (h : Eu m x H L F G neg) (hL : 0 < L) : H / L * G ≤ m ∧ 0 ≤ H / L * G := by
  have h1 := (h.step hL).g_le
  have h2 := h.f0
  have q1 : 1 ≤ H / L := Int.le_ediv_of_mul_le hL (by have := h.lh; omega)
  have := Int.mul_nonneg (show 0 ≤ H / L by omega) (show 0 ≤ G by have := h.g0; omega)
  omega
theorem Eu.gcd_end {m x H F G : Int} {neg : Bool} (h : Eu m x H 0 F G neg) : H = (Int.gcd m x : Int) := by
  have := h.gcd
  have h1 := h.lh
  rw [Int.gcd_zero_right] at this
  omega
/-- Where the divisor is 1, the factor, or the modulus less it, is the inverse. -/
theorem Eu.inv {m x F G : Int} {neg : Bool} (hm : 2 ≤ m) (h : Eu m x 1 0 F G neg) : 1 ≤ F ∧ F < m ∧ Eqm m (x * (if neg then m - F else F)) 1 := by
  have e := h.det
  have f1 := h.fg
  have f0 := h.f0
  have hi := h.hi
  have key : ∀ k, F = k * m → False := by
    intro k hk
    obtain ⟨q, hq⟩ := hi
    have : 1 = (if neg then -(x * k) else x * k) * m + q * m := by
      rw [hk] at hq
      cases neg <;> simp at hq ⊢ <;> grind
    have h1 : 1 = ((if neg then -(x * k) else x * k) + q) * m := by rw [Int.add_mul]; exact this
    have h2 : (1 : Int) % m = 0 := by rw [h1]; exact Int.mul_emod_left _ _
    rw [Int.emod_eq_of_lt (by omega) (by omega)] at h2
    omega
  have a0 : F ≠ 0 := fun h0 => key 0 (by omega)
  have a1 : F ≠ m := fun h0 => key 1 (by omega)
  refine ⟨by omega, by omega, ?_⟩
  obtain ⟨q, hq⟩ := hi
  cases neg
  · simp at hq ⊢; exact ⟨-q, by grind⟩
  · simp at hq ⊢; exact ⟨x - q, by grind⟩
theorem inv_uniq {m a b u v : Int} (h : Eqm m a b) (hu : Eqm m (a * u) 1) (hv : Eqm m (b * v) 1) (u0 : 0 ≤ u) (u1 : u < m) (v0 : 0 ≤ v) (v1 : v < m) : u = v := by
  refine Eqm.eq ?_ u0 u1 v0 v1
  have h1 : Eqm m (u * (b * v)) (u * 1) := (Eqm.refl m u).mul hv
  have h2 : Eqm m ((a * u) * v) (1 * v) := hu.mul (Eqm.refl m v)
  have h3 : Eqm m ((a * u) * v) (u * (b * v)) := by
    refine ((h.mul (Eqm.refl m u)).mul (Eqm.refl m v)).trans (Eqm.of_eq ?_)
    grind
  rw [Int.mul_one] at h1
  rw [Int.one_mul] at h2
  exact h1.symm.trans (h3.symm.trans h2)
end Go.Proofs.YtjalncdllegfoaaDoor
/-
  Small calls of package mont: timesPlus, inverseOfLimb, widen.
-/
namespace Go.Proofs.YtjalncdllegfoaaDoor
open Go.RowKit
set_option linter.unusedVariables false
/-- The two halves of a product and two numbers more. -/
def tph (a b c d : Int) : Int := (a * b + c + d) / 18446744073709551616
def tpl (a b c d : Int) : Int := (a * b + c + d) % 18446744073709551616
theorem tp_bd {a b c d : Int} (a0 : 0 ≤ a) (a1 : a < 18446744073709551616) (b0 : 0 ≤ b) (b1 : b < 18446744073709551616) (c0 : 0 ≤ c) (c1 : c < 18446744073709551616) (d0 : 0 ≤ d) (d1 : d < 18446744073709551616) :
    0 ≤ tpl a b c d ∧ tpl a b c d < 18446744073709551616 ∧ 0 ≤ tph a b c d ∧ tph a b c d < 18446744073709551616 ∧ tpl a b c d + 18446744073709551616 * tph a b c d = a * b + c + d := by
  have h1 : 0 ≤ a * b := Int.mul_nonneg a0 b0
  have h2 : a * b ≤ 18446744073709551615 * 18446744073709551615 := Int.mul_le_mul (by omega) (by omega) b0 (by decide)
  unfold tpl tph; omega
theorem tp_eq {a b c d lo hi l1 c1 l2 c2 : Int} (h0 : lo + 18446744073709551616 * hi = a * b) (h1 : l1 + 18446744073709551616 * c1 = lo + c + 0) (h2 : l2 + 18446744073709551616 * c2 = l1 + d + 0) (l0 : 0 ≤ l2) (l1' : l2 < 18446744073709551616) :
    hi + c1 + c2 = tph a b c d ∧ l2 = tpl a b c d := by
  unfold tph tpl
  rw [← h0]; omega
theorem timesPlus_any (a b c d : Int) (w : World) (a0 : 0 ≤ a) (a1 : a < 18446744073709551616) (b0 : 0 ≤ b) (b1 : b < 18446744073709551616) (c0 : 0 ≤ c) (c1 : c < 18446744073709551616) (d0 : 0 ≤ d) (d1 : d < 18446744073709551616) :
    Calls Tryd.prog 95 #[.int .u64 a, .int .u64 b, .int .u64 c, .int .u64 d] w fun e w' => e = .returned (.tuple #[.int .u64 (tph a b c d), .int .u64 (tpl a b c d)]) ∧ w = w' := by
  have hM := mul64_bd a0 a1 b0 b1
  have hA := add64_bd hM.1 hM.2.1 c0 c1 (Int.le_refl 0) (by decide)
  have hB := add64_bd hA.1 hA.2.1 d0 d1 (Int.le_refl 0) (by decide)
  have hT := tp_bd a0 a1 b0 b1 c0 c1 d0 d1
  have hE := tp_eq hM.2.2.2.2 hA.2.2.2.2 hB.2.2.2.2 hB.1 hB.2.1
  have m1 := hM.2.2.1
  have m2 := hM.2.2.2.1
  have x1 := hA.2.2.1
  have x2 := hA.2.2.2.1
  have y1 := hB.2.2.1
  have y2 : mhi a b + ahi (mlo a b) c 0 + ahi (alo (mlo a b) c 0) d 0 < 18446744073709551616 := by rw [hE.1]; exact hT.2.2.2.1
  have HM := Lib.hid hM
  have HA := Lib.hid hA
  have HE := Lib.hid hE
  clear hM hA hB hT hE
  go_enter Tryd.func95, Tryd.ntmps95
  go_wp2_with fail
  refine (mul64 a b _ a0 a1 b0 b1).mono ?_
  rintro e w1 ⟨rfl, rfl⟩
  go_wp2_with (first | simp only [add64 _ _ _ HM.out.1 c0 (Int.le_refl 0) (by decide)] | simp only [add64 _ _ _ HA.out.1 d0 (Int.le_refl 0) (by decide)])
  go_ret2
  exact ⟨by rw [HE.out.1, HE.out.2]; rfl, rfl⟩
/-! ### inverseOfLimb -/
def InvR (a : Int) (z i : Value) : Prop := ∃ (k : Nat) (v : Int), k ≤ 5 ∧ i = .int .i64 k ∧ z = .int .u64 v ∧ 0 ≤ v ∧ v < 18446744073709551616 ∧ Eqm (far k) (a * v) 1
def InvP (a : Int) (w : World) (e : Ending) (w' : World) : Prop := (∃ v : Int, e = .returned (.int .u64 v) ∧ 0 ≤ v ∧ v < 18446744073709551616 ∧ Eqm W (a * v) 1) ∧ w = w'
theorem wrap_u (x : Int) : ∃ t : Int, IntKind.u64.wrap x = x + t * 18446744073709551616 ∧ 0 ≤ IntKind.u64.wrap x ∧ IntKind.u64.wrap x < 18446744073709551616 := by
  rw [IntKind.wrap_u64]
  exact ⟨-(x / 18446744073709551616), by omega, by omega, by omega⟩
theorem inv_round {a z : Int} {k : Nat} (hk : k < 5) (h : Eqm (far k) (a * z) 1) : 
    0 ≤ IntKind.u64.wrap (z * IntKind.u64.wrap (2 - IntKind.u64.wrap (a * z))) ∧ IntKind.u64.wrap (z * IntKind.u64.wrap (2 - IntKind.u64.wrap (a * z))) < 18446744073709551616 ∧
      Eqm (far (k + 1)) (a * IntKind.u64.wrap (z * IntKind.u64.wrap (2 - IntKind.u64.wrap (a * z)))) 1 := by
  obtain ⟨t1, e1, -, -⟩ := wrap_u (a * z)
  obtain ⟨t2, e2, -, -⟩ := wrap_u (2 - IntKind.u64.wrap (a * z))
  obtain ⟨t3, e3, h0, h1⟩ := wrap_u (z * IntKind.u64.wrap (2 - IntKind.u64.wrap (a * z)))
  refine ⟨h0, h1, far_step (t := t3 + z * (t2 - t1)) hk h ?_⟩
  rw [e3, e2, e1]
  grind
set_option maxHeartbeats 400000 in
theorem inverseOfLimb_any (a : Int) (w : World) (a0 : 0 ≤ a) (a1 : a < 18446744073709551616) (ha : a % 2 = 1) :
    Calls Tryd.prog 52 #[.int .u64 a] w (InvP a w) := by
  have HS := Lib.hid (far_start ha)
  clear ha
  go_enter Tryd.func52, Tryd.ntmps52
  go_wp2_with fail
  go_loop [3, 5] (fun z i => InvR a z i) (fun _ i => 5 - (intOf i).toNat)
  case atStart => exact ⟨0, a, by omega, rfl, rfl, a0, a1, HS.out⟩
  case round =>
    obtain ⟨k, v, hk, rfl, rfl, v0, v1, hv⟩ := hrel
    have HV := Lib.hid hv
    clear hv
    rcases Nat.lt_or_ge k 5 with hlt | hge
    · have HR := Lib.hid (inv_round hlt HV.out)
      go_wp2
      go_round
      case rel => exact ⟨k + 1, _, by omega, by go_num, rfl, HR.out.1, HR.out.2.1, HR.out.2.2⟩
      case measure => simp [intOf]; omega
    · obtain rfl : k = 5 := by omega
      go_wp2
      go_ret
      exact ⟨⟨v, rfl, v0, v1, HV.out⟩, rfl⟩
/-! ### widen -/
theorem splice_some {Z X : List Value} (h : X.length ≤ Z.length) : splice Z 0 X = X ++ Z.drop X.length := by
  unfold splice
  rw [List.take_zero, List.nil_append, Nat.zero_add]
theorem val_pad (b : Int) (xs : List Int) (k : Nat) : val b (xs ++ List.replicate k 0) = val b xs := by
  rw [val_append, val_zeros b (xs := List.replicate k 0) (by intro x hx; simp at hx; exact hx.2)]; simp
/-- A number in new memory, told in n digits. -/
def AnsW (N : Int) (n : Nat) (w : World) (e : Ending) (w' : World) : Prop :=
  ∃ B cap, e = .returned (.slice B n cap) ∧ Nm w' B n cap N ∧ Below w.heap.size w w' ∧ ∀ a, B = some a → w.heap.size ≤ a.block
set_option maxHeartbeats 1000000 in
theorem widen_any {A : Option Addr} {l c : Nat} {N : Int} {w : World} (h : Nm w A l c N) (n : Nat) (hl : l ≤ n) (hn : n ≤ 64) :
    Calls Tryd.prog 53 #[.slice A l c, .int .i64 n] w (AnsW N n w) := by
  have hmk := fun W => run_make64 n (C := (n : Int)) rfl (by omega) W
  obtain ⟨Z, hZ⟩ : ∃ Z : List Int, Z = List.replicate n 0 := ⟨_, rfl⟩
  rw [← hZ] at hmk
  have HZ := Lib.hid hZ
  clear hZ
  obtain ⟨⟨X, hxr, hxd, hxv⟩, h4, h5, h6⟩ := h
  have HV := Lib.hid hxv
  clear hxv
  go_enter Tryd.func53, Tryd.ntmps53
  go_wp2_with (with_reducible refine wpList_copy_splice rfl (.tmp 8) (.tmp 9) 23 23 rfl 45 Tryd.underlying23 (by kernel_rfl) _ _ _ _ _ _ rfl rfl w.heap.size 0 (Z.map (Value.int .u64)) 45 ?hg (X.map (Value.int .u64)) ?hn ?hpos ?hfit ?h1 w.heap.size w ?hb (Nat.le_refl _) ?_)
  case hg => exact Row.new _ _ _ _
  case hn => rw [List.length_map, hxr.len]; exact (Nat.min_eq_left hl).symm
  case hpos => exact rd_pos hxr
  case hfit => rw [List.length_map, List.length_map, hxr.len, HZ.out]; simp; omega
  case h1 => exact ints_oneCell _ _
  case hb => exact (Below.refl _ _).alloc (Nat.le_refl _) _
  intro w2 hrow hb
  clear hmk
  go_wp2
  go_ret
  have hr := hrow.out
  have hxl := hxr.len
  rw [splice_some (by rw [List.length_map, List.length_map, hxr.len, HZ.out]; simp; omega), List.length_map, HZ.out, List.map_replicate, List.drop_replicate, ← List.map_replicate, ← List.map_append] at hr
  have hr2 : Row w2 w.heap.size 45 .u64 (X ++ List.replicate (n - X.length) 0) := hr
  refine ⟨_, _, rfl, ⟨⟨X ++ List.replicate (n - X.length) 0, hr2.rd (by rw [List.length_append, List.length_replicate]; omega) (fun j x hx => by rwa [Nat.zero_add]), ?_, by rw [val_pad]; exact HV.out⟩, Nat.le_refl _, by omega, h6⟩, hb, fun a ha => by injection ha with ha; subst ha; exact Nat.le_refl _⟩
  intro x hx
  rw [List.mem_append] at hx
  rcases hx with hx | hx
  · exact hxd x hx
  · simp at hx; rw [hx.2]; exact ⟨by decide, by decide⟩
end Go.Proofs.YtjalncdllegfoaaDoor
/-
  What mont.takeOff and mont's addAndDrop do to a row of digits.
-/
namespace Go.Proofs.YtjalncdllegfoaaDoor
open Go.RowKit
set_option linter.unusedVariables false
/-! ### takeOff -/
theorem off_sum {zs ys Y : List Int} {k : Nat} {over over' v : Int} (hk : 0 + k < ys.length) (hr : dig ys (0 + k) = dig zs (0 + k))
    (e : v - W * over' = dig ys (0 + k) - dig Y k - over) (h : wv ys 0 k - over * W ^ k = wv zs 0 k - vf W (dig Y) k) :
    wv (ys.set (0 + k) v) 0 (k + 1) - over' * W ^ (k + 1) = wv zs 0 (k + 1) - vf W (dig Y) (k + 1) := by
  rw [wv_set hk, wv_succ, ← hr]
  simp only [vf]
  rw [Int.pow_succ]
  generalize wv ys 0 k = a at *
  generalize wv zs 0 k = b at *
  generalize vf W (dig Y) k = d at *
  generalize W ^ k = p at *
  generalize dig ys (0 + k) = z at *
  generalize dig Y k = y at *
  grind
def OffR (zs Y : List Int) (n g : Nat) (w : World) (o i : Value) (wr : World) : Prop :=
  ∃ (k : Nat) (ys : List Int) (over : Int), k ≤ n ∧ i = .int .i64 k ∧ o = .int .u64 over ∧ 0 ≤ over ∧ over ≤ 1 ∧ Turned w wr g 0 k zs ys ∧ wv ys 0 k - over * W ^ k = wv zs 0 k - vf W (dig Y) k
def OffP (zs Y : List Int) (n g : Nat) (w : World) (e : Ending) (w' : World) : Prop :=
  ∃ (ys : List Int) (over : Int), e = .returned (.tuple #[]) ∧ 0 ≤ over ∧ over ≤ 1 ∧ Turned w w' g 0 n zs ys ∧ wv ys 0 n - over * W ^ n = wv zs 0 n - vf W (dig Y) n
set_option maxHeartbeats 1000000 in
theorem takeOff_any {w : World} {g n cz c : Nat} {zs Y : List Int} {B : Option Addr} (hrow : Row w g 45 .u64 zs) (hzd : Dig W zs) (hin : n ≤ zs.length) (hn : n ≤ 17592186044416)
    (hY : Rd .u64 w B n Y) (hYd : Dig W Y) (hne : 0 < n → ∀ a, B = some a → a.block ≠ g) :
    Calls Tryd.prog 80 #[.slice (some ⟨g, 0, none⟩) n cz, .slice B n c] w (OffP zs Y n g w) := by
  go_enter Tryd.func80, Tryd.ntmps80
  go_wp2_with fail
  go_loopw [4, 8] (fun o i wr => OffR zs Y n g w o i wr) (fun _ i _ => n - (intOf i).toNat)
  case atStart => exact ⟨0, zs, 0, Nat.zero_le _, rfl, rfl, Int.le_refl _, by decide, Turned.refl hrow hzd, by simp [wv, vf]⟩
  case round =>
    obtain ⟨k, ys, over, hk, rfl, rfl, o0, o1, ht, hv⟩ := hrel
    have HV := Lib.hid hv
    clear hv
    rcases Nat.lt_or_ge k n with hlt | hge
    · have hlen := ht.len
      obtain ⟨b, bo, y, rfl, hbb, hyy, hcell⟩ := (hY.grown ht.grown (hne (by omega))).at_ hlt
      have hye := dig_lt hyy
      have dy := dig_W hYd k
      rw [hye] at dy
      have HY := Lib.hid hye
      have hf := ht.row.frozen k
      have hc := ht.row.cell (getElem?_dig (show k < ys.length by omega))
      have dz := dig_W ht.dig_ k
      obtain ⟨z, hz⟩ : ∃ z, z = dig ys k := ⟨_, rfl⟩
      rw [← hz] at hc dz
      have HZ := Lib.hid hz
      have HLEN := Lib.hid hlen
      clear hz hyy hye hlen
      have HB := Lib.hid (sub64_bd dz.1 dz.2 dy.1 dy.2 o0 o1)
      have HSB := Lib.hid (sub64 z y over dz.1 dy.1 dy.2 o0 o1)
      have hkn : (k : Int) < (n : Int) := by omega
      have HT := Lib.hid (ht.step (v := slo z y over) HB.out.1 HB.out.2.1)
      rw [Nat.zero_add] at HT
      go_wp2_with fail
      go_region_with (simp only [HSB.out])
      all_goals
        go_wp2
        go_roundw
        case rel => exact ⟨k + 1, _, _, by omega, by go_num, rfl, HB.out.2.2.1, HB.out.2.2.2.1, HT.out.drew, by have := off_sum (zs := zs) (Y := Y) (v := slo z y over) (over' := shi z y over) (by have := HLEN.out; omega) (ht.rest _ (.inr (Nat.le_refl _))) (by rw [Nat.zero_add, ← HZ.out, HY.out]; exact HB.out.2.2.2.2) HV.out; rwa [Nat.zero_add] at this⟩
        case measure => simp [intOf]; omega
    · obtain rfl : k = n := by omega
      go_wp2
      exact bodyPost_ret (v := .tuple #[]) (by simp [results, Tryd.results80, go_sem]) rfl ⟨ys, over, rfl, o0, o1, ht, HV.out⟩
end Go.Proofs.YtjalncdllegfoaaDoor
/-
  A modulus in memory, and what addAndDrop does to a row of digits.
-/
namespace Go.Proofs.YtjalncdllegfoaaDoor
open Go.RowKit
set_option linter.unusedVariables false
/-- Block b is what reckons modulo m: its four cells. -/
structure Md (w : World) (b : Nat) (m : Int) (n : Nat) (A : Option Addr) (c : Nat) (low : Int) (B : Option Addr) (cB : Nat) (S : Option Addr) (cS : Nat) : Prop where
  lt : b < w.heap.size
  c0 : w.cell? ⟨b, 0, none⟩ = some (.slice A n c)
  c1 : w.cell? ⟨b, 1, none⟩ = some (.int .u64 low)
  c2 : w.cell? ⟨b, 2, none⟩ = some (.slice B n cB)
  c3 : w.cell? ⟨b, 3, none⟩ = some (.slice S n cS)
  lim : Cn w A n c m
  low0 : 0 ≤ low
  low1 : low < 18446744073709551616
  lowm : Eqm W (m * low) (-1)
  one : Nm w B n cB (W ^ n % m)
  shift : Nm w S n cS (W ^ n * W ^ n % m)
  odd : m % 2 = 1
  m3 : 3 ≤ m
  l32 : n ≤ 32
section
variable {w w' : World} {b : Nat} {m : Int} {n : Nat} {A : Option Addr} {c : Nat} {low : Int} {B : Option Addr} {cB : Nat} {S : Option Addr} {cS : Nat}
theorem Md.below (h : Md w b m n A c low B cB S cS) (hb : Below w.heap.size w w') : Md w' b m n A c low B cB S cS :=
  ⟨by have := hb.size; have := h.lt; omega, (hb.cell (p := ⟨b, 0, none⟩) h.lt).trans h.c0, (hb.cell (p := ⟨b, 1, none⟩) h.lt).trans h.c1, (hb.cell (p := ⟨b, 2, none⟩) h.lt).trans h.c2, (hb.cell (p := ⟨b, 3, none⟩) h.lt).trans h.c3,
    h.lim.below hb, h.low0, h.low1, h.lowm, h.one.below hb, h.shift.below hb, h.odd, h.m3, h.l32⟩
theorem Md.len (h : Md w b m n A c low B cB S cS) : n = dl m := h.lim.len_
theorem Md.n1 (h : Md w b m n A c low B cB S cS) : 1 ≤ n := by
  have h1 := h.len
  have h2 := h.m3
  rcases Nat.eq_zero_or_pos n with g | g
  · have := (dl_zero (N := m) (by omega)).1 (by omega); omega
  · exact g
theorem Md.dig0 (h : Md w b m n A c low B cB S cS) : Eqm W (dig (dg W m) 0 * low) (-1) := by
  have h3 := h.m3
  have e : dig (dg W m) 0 = m % W := by rw [dg_pos W_two (by omega)]; rfl
  rw [e]
  exact ((Eqm.mod W m).mul (Eqm.refl W low)).trans h.lowm
end
/-! ### addAndDrop -/
theorem drop_first {z x M0 K u ov un limb lo : Int} (h1 : limb + W * ov = x * K + z + 0) (h2 : lo + W * un = M0 * u + limb + 0) (h3 : lo = 0) : (ov + un) * W = z + K * x + u * M0 := by
  grind
theorem drop_step {zs ys X M : List Int} {k : Nat} {K u ov un ov' un' limb v : Int} (hk : k < ys.length) (h1 : limb + W * ov' = dig X (k + 1) * K + dig zs (k + 1) + ov) (h2 : v + W * un' = dig M (k + 1) * u + limb + un)
    (h : vf W (dig ys) k * W + (ov + un) * W ^ (k + 1) = vf W (dig zs) (k + 1) + K * vf W (dig X) (k + 1) + u * vf W (dig M) (k + 1)) :
    vf W (dig (ys.set k v)) (k + 1) * W + (ov' + un') * W ^ (k + 1 + 1) = vf W (dig zs) (k + 1 + 1) + K * vf W (dig X) (k + 1 + 1) + u * vf W (dig M) (k + 1 + 1) := by
  rw [vf_set hk]
  have e : ∀ f : Nat → Int, vf W f (k + 1 + 1) = vf W f (k + 1) + f (k + 1) * W ^ (k + 1) := fun f => rfl
  rw [e, e, e, Int.pow_succ W (k + 1)]
  have e2 : W ^ (k + 1) = W ^ k * W := Int.pow_succ _ _
  rw [e2] at h ⊢
  generalize vf W (dig ys) k = a at *
  generalize vf W (dig zs) (k + 1) = b at *
  generalize vf W (dig X) (k + 1) = x at *
  generalize vf W (dig M) (k + 1) = y at *
  generalize W ^ k = p at *
  grind
theorem drop_last {zs ys X M : List Int} {k : Nat} {K u ov un limb cr v c2 : Int} (hk : k + 1 < ys.length) (h1 : limb + W * cr = dig zs (k + 1) + ov + 0) (h2 : v + W * c2 = limb + un + 0)
    (h : vf W (dig ys) k * W + (ov + un) * W ^ (k + 1) = vf W (dig zs) (k + 1) + K * vf W (dig X) (k + 1) + u * vf W (dig M) (k + 1)) :
    vf W (dig (((ys.set k v).set (k + 1) c2).set (k + 1) (c2 + cr))) (k + 1 + 1) * W = vf W (dig zs) (k + 1 + 1) + K * vf W (dig X) (k + 1) + u * vf W (dig M) (k + 1) := by
  rw [List.set_set, vf_set (by simpa using hk), vf_set (by omega)]
  have e : vf W (dig zs) (k + 1 + 1) = vf W (dig zs) (k + 1) + dig zs (k + 1) * W ^ (k + 1) := rfl
  rw [e]
  have e2 : W ^ (k + 1) = W ^ k * W := Int.pow_succ _ _
  rw [e2] at h ⊢
  generalize vf W (dig ys) k = a at *
  generalize vf W (dig zs) (k + 1) = b at *
  generalize vf W (dig X) (k + 1) = x at *
  generalize vf W (dig M) (k + 1) = y at *
  generalize W ^ k = p at *
  grind
def DropR (zs X M : List Int) (n : Nat) (K u : Int) (w0 : World) (o un i : Value) (wr : World) : Prop :=
  ∃ (k : Nat) (ys : List Int) (ov ud : Int), k + 1 ≤ n ∧ i = .int .i64 ((k : Int) + 1) ∧ o = .int .u64 ov ∧ un = .int .u64 ud ∧ 0 ≤ ov ∧ ov < 18446744073709551616 ∧ 0 ≤ ud ∧ ud < 18446744073709551616 ∧
    Row wr w0.heap.size 45 .u64 ys ∧ ys.length = n + 1 ∧ Dig W ys ∧ (∀ j, k ≤ j → dig ys j = dig zs j) ∧
    vf W (dig ys) k * W + (ov + ud) * W ^ (k + 1) = vf W (dig zs) (k + 1) + K * vf W (dig X) (k + 1) + u * vf W (dig M) (k + 1) ∧ Below w0.heap.size w0 wr
def DropP (zs : List Int) (n : Nat) (K X m : Int) (w0 : World) (e : Ending) (w' : World) : Prop :=
  ∃ (ys : List Int) (u : Int), e = .returned (.tuple #[]) ∧ 0 ≤ u ∧ u < 18446744073709551616 ∧ Row w' w0.heap.size 45 .u64 ys ∧ ys.length = n + 1 ∧ Dig W ys ∧
    vf W (dig ys) (n + 1) * W = vf W (dig zs) (n + 1) + K * X + u * m ∧ Below w0.heap.size w0 w'
set_option maxHeartbeats 4000000 in
set_option maxRecDepth 100000 in
theorem addAndDrop_any {w0 w : World} {b : Nat} {m : Int} {n : Nat} {A : Option Addr} {c : Nat} {low : Int} {B : Option Addr} {cB : Nat} {S : Option Addr} {cS : Nat} (md : Md w0 b m n A c low B cB S cS)
    {XA : Option Addr} {cx cz : Nat} {X zs : List Int} {K : Int} (hX : Rd .u64 w0 XA n X) (hXd : Dig W X) (hb : Below w0.heap.size w0 w) (hrow : Row w w0.heap.size 45 .u64 zs) (hzl : zs.length = n + 1) (hzd : Dig W zs)
    (hK0 : 0 ≤ K) (hK : K < 18446744073709551616) :
    Calls Tryd.prog 79 #[.pointer (some ⟨b, 0, none⟩), .slice (some ⟨w0.heap.size, 0, none⟩) (n + 1 : Nat) cz, .slice XA n cx, .int .u64 K] w (DropP zs n K (vf W (dig X) n) m w0) := by
  have n1 := md.n1
  have n32 := md.l32
  have hlen := md.len
  obtain ⟨bx, ox, rfl, hbx, hcx⟩ := hX.cells (by omega)
  obtain ⟨bm, om, rfl, hbm, hcm⟩ := md.lim.rd.cells (by omega)
  have HCX := Lib.hid hcx
  have HCM := Lib.hid hcm
  have m0 : 0 ≤ m := by have := md.m3; omega
  have hmd := dig_dg W_two m0
  have hml : (dg W m).length = n := md.lim.rd.len
  have hXl := hX.len
  have HML := Lib.hid hml
  have HXL := Lib.hid hXl
  have HZL := Lib.hid hzl
  have HLEN := Lib.hid hlen
  clear hcx hcm
  have LM : ∀ j, j < n → ∀ wr, Below w0.heap.size w0 wr → wr.cell? ⟨bm, om + j, none⟩ = some (.int .u64 (dig (dg W m) j)) := fun j hj wr hb => (hb.cell (p := ⟨bm, om + j, none⟩) hbm).trans (HCM.out j _ (getElem?_dig (by rw [HML.out]; exact hj)))
  have LX : ∀ j, j < n → ∀ wr, Below w0.heap.size w0 wr → wr.cell? ⟨bx, ox + j, none⟩ = some (.int .u64 (dig X j)) := fun j hj wr hb => (hb.cell (p := ⟨bx, ox + j, none⟩) hbx).trans (HCX.out j _ (getElem?_dig (by rw [HXL.out]; exact hj)))
  have HLM := Lib.hid LM
  have HLX := Lib.hid LX
  clear LM LX hml hXl hlen
  have x0 := HLX.out 0 (by omega) w hb
  have mm0 := HLM.out 0 (by omega) w hb
  rw [Nat.add_zero] at x0 mm0
  have z0 := hrow.cell (getElem?_dig (show 0 < zs.length by omega))
  have hf0 := hrow.frozen 0
  clear hzl
  have mdw := md.below hb
  have q0 := mdw.c0
  have q1 := mdw.c1
  have bx0 := dig_W hXd 0
  have bm0 := dig_W hmd 0
  have bz0 := dig_W hzd 0
  have t1 := tp_bd bx0.1 bx0.2 hK0 hK bz0.1 bz0.2 (Int.le_refl 0) (by decide)
  have l0 := md.low0
  have l1 := md.low1
  have e1 : (0 : Int) < (n : Int) + 1 := by omega
  have e2 : (0 : Int) < (n : Int) := by omega
  have e3 : 0 < n := by omega
  have e4 : 0 < n + 1 := by omega
  go_enter Tryd.func79, Tryd.ntmps79
  go_wp2_with fail
  go_quiet ((go_at_call 95; exact quiet_one (timesPlus_any _ _ _ _ _ bx0.1 bx0.2 hK0 hK bz0.1 bz0.2 (Int.le_refl 0) (by decide))))
  go_wp2_with fail
  have hw := wrap_u (tpl (dig X 0) K (dig zs 0) 0 * low)
  generalize IntKind.u64.wrap (tpl (dig X 0) K (dig zs 0) 0 * low) = u at *
  obtain ⟨tu, hu, u0, u1⟩ := hw
  have HU := Lib.hid hu
  clear hu
  have t2 := tp_bd bm0.1 bm0.2 u0 u1 t1.1 t1.2.1 (Int.le_refl 0) (by decide)
  have hfst := drop_first t1.2.2.2.2 t2.2.2.2.2 (low_clear md.dig0 ⟨tu, HU.out⟩)
  have HF := Lib.hid hfst
  refine (timesPlus_any _ _ _ _ _ bm0.1 bm0.2 u0 u1 t1.1 t1.2.1 (Int.le_refl 0) (by decide)).mono ?_
  rintro e w1 ⟨rfl, rfl⟩
  have s1 := t1.2.2.1
  have s2 := t1.2.2.2.1
  have s3 := t2.2.2.1
  have s4 := t2.2.2.2.1
  clear hfst x0 mm0 z0 hf0 mdw q0 q1 t1 t2
  go_wp2_with fail
  go_loopw [9, 12, 14] (fun o un i wr => DropR zs X (dg W m) n K u w0 o un i wr) (fun _ _ i _ => n - (intOf i).toNat)
  case atStart =>
    refine ⟨0, zs, _, _, n1, rfl, rfl, rfl, s1, s2, s3, s4, hrow.drewN _, HZL.out, hzd, fun _ _ => rfl, ?_, below_drewN hb _⟩
    have := HF.out
    simp only [vf, Int.zero_mul, Int.zero_add, Int.pow_zero, Int.mul_one, Nat.zero_add, Int.pow_succ, Int.one_mul]
    exact this
  case round =>
    obtain ⟨k, ys, ov, ud, hk, rfl, rfl, rfl, o0, o1, d0, d1, hrow', hyl, hyd, hrest, hv, hb'⟩ := hrel
    have HV := Lib.hid hv
    have HR := Lib.hid hrest
    have HYL := Lib.hid hyl
    clear hv hrest
    have mdw := md.below hb'
    have q0 := mdw.c0
    have g1 : IntKind.i64.wrap ((k : Int) + 1) = (k : Int) + 1 := IntWalk.i64_in _ (by omega)
    rcases Nat.lt_or_ge (k + 1) n with hlt | hge
    · have xk := HLX.out (k + 1) hlt _ hb'
      have mk := HLM.out (k + 1) hlt _ hb'
      have zk := hrow'.cell (getElem?_dig (show k + 1 < ys.length by omega))
      rw [HR.out (k + 1) (by omega)] at zk
      have hfk := hrow'.frozen k
      have hck := hrow'.cell (getElem?_dig (show k < ys.length by omega))
      clear hyl
      have bxk := dig_W hXd (k + 1)
      have bmk := dig_W hmd (k + 1)
      have bzk := dig_W hzd (k + 1)
      have t1 := tp_bd bxk.1 bxk.2 hK0 hK bzk.1 bzk.2 o0 o1
      have t2 := tp_bd bmk.1 bmk.2 u0 u1 t1.1 t1.2.1 d0 d1
      have T1 := Lib.hid t1
      have T2 := Lib.hid t2
      clear t1 t2
      have g2 : 0 ≤ (k : Int) + 1 := by omega
      have g3 : ((k : Int) + 1).toNat = k + 1 := by omega
      have g4 : (k : Int) + 1 < (n : Int) := by omega
      have g5 : (k : Int) + 1 < (n : Int) + 1 := by omega
      go_wp2_with fail
      go_quiet ((go_at_call 95; exact quiet_one (timesPlus_any _ _ _ _ _ bxk.1 bxk.2 hK0 hK bzk.1 bzk.2 o0 o1)))
      go_wp2_with fail
      refine (timesPlus_any _ _ _ _ _ bmk.1 bmk.2 u0 u1 T1.out.1 T1.out.2.1 d0 d1).mono ?_
      rintro e w1 ⟨rfl, rfl⟩
      go_wp2
      go_roundw
      case rel =>
        refine ⟨k + 1, ys.set k _, _, _, hlt, by go_num, rfl, rfl, T1.out.2.2.1, T1.out.2.2.2.1, T2.out.2.2.1, T2.out.2.2.2.1, (hrow'.drewN _).set k _, by simpa using HYL.out, hyd.set T2.out.1 T2.out.2.1 k, fun j hj => by rw [dig_set_ne (by omega)]; exact HR.out j (by omega), drop_step (by have := HYL.out; omega) T1.out.2.2.2.2 T2.out.2.2.2.2 HV.out, (below_drewN hb' _).setCell (Nat.le_refl _) _⟩
      case measure => simp [intOf]; omega
    · obtain rfl : n = k + 1 := by omega
      have zk := hrow'.cell (getElem?_dig (show k + 1 < ys.length by omega))
      rw [HR.out (k + 1) (by omega)] at zk
      have hfk := hrow'.frozen k
      have hfk1 := hrow'.frozen (k + 1)
      have hck := hrow'.cell (getElem?_dig (show k < ys.length by omega))
      clear hyl
      have bzk := dig_W hzd (k + 1)
      have t1 := add64_bd bzk.1 bzk.2 o0 o1 (Int.le_refl 0) (by decide)
      have t2 := add64_bd t1.1 t1.2.1 d0 d1 (Int.le_refl 0) (by decide)
      have T1 := Lib.hid t1
      have T2 := Lib.hid t2
      have a1 := t1.2.2.1
      have a2 := t1.2.2.2.1
      have a3 := t2.2.2.1
      have a4 := t2.2.2.2.1
      clear t1 t2
      have HN := Lib.hid hge
      clear hge hk
      go_wp2_with (first | simp only [add64 _ _ _ bzk.1 o0 (Int.le_refl 0) (by decide)] | simp only [add64 _ _ _ T1.out.1 d0 (Int.le_refl 0) (by decide)])
      have hlast := drop_last (by have := HYL.out; omega) T1.out.2.2.2.2 T2.out.2.2.2.2 HV.out
      have hM : vf W (dig (dg W m)) (k + 1) = m := val_dl m0 (Nat.le_of_eq HLEN.out.symm)
      rw [hM] at hlast
      refine bodyPost_ret (v := .tuple #[]) (by simp [results, Tryd.results79, go_sem]) rfl ⟨_, u, rfl, u0, u1, ((hrow'.set k _).set (k + 1) _).set (k + 1) _, by simpa using HYL.out, ?_, hlast, ((hb'.setCell (Nat.le_refl _) _).setCell (Nat.le_refl _) _).setCell (Nat.le_refl _) _⟩
      exact ((hyd.set T2.out.1 T2.out.2.1 k).set (by omega) (by unfold W; omega) _).set (by omega) (by unfold W; omega) _
end Go.Proofs.YtjalncdllegfoaaDoor
/-
  What mont's times, form and residue answer.
-/
namespace Go.Proofs.YtjalncdllegfoaaDoor
open Go.RowKit
set_option linter.unusedVariables false
theorem tim_lt {S S' K X u m : Int} (h : S' * W = S + K * X + u * m) (hS : S < 2 * m) (hK : K < 18446744073709551616) (hu : u < 18446744073709551616) (hK0 : 0 ≤ K) (hm : 0 < m) (hX : X < m) : S' < 2 * m := by
  have h1 := Int.mul_le_mul_of_nonneg_left (show X ≤ m by omega) hK0
  have h2 := Int.mul_le_mul_of_nonneg_right (show K ≤ W - 1 by unfold W; omega) (show 0 ≤ m by omega)
  have h3 := Int.mul_le_mul_of_nonneg_right (show u ≤ W - 1 by unfold W; omega) (show 0 ≤ m by omega)
  have h4 : S' * W < 2 * m * W := by
    have : 2 * m * W = 2 * m + ((W - 1) * m + (W - 1) * m) := by grind
    rw [this, h]; omega
  exact Int.lt_of_mul_lt_mul_right h4 (by decide)
theorem tim_sum {S S' K X u m y : Int} {k : Nat} (h : S' * W = S + K * X + u * m) (hv : Eqm m (S * W ^ k) (X * y)) : Eqm m (S' * W ^ (k + 1)) (X * (y + K * W ^ k)) := by
  obtain ⟨q, hv⟩ := hv
  refine ⟨q + u * W ^ k, ?_⟩
  rw [Int.pow_succ]
  have : S' * (W ^ k * W) = (S' * W) * W ^ k := by grind
  rw [this, h]
  generalize W ^ k = p at *
  grind
def TmR (ys : List Int) (X m : Int) (n : Nat) (w : World) (i : Value) (wr : World) : Prop :=
  ∃ (k : Nat) (zs : List Int), k ≤ n ∧ i = .int .i64 k ∧ Row wr w.heap.size 45 .u64 zs ∧ zs.length = n + 1 ∧ Dig W zs ∧ vf W (dig zs) (n + 1) < 2 * m ∧ Eqm m (vf W (dig zs) (n + 1) * W ^ k) (X * vf W (dig ys) k) ∧ Below w.heap.size w wr
/-- The product over 2 to the 64 n was answered. -/
def TimP (m : Int) (n : Nat) (X Y : Int) (w : World) (e : Ending) (w' : World) : Prop :=
  ∃ B cap T, e = .returned (.slice B n cap) ∧ Nm w' B n cap T ∧ Tim m n X Y T ∧ Below w.heap.size w w' ∧ ∀ a, B = some a → w.heap.size ≤ a.block
theorem tim_small {zs : List Int} {n : Nat} {m S : Int} (hd : Dig W zs) (hS : S = vf W (dig zs) (n + 1)) (hm : m < W ^ n) (h : S < m) : S = val W (zs.take n) ∨ zs.length < n := by
  rcases Nat.lt_or_ge zs.length n with g | g
  · exact .inr g
  · left
    rw [val_take W zs g]
    have e : S = vf W (dig zs) n + dig zs n * W ^ n := hS
    have b0 := (vf_bd (b := W) (by decide) (fun j => dig_bd (b := W) (by decide) hd j) n).1
    have d0 := dig_bd (b := W) (by decide) hd n
    have p0 := pow_pos' W_two n
    rcases Int.lt_or_eq_of_le d0.1 with g2 | g2
    · have := Int.mul_le_mul_of_nonneg_right (show 1 ≤ dig zs n by omega) (show 0 ≤ W ^ n by omega)
      omega
    · rw [← g2] at e; omega
theorem tim_off {zs ys : List Int} {n : Nat} {m S over : Int} (hd : Dig W ys) (hS : S = vf W (dig zs) (n + 1)) (hm : m < W ^ n) (h0 : m ≤ S) (h1 : S < 2 * m) (hv : wv ys 0 n - over * W ^ n = wv zs 0 n - m) (hl : n ≤ ys.length) : val W (ys.take n) = S - m := by
  rw [val_take W ys hl]
  have e : S = vf W (dig zs) n + dig zs n * W ^ n := hS
  have e1 : wv ys 0 n = vf W (dig ys) n := vf_congr W (fun j _ => by rw [Nat.zero_add])
  have e2 : wv zs 0 n = vf W (dig zs) n := vf_congr W (fun j _ => by rw [Nat.zero_add])
  rw [e1, e2] at hv
  have b := vf_bd (b := W) (by decide) (fun j => dig_bd (b := W) (by decide) hd j) n
  refine Eqm.eq (m := W ^ n) ⟨over - dig zs n, ?_⟩ b.1 b.2 (by omega) (by omega)
  rw [e]
  have : vf W (dig ys) n = vf W (dig zs) n - m + over * W ^ n := by omega
  rw [this]; grind
theorem rd_take_row {w : World} {g n : Nat} {zs : List Int} (h : Row w g 45 .u64 zs) (hl : zs.length = n + 1) : Rd .u64 w (some ⟨g, 0, none⟩) n (zs.take n) := h.rd0 (by omega)
set_option maxHeartbeats 4000000 in
set_option maxRecDepth 100000 in
theorem times_any {w : World} {b : Nat} {m : Int} {n : Nat} {A : Option Addr} {c : Nat} {low : Int} {B : Option Addr} {cB : Nat} {S : Option Addr} {cS : Nat} (md : Md w b m n A c low B cB S cS)
    {XA YA : Option Addr} {cx cy : Nat} {X Y : Int} (hX : Nm w XA n cx X) (hY : Nm w YA n cy Y) (hXm : X < m) :
    Calls Tryd.prog 57 #[.pointer (some ⟨b, 0, none⟩), .slice XA n cx, .slice YA n cy] w (TimP m n X Y w) := by
  obtain ⟨⟨xs, hxr, hxd, hxv⟩, -, -, X0⟩ := hX
  obtain ⟨⟨ys, hyr, hyd, hyv⟩, -, -, Y0⟩ := hY
  have n1 := md.n1
  have n32 := md.l32
  have m3 := md.m3
  have m0 : 0 < m := by omega
  have hmW : m < W ^ n := lt_dl (by omega) (Nat.le_of_eq md.len.symm)
  have hXv : vf W (dig xs) n = X := by rw [← val_vf W xs (Nat.le_of_eq hxr.len)]; exact hxv
  have hYv : vf W (dig ys) n = Y := by rw [← val_vf W ys (Nat.le_of_eq hyr.len)]; exact hyv
  have HXV := Lib.hid hXv
  have HYV := Lib.hid hYv
  have HYL := Lib.hid hyr.len
  clear hxv hyv hXv hYv
  obtain ⟨by_, oy, rfl, hby, hcy⟩ := hyr.cells (by omega)
  have LY : ∀ j, j < n → ∀ wr, Below w.heap.size w wr → wr.cell? ⟨by_, oy + j, none⟩ = some (.int .u64 (dig ys j)) := fun j hj wr hb => (hb.cell (p := ⟨by_, oy + j, none⟩) hby).trans (hcy j _ (getElem?_dig (by rw [HYL.out]; exact hj)))
  have HLY := Lib.hid LY
  clear LY hcy
  have q0 := md.c0
  have hmk := fun W => run_make64 (n + 1) (C := (n : Int) + 1) (by omega) (by omega) W
  obtain ⟨Z, hZ⟩ : ∃ Z : List Int, Z = List.replicate (n + 1) 0 := ⟨_, rfl⟩
  rw [← hZ] at hmk
  have HZ := Lib.hid hZ
  clear hZ
  go_enter Tryd.func57, Tryd.ntmps57
  go_wp2_with fail
  clear hmk q0
  go_loopw [19] (fun i wr => TmR ys X m n w i wr) (fun i _ => n - (intOf i).toNat)
  case atStart =>
    refine ⟨0, Z, Nat.zero_le _, rfl, Row.new _ _ _ _, by rw [HZ.out]; simp, by rw [HZ.out]; intro x hx; simp at hx; rw [hx]; exact ⟨by decide, by decide⟩, ?_, ?_, (Below.refl _ _).alloc (Nat.le_refl _) _⟩
    · rw [HZ.out, vf_zero W (k := 0) (Nat.zero_le _) (fun j _ => dig_replicate _ j)]; simp only [vf]; omega
    · rw [HZ.out, vf_zero W (k := 0) (Nat.zero_le _) (fun j _ => dig_replicate _ j)]; simp only [vf]; simp; exact Eqm.refl _ _
  case round =>
    obtain ⟨k, zs, hk, rfl, hrow, hzl, hzd, hlt2, hv, hb⟩ := hrel
    have HV := Lib.hid hv
    have HZL := Lib.hid hzl
    clear hv
    have mdw := md.below hb
    have q0 := mdw.c0
    rcases Nat.lt_or_ge k n with hlt | hge
    · have yk := HLY.out k hlt _ hb
      have byk := dig_W hyd k
      clear hzl
      go_wp2_with fail
      refine (addAndDrop_any md hxr hxd hb hrow HZL.out hzd byk.1 byk.2).mono ?_
      rintro e w1 ⟨zs', u, rfl, u0, u1, hrow1, hzl1, hzd1, hv1, hb1⟩
      have HV1 := Lib.hid hv1
      rw [HXV.out] at HV1
      clear hv1 q0
      have hlt3 := tim_lt HV1.out hlt2 byk.2 u1 byk.1 m0 hXm
      go_wp2
      go_roundw
      case rel =>
        refine ⟨k + 1, zs', by omega, by go_num, hrow1, hzl1, hzd1, hlt3, ?_, hb1⟩
        exact tim_sum HV1.out HV.out
      case measure => simp [intOf]; omega
    · obtain rfl : k = n := by omega
      have hS : Nm wr (some ⟨w.heap.size, 0, none⟩) (k + 1) (k + 1) (vf W (dig zs) (k + 1)) :=
        ⟨⟨zs, hrow.rd hzl (fun j x hx => by rwa [Nat.zero_add]), hzd, val_vf W zs (Nat.le_of_eq hzl)⟩, Nat.le_refl _, by omega, (vf_bd (b := W) (by decide) (fun j => dig_bd (b := W) (by decide) hzd j) _).1⟩
      obtain ⟨T, hT⟩ : ∃ T, T = vf W (dig zs) (k + 1) := ⟨_, rfl⟩
      rw [← hT] at hS hlt2
      have HV2 := HV.out
      rw [← hT, HYV.out] at HV2
      have HV3 := Lib.hid HV2
      have HT := Lib.hid hT
      clear hT HV2 HV
      go_wp2_with fail
      refine (cmp_any hS mdw.lim.nm).mono ?_
      rintro e w1 ⟨rfl, q, rfl⟩
      rcases Int.lt_or_le T m with hTm | hTm
      · have hc : decide (cmpI T m ≥ 0) = false := by rw [cmpI_lt hTm]; rfl
        go_wp2
        go_ret
        have hval : val W (zs.take k) = T := by
          rcases tim_small hzd HT.out hmW hTm with g | g
          · exact g.symm
          · omega
        exact ⟨_, _, T, rfl, ⟨⟨zs.take k, (rd_take_row hrow hzl).drewN q, fun x hx => hzd x (List.mem_of_mem_take hx), hval⟩, by omega, by omega, hS.pos⟩, ⟨hS.pos, hTm, HV3.out⟩, below_drewN hb q, fun a ha => by injection ha with ha; subst ha; exact Nat.le_refl _⟩
      · have hc : decide (cmpI T m ≥ 0) = true := by
          rcases Int.lt_or_eq_of_le hTm with g | g
          · rw [cmpI_gt g]; rfl
          · subst g; rw [cmpI_eq]; rfl
        have hLim := (mdw.lim.rd.drewN q).drew
        have hMd := dig_dg W_two (show 0 ≤ m by omega)
        have hne : 0 < k → ∀ a, A = some a → a.block ≠ w.heap.size := by
          intro hp a ha
          obtain ⟨b1, o1, e1, h1, _⟩ := md.lim.rd.cells hp
          rw [e1] at ha; injection ha with ha; subst ha
          exact Nat.ne_of_lt h1
        have g1 : (k : Int) ≤ (k : Int) + 1 := by omega
        have g2 : k ≤ k + 1 := by omega
        have hin : k ≤ zs.length := by omega
        clear hzl
        go_wp2_with fail
        go_region_with (go_at_call 80; refine (takeOff_any (hrow.drewN q).drew hzd hin (by omega) hLim hMd hne).mono ?_; rintro e w1 ⟨zs', over, rfl, o0, o1, ht, hv⟩; have HW := Lib.hid hv; clear hv)
        all_goals
          go_wp2
          go_ret
          have hv := HW.out
          rw [val_dl (show 0 ≤ m by omega) (Nat.le_of_eq mdw.len.symm)] at hv
          have hl := ht.len
          have hzl := HZL.out
          have hval := tim_off ht.dig_ HT.out hmW hTm hlt2 hv (by omega)
          refine ⟨_, _, T - m, rfl, ⟨⟨zs'.take k, rd_take_row ht.row (by omega), fun x hx => ht.dig_ x (List.mem_of_mem_take hx), hval⟩, by omega, by omega, by omega⟩, ⟨by omega, by omega, ?_⟩, below_grown (below_drewN hb q).drew ht.grown (below_drewN hb q).size (Nat.le_refl _), fun a ha => by injection ha with ha; subst ha; exact Nat.le_refl _⟩
          refine Eqm.trans ⟨-(W ^ k), ?_⟩ HV3.out
          grind
end Go.Proofs.YtjalncdllegfoaaDoor
/-
  What mont's form and residue answer.
-/
namespace Go.Proofs.YtjalncdllegfoaaDoor
open Go.RowKit
set_option linter.unusedVariables false
/-- A form was answered. -/
def FormP (m : Int) (n : Nat) (v : Int) (w : World) (e : Ending) (w' : World) : Prop :=
  ∃ B cap T, e = .returned (.slice B n cap) ∧ Nm w' B n cap T ∧ Form m n v T ∧ Below w.heap.size w w'
set_option maxHeartbeats 4000000 in
theorem form_any {w : World} {b : Nat} {m : Int} {n : Nat} {A : Option Addr} {c : Nat} {low : Int} {B : Option Addr} {cB : Nat} {S : Option Addr} {cS : Nat} (md : Md w b m n A c low B cB S cS)
    {XA : Option Addr} {l cx : Nat} {X : Int} (hX : Nm w XA l cx X) (hl : l ≤ n) (hXm : X < m) :
    Calls Tryd.prog 55 #[.pointer (some ⟨b, 0, none⟩), .slice XA l cx] w (FormP m n X w) := by
  have n32 := md.l32
  have q0 := md.c0
  have q3 := md.c3
  have hbd : Below w.heap.size w w.drew := (Below.refl _ _).drew
  have mdd := md.below hbd
  have hXd := hX.below hbd
  have HM := Lib.hid mdd
  have HX := Lib.hid hXd
  have HB := Lib.hid hbd
  clear mdd hXd hbd
  go_enter Tryd.func55, Tryd.ntmps55
  go_wp2_with fail
  go_region_with (first
    | (go_at_call 53; refine (widen_any HX.out n hl (by omega)).mono ?_; rintro e w1 ⟨B1, cap1, rfl, hN, hb1, -⟩; have hm1 := HM.out.below hb1; have q31 := hm1.c3; have HM1 := Lib.hid hm1; have HB1 := Lib.hid hb1; clear hb1 hm1)
    | (go_at_call 57; refine (times_any HM1.out hN HM1.out.shift hXm).mono ?_; rintro e w2 ⟨B2, cap2, T, rfl, hN2, hT, hb2, -⟩; have HT := Lib.hid hT; clear hT))
  all_goals
    go_wp2
    go_ret
    exact ⟨_, _, T, rfl, hN2, HT.out.formed md.odd (Eqm.refl _ _) (Eqm.mod _ _), HB.out.trans ((HB1.out.mono HB.out.size).trans (hb2.mono (by have := HB.out.size; have := HB1.out.size; omega)))⟩
set_option maxHeartbeats 4000000 in
theorem residue_any {w : World} {b : Nat} {m : Int} {n : Nat} {A : Option Addr} {c : Nat} {low : Int} {B : Option Addr} {cB : Nat} {S : Option Addr} {cS : Nat} (md : Md w b m n A c low B cB S cS)
    {XA : Option Addr} {cx : Nat} {X v : Int} (hX : Nm w XA n cx X) (hF : Form m n v X) :
    Calls Tryd.prog 59 #[.pointer (some ⟨b, 0, none⟩), .slice XA n cx] w (Ans1 (v % m) w) := by
  have n32 := md.l32
  have n1 := md.n1
  have hlt := md.lt
  have q0 := md.c0
  have HF := Lib.hid hF
  clear hF
  have hl := lit_one w 1 (by decide) (by decide)
  have hb0 : Below w.heap.size w (w.alloc (.cells #[.int .u64 1] 45)) := (Below.refl _ _).alloc (Nat.le_refl _) _
  have HL := Lib.hid hl
  have HB0 := Lib.hid hb0
  clear hl hb0
  go_enter Tryd.func59, Tryd.ntmps59
  go_wp2_with fail
  refine (widen_any HL.out n (by omega) (by omega)).mono ?_
  rintro e w1 ⟨B1, cap1, rfl, hN, hb1, -⟩
  have b1 := HB0.out.trans (hb1.mono HB0.out.size)
  clear hb1
  go_wp2_with fail
  refine (times_any (md.below b1) (hX.below b1) hN HF.out.lt).mono ?_
  rintro e w2 ⟨B2, cap2, T, rfl, hN2, hT, hb2, -⟩
  have b2 := b1.trans (hb2.mono b1.size)
  have hv := hT.residue md.odd HF.out
  subst hv
  clear hb2 hT
  go_wp2_with fail
  refine (norm_any hN2).mono ?_
  rintro e w3 ⟨B3, m3, cap3, rfl, hN3, hb3, hnew⟩
  have b3 := b2.trans (hb3.mono b2.size)
  go_wp2
  go_ret
  exact ⟨_, _, _, rfl, hN3, b3, fun a ha => Nat.le_trans b2.size (hnew a ha)⟩
end Go.Proofs.YtjalncdllegfoaaDoor
/-
  What mont's newModulus, New and Modulus answer.
-/
namespace Go.Proofs.YtjalncdllegfoaaDoor
open Go.RowKit
set_option linter.unusedVariables false
def NewP (m : Int) (n : Nat) (A : Option Addr) (c : Nat) (w : World) (e : Ending) (w' : World) : Prop :=
  ∃ low B cB S cS, e = .returned (.agg #[.slice A n c, .int .u64 low, .slice B n cB, .slice S n cS]) ∧ 0 ≤ low ∧ low < 18446744073709551616 ∧ Eqm W (m * low) (-1) ∧ Nm w' B n cB (W ^ n % m) ∧ Nm w' S n cS (W ^ n * W ^ n % m) ∧ Below w.heap.size w w' ∧ (∀ a, B = some a → w.heap.size ≤ a.block) ∧ ∀ a, S = some a → w.heap.size ≤ a.block
theorem Nm.set {w : World} {A : Option Addr} {n c : Nat} {N : Int} (h : Nm w A n c N) {g : Nat} (hne : ∀ a, A = some a → a.block ≠ g) (i : Nat) (u : Value) : Nm (w.setCell ⟨g, i, none⟩ u) A n c N := by
  obtain ⟨⟨xs, h1, h2, h3⟩, h4, h5, h6⟩ := h
  exact ⟨⟨xs, h1.grown (grown_setCell (World.grownBy.refl w _) i u) hne, h2, h3⟩, h4, h5, h6⟩
theorem power_nm (w : World) (o : Obj) {Z : List Int} {n : Nat} (hZ : Z = List.replicate (n + 1) 0) (hn : n ≤ 1000) :
    Nm ((w.alloc o).alloc (.cells ((Z.map (Value.int .u64)).set n (.int .u64 1)).toArray 45)) (some ⟨w.heap.size + 1, 0, none⟩) (n + 1) (n + 1) (W ^ n) := by
  have e : (Z.map (Value.int .u64)).set n (.int .u64 1) = (Z.set n 1).map (Value.int .u64) := by rw [List.map_set]
  rw [e]
  have hr := Row.new (w.alloc o) 45 .u64 (Z.set n 1)
  have hs : (w.alloc o).heap.size = w.heap.size + 1 := by simp
  rw [hs] at hr
  have hl : (Z.set n 1).length = n + 1 := by rw [hZ]; simp
  refine ⟨⟨Z.set n 1, hr.rd hl (fun j x hx => by rwa [Nat.zero_add]), ?_, ?_⟩, Nat.le_refl _, by omega, Int.le_of_lt (pow_pos' W_two n)⟩
  · refine Dig.set ?_ (by decide) (by decide) n
    rw [hZ]; intro x hx; simp at hx; rw [hx]; exact ⟨by decide, by decide⟩
  · rw [val_vf W (Z.set n 1) (Nat.le_of_eq hl), vf_set (by rw [hZ]; simp), hZ, vf_zero W (k := 0) (Nat.zero_le _) (fun j _ => dig_replicate _ j)]
    simp [vf]
theorem bcell {W w1 : World} (hb : Below W.heap.size W w1) : (∀ b o, b < W.heap.size → w1.cell? ⟨b, o, none⟩ = W.cell? ⟨b, o, none⟩) ∧ (∀ b o, b < W.heap.size → w1.frozen? ⟨b, o, none⟩ = W.frozen? ⟨b, o, none⟩) :=
  ⟨fun b o h => hb.cell (p := ⟨b, o, none⟩) h, fun b o h => hb.frozen (p := ⟨b, o, none⟩) h⟩
theorem neg_low {m v : Int} (h : Eqm W (m % W * v) 1) : Eqm W (m * IntKind.u64.wrap (-v)) (-1) ∧ 0 ≤ IntKind.u64.wrap (-v) ∧ IntKind.u64.wrap (-v) < 18446744073709551616 := by
  obtain ⟨t, e, h0, h1⟩ := wrap_u (-v)
  refine ⟨?_, h0, h1⟩
  rw [e]
  have h2 : Eqm W (m * v) 1 := ((Eqm.mod W m).symm.mul (Eqm.refl W v)).trans h
  refine Eqm.trans ?_ h2.neg
  exact ⟨m * t, by unfold W; grind⟩
set_option maxHeartbeats 4000000 in
set_option maxRecDepth 100000 in
theorem newModulus_any {w : World} {m : Int} {n c : Nat} {A : Option Addr} (hm : Cn w A n c m) (odd : m % 2 = 1) (m3 : 3 ≤ m) (l32 : n ≤ 32) :
    Calls Tryd.prog 31 #[.slice A n c] w (NewP m n A c w) := by
  have hmk := fun W => run_make64 (n + 1) (C := (n : Int) + 1) (by omega) (by omega) W
  obtain ⟨Z, hZ⟩ : ∃ Z : List Int, Z = List.replicate (n + 1) 0 := ⟨_, rfl⟩
  rw [← hZ] at hmk
  have HZ := Lib.hid hZ
  clear hZ
  have hlen := hm.len_
  have m0 : 0 < m := by omega
  have lm : dl m ≤ 64 := by omega
  have lp : dl (W ^ n) ≤ 64 := by
    have := dl_le (N := W ^ n) (k := n + 1) (Int.le_of_lt (pow_pos' W_two n)) (by rw [Int.pow_succ]; have := Int.mul_le_mul_of_nonneg_left W_two (Int.le_of_lt (pow_pos' W_two n)); have := pow_pos' W_two n; omega)
    omega
  have r0 := Int.emod_nonneg (W ^ n) (show m ≠ 0 by omega)
  have r1 := Int.emod_lt_of_pos (W ^ n) m0
  have l1' : dl (W ^ n % m) ≤ n := by have := dl_mono r0 (show W ^ n % m ≤ m by omega); omega
  have l1 : dl (W ^ n % m) ≤ 64 := by omega
  have l2 : dl (W ^ n % m * (W ^ n % m)) ≤ 64 := by have := dl_mul r0 r0 l1' l1'; omega
  have s0 := Int.emod_nonneg (W ^ n * W ^ n) (show m ≠ 0 by omega)
  have s1 := Int.emod_lt_of_pos (W ^ n * W ^ n) m0
  have l3 : dl (W ^ n * W ^ n % m) ≤ n := by have := dl_mono s0 (show W ^ n * W ^ n % m ≤ m by omega); omega
  have n1 : 1 ≤ n := by
    rcases Nat.eq_zero_or_pos n with g | g
    · have := (dl_zero (N := m) (by omega)).1 (by omega); omega
    · exact g
  have e0 : dig (dg W m) 0 = m % W := by rw [dg_pos W_two m0]; rfl
  have o0 := Int.emod_nonneg m (show W ≠ 0 by decide)
  have o1 : m % W < 18446744073709551616 := Int.emod_lt_of_pos m (by decide)
  have o2 : m % W % 2 = 1 := by unfold W; omega
  have HLEN := Lib.hid hlen
  clear hlen odd
  have g1 : n < n + 1 := by omega
  have hzn : Z[n]? = some 0 := by rw [HZ.out]; simp
  go_enter Tryd.func31, Tryd.ntmps31
  go_wp2_with fail
  have hp := power_nm w (.cells #[.slice none 0 0, .int .u64 0, .slice none 0 0, .slice none 0 0] 78) HZ.out (by omega)
  have b0 : Below (w.alloc (.cells #[.slice none 0 0, .int .u64 0, .slice none 0 0, .slice none 0 0] 78)).heap.size (w.alloc (.cells #[.slice none 0 0, .int .u64 0, .slice none 0 0, .slice none 0 0] 78)) ((w.alloc (.cells #[.slice none 0 0, .int .u64 0, .slice none 0 0, .slice none 0 0] 78)).alloc (.cells ((Z.map (Value.int .u64)).set n (.int .u64 1)).toArray 45)) := (Below.refl _ _).alloc (Nat.le_refl _) _
  have hm0 := hm.alloc (.cells #[.slice none 0 0, .int .u64 0, .slice none 0 0, .slice none 0 0] 78)
  have bw : Below w.heap.size w (w.alloc (.cells #[.slice none 0 0, .int .u64 0, .slice none 0 0, .slice none 0 0] 78)) := (Below.refl _ _).alloc (Nat.le_refl _) _
  have sz : (w.alloc (.cells #[.slice none 0 0, .int .u64 0, .slice none 0 0, .slice none 0 0] 78)).heap.size = w.heap.size + 1 := by simp
  have HP := Lib.hid hp
  have BW := Lib.hid bw
  have SZ := Lib.hid sz
  clear hp hmk hzn bw sz
  refine (div_any HP.out (hm0.below b0).nm lp lm (by omega)).mono ?_
  rintro e w2 ⟨Bq, mq, cq, B1, n1, c1, rfl, -, k1, k2, -, -⟩
  have b2 := b0.trans (k2.mono b0.size)
  have B2 := Lib.hid b2
  clear k2 b0 b2
  go_wp2_with fail
  refine (mul_any k1.nm k1.nm l1 l1).mono ?_
  rintro e w3 ⟨B3, n3, c3, rfl, k3, k4, -⟩
  have b3 := B2.out.trans (k4.mono B2.out.size)
  have k1' := k1.below k4
  have B3' := Lib.hid b3
  clear k4 b3 k1 B2
  go_wp2_with fail
  refine (div_any k3.nm (hm0.below B3'.out).nm l2 lm (by omega)).mono ?_
  rintro e w4 ⟨Bq', mq', cq', B4, n4, c4, rfl, -, k5, k6, -, -⟩
  have b4 := B3'.out.trans (k6.mono B3'.out.size)
  have k1'' := k1'.below k6
  have B4' := Lib.hid b4
  clear k6 b4 k1' B3' k3
  rw [← Int.mul_emod] at k5
  have hm4 := hm0.below B4'.out
  obtain ⟨bm, om, x, rfl, hbm, hx, hcell⟩ := hm4.rd.at_ (j := 0) (by omega)
  have hxd := dig_lt hx
  rw [e0] at hxd
  rw [Nat.add_zero, ← hxd] at hcell
  have HC := Lib.hid hcell
  clear hx hxd hm4 e0
  have c0 := HC.out
  have gn : 0 < n := by omega
  go_wp2_with fail
  refine (inverseOfLimb_any (m % W) _ o0 o1 o2).mono ?_
  rintro e w5 ⟨⟨v, rfl, v0, v1, hv⟩, rfl⟩
  have HLOW := Lib.hid (neg_low hv)
  clear hv c0
  go_wp2_with fail
  refine (widen_any k1''.nm n (by rw [k1''.len_]; exact l1') (by omega)).mono ?_
  rintro e w5 ⟨B5, c5, rfl, k7, k8, hn5⟩
  have b5 := B4'.out.trans (k8.mono B4'.out.size)
  have k5' := k5.below k8
  have B5' := Lib.hid b5
  have HN5 : ∀ a, B5 = some a → w.heap.size < a.block := fun a ha => by have := hn5 a ha; have := B4'.out.size; have := SZ.out; omega
  have HN5' := Lib.hid HN5
  clear k8 b5 k1'' k5 hn5 HN5
  go_wp2_with fail
  refine (widen_any k5'.nm n (by rw [k5'.len_]; exact l3) (by omega)).mono ?_
  rintro e w6 ⟨B6, c6, rfl, k9, k10, hn6⟩
  have b6 := B5'.out.trans (k10.mono B5'.out.size)
  have k7' := k7.below k10
  have B6' := Lib.hid b6
  have HN6 : ∀ a, B6 = some a → w.heap.size < a.block := fun a ha => by have := hn6 a ha; have := B5'.out.size; have := SZ.out; omega
  have HN6' := Lib.hid HN6
  obtain ⟨hc, hf⟩ := bcell b6
  clear k10 b6 k7 k5' hn6 HN6 B5'
  go_wp2
  refine bodyPost_ret (v := .agg #[.slice (some ⟨bm, om, none⟩) n c, .int .u64 (IntKind.u64.wrap (-v)), .slice B5 n c5, .slice B6 n c6]) (by simp [results, Tryd.results31, go_sem, hc]) rfl ⟨_, B5, c5, B6, c6, rfl, HLOW.out.2.1, HLOW.out.2.2, HLOW.out.1, ?_, ?_, ?_, fun a ha => Nat.le_of_lt (HN5'.out a ha), fun a ha => Nat.le_of_lt (HN6'.out a ha)⟩
  · have hne : ∀ a, B5 = some a → a.block ≠ w.heap.size := fun a ha => by have := HN5'.out a ha; omega
    exact (((k7'.set hne _ _).set hne _ _).set hne _ _).set hne _ _
  · have hne : ∀ a, B6 = some a → a.block ≠ w.heap.size := fun a ha => by have := HN6'.out a ha; omega
    exact (((k9.set hne _ _).set hne _ _).set hne _ _).set hne _ _
  · have b7 := BW.out.trans (B6'.out.mono BW.out.size)
    exact (((b7.setCell (Nat.le_refl _) _).setCell (Nat.le_refl _) _).setCell (Nat.le_refl _) _).setCell (Nat.le_refl _) _
end Go.Proofs.YtjalncdllegfoaaDoor
/-
  What mont.New and Modulus answer.
-/
namespace Go.Proofs.YtjalncdllegfoaaDoor
open Go.RowKit
set_option linter.unusedVariables false
theorem nb_iff {N : Int} (h : 0 ≤ N) (k : Nat) : nb N ≤ k ↔ N < 2 ^ k := ⟨fun g => dg_lt_pow (by decide) h g, fun g => dg_len_le (by decide) h g⟩
theorem dl_iff {N : Int} (h : 0 ≤ N) (k : Nat) : dl N ≤ k ↔ N < W ^ k := ⟨fun g => lt_dl h g, fun g => dl_le h g⟩
theorem nb_dl {N : Int} (h : 0 ≤ N) (k : Nat) : nb N ≤ 64 * k ↔ dl N ≤ k := by rw [nb_iff h, dl_iff h, W_pow]
theorem nb_two {N : Int} (h : 0 ≤ N) : 2 ≤ nb N ↔ 2 ≤ N := by
  have := nb_iff h 1
  have e : (2 : Int) ^ 1 = 2 := rfl
  rw [e] at this
  omega
theorem bt_zero (N : Int) : bt N 0 = decide (N % 2 = 1) := by
  unfold bt; simp
/-- What reckons modulo m was answered, in new memory. -/
def MkP (m : Int) (n : Nat) (w : World) (e : Ending) (w' : World) : Prop :=
  ∃ b A c low B cB S cS, e = .returned (.tuple #[.pointer (some ⟨b, 0, none⟩), .nilIface]) ∧ Md w' b m n A c low B cB S cS ∧ Below w.heap.size w w' ∧
    w.heap.size ≤ b ∧ (∀ a, A = some a → w.heap.size ≤ a.block) ∧ (∀ a, B = some a → w.heap.size ≤ a.block) ∧ ∀ a, S = some a → w.heap.size ≤ a.block
/-- 'nil, err' was answered, err a Code. -/
def MkE (code : Int) (w : World) (e : Ending) (w' : World) : Prop :=
  e = .returned (.tuple #[.pointer none, .iface 43 (.int .i64 code)]) ∧ Below w.heap.size w w'
theorem new_long {A : Option Addr} {n c : Nat} {N : Int} {w : World} (h : Nm w A n c N) (hl : 32 < dl N) :
    Calls Tryd.prog 12 #[.slice A n c] w (MkE 2 w) := by
  have g : decide ((2048 : Int) < (nb N : Int)) = true := by
    have := nb_dl h.pos 32
    simp; omega
  go_enter Tryd.func12, Tryd.ntmps12
  go_wp2_with fail
  refine (bits_any h).mono ?_
  rintro e w1 ⟨rfl, rfl⟩
  go_wp2
  go_ret2
  exact ⟨rfl, Below.refl _ _⟩
theorem new_even {A : Option Addr} {n c : Nat} {N : Int} {w : World} (h : Nm w A n c N) (hl : dl N ≤ 32) (he : N % 2 = 0 ∨ N < 3) :
    Calls Tryd.prog 12 #[.slice A n c] w (MkE 5 w) := by
  have g : decide ((2048 : Int) < (nb N : Int)) = false := by
    have := nb_dl h.pos 32
    simp; omega
  have hpos := h.pos
  by_cases g0 : N % 2 = 0
  · have g1 : bt N 0 = false := by rw [bt_zero]; simp; omega
    clear he
    go_enter Tryd.func12, Tryd.ntmps12
    go_wp2_with fail
    refine (bits_any h).mono ?_
    rintro e w1 ⟨rfl, rfl⟩
    go_wp2_with fail
    refine (bit_any h 0 (by decide)).mono ?_
    rintro e w1 ⟨rfl, rfl⟩
    go_wp2
    go_ret2
    exact ⟨rfl, Below.refl _ _⟩
  · have g1 : bt N 0 = true := by rw [bt_zero]; simp; omega
    have g2 : decide ((nb N : Int) < 2) = true := by
      have := nb_two h.pos
      simp; omega
    clear he
    go_enter Tryd.func12, Tryd.ntmps12
    go_wp2_with fail
    refine (bits_any h).mono ?_
    rintro e w1 ⟨rfl, rfl⟩
    go_wp2_with fail
    refine (bit_any h 0 (by decide)).mono ?_
    rintro e w1 ⟨rfl, rfl⟩
    go_wp2_with fail
    refine (bits_any h).mono ?_
    rintro e w1 ⟨rfl, rfl⟩
    go_wp2
    go_ret2
    exact ⟨rfl, Below.refl _ _⟩
set_option maxHeartbeats 1000000 in
theorem new_any {A : Option Addr} {n c : Nat} {N : Int} {w : World} (h : Nm w A n c N) (hl : dl N ≤ 32) (odd : N % 2 = 1) (h3 : 3 ≤ N) :
    Calls Tryd.prog 12 #[.slice A n c] w (MkP N (dl N) w) := by
  have g : decide ((2048 : Int) < (nb N : Int)) = false := by
    have := nb_dl h.pos 32
    simp; omega
  have g1 : bt N 0 = true := by rw [bt_zero]; simp; omega
  have g2 : decide ((nb N : Int) < 2) = false := by
    have := nb_two h.pos
    simp; omega
  have HO := Lib.hid odd
  clear odd
  go_enter Tryd.func12, Tryd.ntmps12
  go_wp2_with fail
  refine (bits_any h).mono ?_
  rintro e w1 ⟨rfl, rfl⟩
  go_wp2_with fail
  refine (bit_any h 0 (by decide)).mono ?_
  rintro e w1 ⟨rfl, rfl⟩
  go_wp2_with fail
  refine (bits_any h).mono ?_
  rintro e w1 ⟨rfl, rfl⟩
  go_wp2_with fail
  refine (norm_any h).mono ?_
  rintro e w1 ⟨B1, n1, c1, rfl, k1, b1, hn1⟩
  obtain rfl := k1.len_
  have HN1 := Lib.hid hn1
  clear hn1
  go_wp2_with fail
  refine (newModulus_any k1 HO.out h3 hl).mono ?_
  rintro e w2 ⟨low, B, cB, S, cS, rfl, l0, l1, hlow, hB, hS, b2, nB, nS⟩
  have HLOW := Lib.hid hlow
  have HNB := Lib.hid nB
  have HNS := Lib.hid nS
  clear hlow nB nS
  go_wp2
  go_ret2
  have b3 := b1.trans (b2.mono b1.size)
  have ba : Below w2.heap.size w2 (w2.alloc (.cells #[.slice B1 (dl N) c1, .int .u64 low, .slice B (dl N) cB, .slice S (dl N) cS] 81)) := (Below.refl _ _).alloc (Nat.le_refl _) _
  have s1 := b1.size
  have s2 := b2.size
  refine ⟨w2.heap.size, B1, c1, low, B, cB, S, cS, rfl, ⟨by simp, ?_, ?_, ?_, ?_, (k1.below b2).alloc _, l0, l1, HLOW.out, hB.alloc _, hS.alloc _, HO.out, h3, hl⟩, b3.alloc b3.size _, by omega, HN1.out, fun a ha => by have := HNB.out a ha; omega, fun a ha => by have := HNS.out a ha; omega⟩
  all_goals simp [go_sem]
end Go.Proofs.YtjalncdllegfoaaDoor
/-
  What mont's powersOf, digitCount and digitAt answer.
-/
namespace Go.Proofs.YtjalncdllegfoaaDoor
open Go.RowKit
set_option linter.unusedVariables false
/-! ### Digits of four bits -/
theorem four_split {xs : List Int} {k r : Nat} (hd : Dig W xs) (hr : r ≤ 60) : val W xs / 2 ^ (64 * k + r) % 16 = dig xs k / 2 ^ r % 16 := by
  have h := val_vf W xs (m := k + 1 + xs.length) (by omega)
  rw [vf_split W (dig xs) (k + 1) xs.length] at h
  have hlow := vf_bd (b := W) (by decide) (fun j => dig_bd (b := W) (by decide) hd j) k
  generalize vf W (fun j => dig xs (k + 1 + j)) xs.length = hi at h
  simp only [vf] at h
  rw [h]
  have e1 : (2 : Int) ^ (64 * k + r) = W ^ k * 2 ^ r := by rw [Int.pow_add, W_pow]
  have e2 : W ^ (k + 1) = W ^ k * W := Int.pow_succ _ _
  have e3 : W = 2 ^ r * 2 ^ (60 - r) * 16 := by
    rw [← Int.pow_add, show r + (60 - r) = 60 by omega]; decide
  have hp := pow_pos' W_two k
  have hp2 : (0 : Int) < 2 ^ r := Int.pow_pos (by decide)
  have e4 : vf W (dig xs) k + dig xs k * W ^ k + W ^ (k + 1) * hi = vf W (dig xs) k + W ^ k * (dig xs k + W * hi) := by rw [e2]; grind
  rw [e4, e1, ← Int.ediv_ediv_of_nonneg (Int.le_of_lt hp), Int.add_mul_ediv_left _ _ (Int.ne_of_gt hp), Int.ediv_eq_zero_of_lt hlow.1 hlow.2, Int.zero_add]
  have e5 : dig xs k + W * hi = dig xs k + 2 ^ r * (16 * (2 ^ (60 - r) * hi)) := by
    have : W * hi = 2 ^ r * (16 * (2 ^ (60 - r) * hi)) := by
      conv => lhs; rw [e3]
      generalize (2 : Int) ^ r = p
      generalize (2 : Int) ^ (60 - r) = q
      grind
    rw [this]
  rw [e5, Int.add_mul_ediv_left _ _ (Int.ne_of_gt hp2), Int.add_mul_emod_self_left]
theorem pow16 (i : Nat) : (16 : Int) ^ i = 2 ^ (4 * i) := by
  have : (16 : Int) = 2 ^ 4 := by decide
  rw [this, ← Int.pow_mul]
theorem four_at {xs : List Int} {i : Nat} (hd : Dig W xs) : val W xs / 16 ^ i % 16 = dig xs (i / 16) / 2 ^ (4 * (i % 16)) % 16 := by
  rw [pow16, ← four_split hd (by omega)]
  congr 3
  omega
theorem digitCount_any {A : Option Addr} {n c : Nat} {N : Int} {w : World} (h : Nm w A n c N) (hN : dl N ≤ 64) :
    Calls Tryd.prog 56 #[.slice A n c] w fun e w' => e = .returned (.int .i64 (((nb N + 3) / 4 : Nat) : Int)) ∧ w = w' := by
  have hb := (nb_dl h.pos 64).2 hN
  have e : ((((nb N : Nat) : Int) + 4 - 1) / 4) = (((nb N + 3) / 4 : Nat) : Int) := by omega
  have HE := Lib.hid e
  clear e
  go_enter Tryd.func56, Tryd.ntmps56
  go_wp2_with fail
  refine (bits_any h).mono ?_
  rintro e w1 ⟨rfl, rfl⟩
  go_wp2
  go_ret
  exact ⟨congrArg (fun v => Ending.returned (.int .i64 v)) HE.out, rfl⟩
theorem digitAt_any {A : Option Addr} {n c : Nat} {N : Int} {w : World} (h : Nm w A n c N) (i : Nat) (hi : i / 16 < n) (hi2 : i ≤ 100000) :
    Calls Tryd.prog 58 #[.slice A n c, .int .i64 i] w fun e w' => e = .returned (.int .u64 (N / 16 ^ i % 16)) ∧ w = w' := by
  obtain ⟨⟨xs, h1, h2, h3⟩, h4, h5, h6⟩ := h
  have hsp := four_at (i := i) h2
  rw [h3] at hsp
  obtain ⟨b, off, x, rfl, hb, hx, hcell⟩ := h1.at_ hi
  have hxe := dig_lt hx
  have d := dig_W h2 (i / 16)
  rw [hxe] at hsp d
  have HSP := Lib.hid hsp
  have g1 : (i : Int) / 16 < (n : Int) := by omega
  have g2 : ((i : Int) / 16).toNat = i / 16 := by omega
  have g3 : (4 * ((i : Int) % 16)).toNat = 4 * (i % 16) := by omega
  have g4 : 0 ≤ 4 * ((i : Int) % 16) := by omega
  have g5 : 0 ≤ (i : Int) / 16 := by omega
  have q0 : 0 ≤ x / 2 ^ (4 * (i % 16)) := Int.ediv_nonneg d.1 (Int.le_of_lt (Int.pow_pos (by decide)))
  clear hsp hxe hx h1 h3
  go_enter Tryd.func58, Tryd.ntmps58
  go_wp2
  go_ret
  exact ⟨by rw [HSP.out]; rfl, rfl⟩
/-! ### The table of powers -/
/-- Up to k the table's cells are the forms of a's powers: the slice Bo, or in blocks behind g + 1. -/
def Pows (w : World) (m : Int) (n : Nat) (a : Int) (arr : Array Value) (k g : Nat) (Bo : Option Addr) : Prop :=
  ∀ j, j < k → ∃ A c T, arr[j]? = some (.slice A n c) ∧ Nm w A n c T ∧ Form m n (a ^ j) T ∧ (A = Bo ∨ ∀ x, A = some x → g + 1 < x.block)
theorem Pows.below {w w' : World} {m : Int} {n : Nat} {a : Int} {arr : Array Value} {k g : Nat} {Bo : Option Addr} (h : Pows w m n a arr k g Bo) (hb : Below w.heap.size w w') : Pows w' m n a arr k g Bo := fun j hj => by
  obtain ⟨A, c, T, h1, h2, h3, h4⟩ := h j hj
  exact ⟨A, c, T, h1, h2.below hb, h3, h4⟩
theorem Nm.setRow {w : World} {A : Option Addr} {n c : Nat} {N : Int} (h : Nm w A n c N) {g : Nat} (hne : ∀ a, A = some a → a.block ≠ g) (cs : Array Value) : Nm (w.setRow g cs) A n c N := by
  obtain ⟨⟨xs, h1, h2, h3⟩, h4, h5, h6⟩ := h
  refine ⟨⟨xs, ⟨h1.len, fun hn => ?_⟩, h2, h3⟩, h4, h5, h6⟩
  obtain ⟨b, off, e, hb, hc⟩ := h1.cells hn
  exact ⟨b, off, e, by rw [setRow_size]; exact hb, fun j x hx => (cell_setRow_other w g cs ⟨b, off + j, none⟩ (hne ⟨b, off, none⟩ e)).trans (hc j x hx)⟩
theorem Pows.setRow {w : World} {m : Int} {n : Nat} {a : Int} {arr : Array Value} {k g g' : Nat} {Bo : Option Addr} (h : Pows w m n a arr k g Bo) (hB : ∀ x, Bo = some x → x.block < g') (hg : g' ≤ g + 1) (cs : Array Value) : Pows (w.setRow g' cs) m n a arr k g Bo := fun j hj => by
  obtain ⟨A, c, T, h1, h2, h3, h4⟩ := h j hj
  refine ⟨A, c, T, h1, h2.setRow (fun x hx => ?_) cs, h3, h4⟩
  rcases h4 with h4 | h4
  · have := hB x (h4 ▸ hx); omega
  · have := h4 x hx; omega
theorem Pows.snoc {w : World} {m : Int} {n : Nat} {a : Int} {arr : Array Value} {k g : Nat} {Bo : Option Addr} (h : Pows w m n a arr k g Bo) (hk : k < arr.size) {A : Option Addr} {c : Nat} {T : Int} (h2 : Nm w A n c T) (h3 : Form m n (a ^ k) T) (h4 : ∀ x, A = some x → g + 1 < x.block) :
    Pows w m n a (arr.setIfInBounds k (.slice A n c)) (k + 1) g Bo := fun j hj => by
  rcases Nat.lt_or_ge j k with g1 | g1
  · obtain ⟨A', c', T', e1, e2, e3, e4⟩ := h j g1
    exact ⟨A', c', T', by rw [Array.getElem?_setIfInBounds, if_neg (by omega)]; exact e1, e2, e3, e4⟩
  · obtain rfl : j = k := by omega
    exact ⟨A, c, T, by rw [Array.getElem?_setIfInBounds, if_pos rfl, if_pos hk], h2, h3, .inr h4⟩
def PwR (m : Int) (n : Nat) (a : Int) (Bo : Option Addr) (w : World) (i : Value) (wr : World) : Prop :=
  ∃ (k : Nat) (arr old : Array Value), k + 1 ≤ 16 ∧ i = .int .i64 ((k : Int) + 1) ∧ wr.heap[w.heap.size]? = some (.cells old 97 (0, 0)) ∧ old.size = 16 ∧ wr.heap[w.heap.size + 1]? = some (.cells arr 97 (0, 0)) ∧ arr.size = 16 ∧ arr.all (·.oneCell') = true ∧
    Pows wr m n a arr (k + 1) w.heap.size Bo ∧ Below w.heap.size w wr
def PwP (m : Int) (n : Nat) (a : Int) (Bo : Option Addr) (w : World) (e : Ending) (w' : World) : Prop :=
  ∃ arr : Array Value, e = .returned (.agg arr) ∧ arr.size = 16 ∧ arr.all (·.oneCell') = true ∧ Pows w' m n a arr 16 w.heap.size Bo ∧ Below w.heap.size w w'
theorem Nm.lt {w : World} {A : Option Addr} {n c : Nat} {N : Int} (h : Nm w A n c N) (hn : 0 < n) : ∀ x, A = some x → x.block < w.heap.size := by
  obtain ⟨⟨xs, h1, h2, h3⟩, h4, h5, h6⟩ := h
  intro x hx
  obtain ⟨b, off, e, hb, hc⟩ := h1.cells hn
  rw [e] at hx; injection hx with hx; subst hx; exact hb
theorem one_form {m : Int} {n : Nat} (hm : 0 < m) : Form m n (1 : Int) (W ^ n % m) := ⟨Int.emod_nonneg _ (by omega), Int.emod_lt_of_pos _ hm, by rw [Int.one_mul]; exact Eqm.mod m _⟩
theorem two_blocks (w : World) (o o' : Obj) : ((w.alloc o).alloc o').heap[w.heap.size]? = some o ∧ ((w.alloc o).alloc o').heap[w.heap.size + 1]? = some o' := by
  have e : (w.alloc o).heap.size = w.heap.size + 1 := by simp
  have h := heap_alloc_new (w.alloc o) o'
  rw [e] at h
  exact ⟨(Below.heap_alloc (w.alloc o) o' w.heap.size (by rw [e]; omega)).trans (heap_alloc_new w o), h⟩
theorem size67 : (Tryd.prog.info? 97).map (·.size) = some 16 := by kernel_rfl
set_option maxHeartbeats 4000000 in
set_option maxRecDepth 100000 in
theorem powersOf_any {w : World} {b : Nat} {m : Int} {n : Nat} {A : Option Addr} {c : Nat} {low : Int} {B : Option Addr} {cB : Nat} {S : Option Addr} {cS : Nat} (md : Md w b m n A c low B cB S cS)
    {XA : Option Addr} {cx : Nat} {X a : Int} (hX : Nm w XA n cx X) (hF : Form m n a X) :
    Calls Tryd.prog 54 #[.pointer (some ⟨b, 0, none⟩), .slice XA n cx] w (PwP m n a B w) := by
  have q2 := md.c2
  have hlt := md.lt
  have n1 := md.n1
  have HF := Lib.hid hF
  clear hF
  go_enter Tryd.func54, Tryd.ntmps54
  go_wp2_with fail
  have hone := Nm.lt md.one (by omega)
  go_loopw [6] (fun i wr => PwR m n a B w i wr) (fun i _ => 16 - (intOf i).toNat)
  case atStart =>
    refine ⟨0, _, _, by omega, rfl, (two_blocks w _ _).1, rfl, (two_blocks w _ _).2, rfl, by simp [Value.oneCell'], ?_, ((Below.refl _ _).alloc (Nat.le_refl _) _).alloc (by simp) _⟩
    intro j hj
    obtain rfl : j = 0 := by omega
    refine ⟨B, cB, _, rfl, (md.one.alloc _).alloc _, ?_, .inl rfl⟩
    rw [Int.pow_zero]
    exact one_form (by have := md.m3; omega)
  case round =>
    obtain ⟨k, arr, old, hk, rfl, hg0, ho, hg1, ha, hall, hp, hb⟩ := hrel
    have HG0 := Lib.hid hg0
    have HO := Lib.hid ho
    have HG1 := Lib.hid hg1
    have HA := Lib.hid ha
    have HALL := Lib.hid hall
    have HP := Lib.hid hp
    clear hg0 ho hg1 hall hp
    have lt1 : w.heap.size + 1 < wr.heap.size := (Array.getElem?_eq_some_iff.1 HG1.out).1
    rcases Nat.lt_or_ge (k + 1) 16 with hlt16 | hge
    · obtain ⟨A1, c1, T1, e1, hN1, hF1, hne1⟩ := HP.out k (by omega)
      have hcell := (cell_of_row wr (w.heap.size + 1) k arr _ _ HG1.out).trans e1
      have mdw := md.below hb
      have hXw := hX.below hb
      have HE1 := Lib.hid e1
      clear e1 ha
      have g1 : (k : Int) + 1 < 16 := by omega
      go_wp2_with fail
      refine (times_any mdw hN1 hXw hF1.lt).mono ?_
      rintro e w1 ⟨B2, c2, T2, rfl, hN2, hT2, hb2, hn2⟩
      have hF2 := hT2.form md.odd hF1 HF.out
      rw [← Int.pow_succ] at hF2
      have hg1' := (hb2.block (w.heap.size + 1) lt1).trans HG1.out
      have hg0' := (hb2.block w.heap.size (by omega)).trans HG0.out
      have hfz := frozen_of_row w1 (w.heap.size + 1) (k + 1) arr _ hg1'
      have hck := (cell_of_row w1 (w.heap.size + 1) (k + 1) arr _ _ hg1').trans (Array.getElem?_eq_getElem (show k + 1 < arr.size by rw [HA.out]; omega))
      have HG1' := Lib.hid hg1'
      have HG0' := Lib.hid hg0'
      have HN2 := Lib.hid hn2
      clear hg1' hg0' hcell hn2
      generalize arr[k + 1]'(show k + 1 < arr.size by rw [HA.out]; omega) = vk at hck
      go_wp2
      go_roundw
      case rel =>
        have hset := setCell_eq_setRow w1 (w.heap.size + 1) (k + 1) arr _ _ (.slice B2 n c2) HG1'.out
        rw [hset]
        refine ⟨k + 1, arr.setIfInBounds (k + 1) (.slice B2 n c2), old, by omega, by go_num, ?_, HO.out, setRow_heap w1 _ arr _ _ _ HG1'.out, by rw [Array.size_setIfInBounds]; exact HA.out, ?_, ?_, ?_⟩
        · rw [setRow_other w1 _ _ _ (by omega)]; exact HG0'.out
        · rw [Array.all_eq_true_iff_forall_mem]
          intro v hv
          have hall := Array.all_eq_true_iff_forall_mem.1 HALL.out
          rcases Array.mem_or_eq_of_mem_setIfInBounds hv with hv | rfl
          · exact hall v hv
          · rfl
        · refine ((HP.out.below hb2).snoc (by rw [HA.out]; omega) hN2 hF2 (fun x hx => by have := HN2.out x hx; omega)).setRow (fun x hx => by have := hone x hx; omega) (Nat.le_refl _) _
        · exact below_setRow (hb.trans (hb2.mono hb.size)) (by omega) _
      case measure => simp [intOf]; omega
    · obtain rfl : k = 15 := by omega
      clear ha
      go_wp2_with (first | (refine wpList_load_row rfl 97 (.tmp 5) rfl (w.heap.size + 1) rfl _ arr _ _ HG1.out Tryd.underlying97 rfl ?h1 ?_) | (refine wpList_store_row rfl 97 (.tmp 4) (.tmp 25) rfl w.heap.size arr rfl rfl _ old HG0.out ?h2 ?h3 HALL.out ?_))
      case h1 => rw [HA.out]; exact size67
      case h2 => rw [HA.out]; exact size67
      case h3 => rw [HA.out]; exact HO.out
      refine bodyPost_ret (v := .agg arr) (results_cell_row Tryd.results54 _ _ w.heap.size _ arr _ _ rfl (setRow_heap wr _ old arr _ _ HG0.out) Tryd.underlying97 rfl (by rw [HA.out]; exact size67)) rfl ?_
      exact ⟨arr, rfl, HA.out, HALL.out, HP.out.setRow hone (by omega) _, below_setRow hb (Nat.le_refl _) _⟩
end Go.Proofs.YtjalncdllegfoaaDoor
/-
  What Reduce and Sub answer, modulo a number.
-/
namespace Go.Proofs.YtjalncdllegfoaaDoor
open Go.RowKit
set_option linter.unusedVariables false
section
variable {w : World} {b : Nat} {m : Int} {n : Nat} {A : Option Addr} {c : Nat} {low : Int} {B : Option Addr} {cB : Nat} {S : Option Addr} {cS : Nat}
theorem Md.dlm (md : Md w b m n A c low B cB S cS) : dl m ≤ 64 := by have := md.len; have := md.l32; omega
theorem Md.rest (md : Md w b m n A c low B cB S cS) (X : Int) : 0 ≤ X % m ∧ X % m < m ∧ dl (X % m) ≤ 32 ∧ dl (X % m) ≤ 64 := by
  have h3 := md.m3
  have h0 := Int.emod_nonneg X (show m ≠ 0 by omega)
  have h1 := Int.emod_lt_of_pos X (show 0 < m by omega)
  have h2 := dl_mono h0 (show X % m ≤ m by omega)
  have := md.len
  have := md.l32
  exact ⟨h0, h1, by omega, by omega⟩
theorem reduce_any (md : Md w b m n A c low B cB S cS) {XA : Option Addr} {l cx : Nat} {X : Int} (hX : Nm w XA l cx X) (hl : dl X ≤ 64) :
    Calls Tryd.prog 24 #[.pointer (some ⟨b, 0, none⟩), .slice XA l cx] w (Ans (X % m) w) := by
  have q0 := md.c0
  have m3 := md.m3
  go_enter Tryd.func24, Tryd.ntmps24
  go_wp2_with fail
  refine (div_any hX md.lim.nm hl md.dlm (by omega)).mono ?_
  rintro e w1 ⟨B1, n1, c1, B2, n2, c2, rfl, -, k1, b1, -, hn⟩
  go_wp2
  go_ret2
  exact ⟨_, _, _, rfl, k1, b1, hn⟩
theorem reduce_long (md : Md w b m n A c low B cB S cS) {XA : Option Addr} {l cx : Nat} {X : Int} (hX : Nm w XA l cx X) (hl : 64 < dl X) :
    Calls Tryd.prog 24 #[.pointer (some ⟨b, 0, none⟩), .slice XA l cx] w (Err1 2 w) := by
  have q0 := md.c0
  go_enter Tryd.func24, Tryd.ntmps24
  go_wp2_with fail
  refine (div_long hX md.lim.nm (.inl hl)).mono ?_
  rintro e w1 ⟨rfl, b1⟩
  go_wp2
  go_ret2
  exact ⟨rfl, b1⟩
/-- Two residues and no error. -/
def Both (X Y : Int) (w : World) (e : Ending) (w' : World) : Prop :=
  ∃ B1 n1 c1 B2 n2 c2, e = .returned (.tuple #[.slice B1 n1 c1, .slice B2 n2 c2, .nilIface]) ∧ Cn w' B1 n1 c1 X ∧ Cn w' B2 n2 c2 Y ∧ Below w.heap.size w w'
theorem both_any (md : Md w b m n A c low B cB S cS) {XA YA : Option Addr} {l cx l' cy : Nat} {X Y : Int} (hX : Nm w XA l cx X) (hY : Nm w YA l' cy Y) (hl : dl X ≤ 64) (hl' : dl Y ≤ 64) :
    Calls Tryd.prog 88 #[.pointer (some ⟨b, 0, none⟩), .slice XA l cx, .slice YA l' cy] w (Both (X % m) (Y % m) w) := by
  go_enter Tryd.func88, Tryd.ntmps88
  go_wp2_with fail
  refine (reduce_any md hX hl).mono ?_
  rintro e w1 ⟨B1, n1, c1, rfl, k1, b1, -⟩
  go_wp2_with fail
  refine (reduce_any (md.below b1) (hY.below b1) hl').mono ?_
  rintro e w2 ⟨B2, n2, c2, rfl, k2, b2, -⟩
  go_wp2
  refine bodyPost_ret (v := .tuple #[.slice B1 n1 c1, .slice B2 n2 c2, .nilIface]) (by simp [results, Tryd.results88, go_sem]) rfl ?_
  exact ⟨_, _, _, _, _, _, rfl, k1.below b2, k2, b1.trans (b2.mono b1.size)⟩
theorem both_long (md : Md w b m n A c low B cB S cS) {XA YA : Option Addr} {l cx l' cy : Nat} {X Y : Int} (hX : Nm w XA l cx X) (hY : Nm w YA l' cy Y) (hl : 64 < dl X ∨ 64 < dl Y) :
    Calls Tryd.prog 88 #[.pointer (some ⟨b, 0, none⟩), .slice XA l cx, .slice YA l' cy] w (Err2 2 w) := by
  have HL := Lib.hid hl
  clear hl
  rcases Nat.lt_or_ge 64 (dl X) with g | g
  · go_enter Tryd.func88, Tryd.ntmps88
    go_wp2_with fail
    refine (reduce_long md hX g).mono ?_
    rintro e w1 ⟨rfl, b1⟩
    go_wp2
    refine bodyPost_ret (v := .tuple #[.slice none 0 0, .slice none 0 0, .iface 43 (.int .i64 2)]) (by simp [results, Tryd.results88, go_sem]) rfl ⟨rfl, b1⟩
  · have g2 : 64 < dl Y := by have := HL.out; omega
    go_enter Tryd.func88, Tryd.ntmps88
    go_wp2_with fail
    refine (reduce_any md hX g).mono ?_
    rintro e w1 ⟨B1, n1, c1, rfl, k1, b1, -⟩
    go_wp2_with fail
    refine (reduce_long (md.below b1) (hY.below b1) g2).mono ?_
    rintro e w2 ⟨rfl, b2⟩
    go_wp2
    refine bodyPost_ret (v := .tuple #[.slice none 0 0, .slice none 0 0, .iface 43 (.int .i64 2)]) (by simp [results, Tryd.results88, go_sem]) rfl ⟨rfl, b1.trans (b2.mono b1.size)⟩
theorem sub_ge {m X Y : Int} (h0 : 0 ≤ Y % m) (h1 : X % m < m) (hm : 0 < m) (h : Y % m ≤ X % m) : X % m - Y % m = (X - Y) % m :=
  Eqm.rest ((Eqm.mod m X).sub (Eqm.mod m Y)) (by omega) (by omega)
theorem sub_lt {m X Y : Int} (h0 : 0 ≤ X % m) (h1 : Y % m < m) (hm : 0 < m) (h : X % m < Y % m) : m - (Y % m - X % m) = (X - Y) % m :=
  Eqm.rest (Eqm.trans ⟨1, by omega⟩ ((Eqm.mod m X).sub (Eqm.mod m Y))) (by omega) (by omega)
theorem msub_any (md : Md w b m n A c low B cB S cS) {XA YA : Option Addr} {l cx l' cy : Nat} {X Y : Int} (hX : Nm w XA l cx X) (hY : Nm w YA l' cy Y) (hl : dl X ≤ 64) (hl' : dl Y ≤ 64) :
    Calls Tryd.prog 71 #[.pointer (some ⟨b, 0, none⟩), .slice XA l cx, .slice YA l' cy] w (Ans ((X - Y) % m) w) := by
  have rx := md.rest X
  have ry := md.rest Y
  have m3 := md.m3
  rcases Int.lt_or_le (X % m) (Y % m) with g | g
  · have hc : decide (cmpI (X % m) (Y % m) ≥ 0) = false := by rw [cmpI_lt g]; rfl
    have rs : dl (Y % m - X % m) ≤ 64 := by have := dl_mono (N := Y % m - X % m) (M := Y % m) (by omega) (by omega); omega
    have HE := Lib.hid (sub_lt rx.1 ry.2.1 (by omega) g)
    have d1 := rx.2.2.2
    have d2 := ry.2.2.2
    have hle : X % m ≤ Y % m := by omega
    have hle2 : Y % m - X % m ≤ m := by omega
    clear rx ry
    go_enter Tryd.func71, Tryd.ntmps71
    go_wp2_with fail
    refine (both_any md hX hY hl hl').mono ?_
    rintro e w1 ⟨B1, n1, c1, B2, n2, c2, rfl, k1, k2, b1⟩
    go_wp2_with fail
    refine (cmp_any k1.nm k2.nm).mono ?_
    rintro e w2 ⟨rfl, q, rfl⟩
    have k1' := k1.drewN q
    have k2' := k2.drewN q
    have b12 := below_drewN b1 q
    clear k1 k2 b1
    go_wp2_with fail
    refine (sub_any k2'.nm k1'.nm d2 d1 hle).mono ?_
    rintro e w3 ⟨B3, n3, c3, rfl, k3, b3, -⟩
    have b13 := b12.trans (b3.mono b12.size)
    have md3 := md.below b13
    have q0 := md3.c0
    clear k1' k2' b12 b3
    go_wp2_with fail
    refine (sub_any md3.lim.nm k3.nm md.dlm rs hle2).mono ?_
    rintro e w4 ⟨B4, n4, c4, rfl, k4, b4, hn⟩
    rw [HE.out] at k4
    go_wp2
    go_ret2
    exact ⟨_, _, _, rfl, k4, b13.trans (b4.mono b13.size), fun a ha => Nat.le_trans b13.size (hn a ha)⟩
  · have hc : decide (cmpI (X % m) (Y % m) ≥ 0) = true := by
      rcases Int.lt_or_eq_of_le g with g | g
      · rw [cmpI_gt g]; rfl
      · rw [g, cmpI_eq]; rfl
    have HE := Lib.hid (sub_ge ry.1 rx.2.1 (by omega) g)
    have d1 := rx.2.2.2
    have d2 := ry.2.2.2
    clear rx ry
    go_enter Tryd.func71, Tryd.ntmps71
    go_wp2_with fail
    refine (both_any md hX hY hl hl').mono ?_
    rintro e w1 ⟨B1, n1, c1, B2, n2, c2, rfl, k1, k2, b1⟩
    go_wp2_with fail
    refine (cmp_any k1.nm k2.nm).mono ?_
    rintro e w2 ⟨rfl, q, rfl⟩
    have k1' := k1.drewN q
    have k2' := k2.drewN q
    have b12 := below_drewN b1 q
    clear k1 k2 b1
    go_wp2_with fail
    refine (sub_any k1'.nm k2'.nm d1 d2 g).mono ?_
    rintro e w3 ⟨B3, n3, c3, rfl, k3, b3, hn⟩
    rw [HE.out] at k3
    go_wp2
    go_ret2
    exact ⟨_, _, _, rfl, k3, b12.trans (b3.mono b12.size), fun a ha => Nat.le_trans b12.size (hn a ha)⟩
theorem msub_long (md : Md w b m n A c low B cB S cS) {XA YA : Option Addr} {l cx l' cy : Nat} {X Y : Int} (hX : Nm w XA l cx X) (hY : Nm w YA l' cy Y) (hl : 64 < dl X ∨ 64 < dl Y) :
    Calls Tryd.prog 71 #[.pointer (some ⟨b, 0, none⟩), .slice XA l cx, .slice YA l' cy] w (Err1 2 w) := by
  have HL := Lib.hid hl
  clear hl
  go_enter Tryd.func71, Tryd.ntmps71
  go_wp2_with fail
  refine (both_long md hX hY HL.out).mono ?_
  rintro e w1 ⟨rfl, b1⟩
  go_wp2
  go_ret2
  exact ⟨rfl, b1⟩
end
end Go.Proofs.YtjalncdllegfoaaDoor
/-
  What Mul answers, modulo a number.
-/
namespace Go.Proofs.YtjalncdllegfoaaDoor
open Go.RowKit
set_option linter.unusedVariables false
section
variable {w : World} {b : Nat} {m : Int} {n : Nat} {A : Option Addr} {c : Nat} {low : Int} {B : Option Addr} {cB : Nat} {S : Option Addr} {cS : Nat}
end
end Go.Proofs.YtjalncdllegfoaaDoor
/-
  What Mod.Add answers.
-/
namespace Go.Proofs.YtjalncdllegfoaaDoor
open Go.RowKit
set_option linter.unusedVariables false
section
variable {w : World} {b : Nat} {m : Int} {n : Nat} {A : Option Addr} {c : Nat} {low : Int} {B : Option Addr} {cB : Nat} {S : Option Addr} {cS : Nat}
end
end Go.Proofs.YtjalncdllegfoaaDoor
/-
  What Modulus answers.
-/
namespace Go.Proofs.YtjalncdllegfoaaDoor
open Go.RowKit
set_option linter.unusedVariables false
theorem modulus_any {w : World} {b : Nat} {m : Int} {n : Nat} {A : Option Addr} {c : Nat} {low : Int} {B : Option Addr} {cB : Nat} {S : Option Addr} {cS : Nat} (md : Md w b m n A c low B cB S cS) :
    Calls Tryd.prog 33 #[.pointer (some ⟨b, 0, none⟩)] w (Ans1 m w) := by
  have q0 := md.c0
  go_enter Tryd.func33, Tryd.ntmps33
  go_wp2_with fail
  refine (norm_any md.lim.nm).mono ?_
  rintro e w1 ⟨B1, n1, c1, rfl, k1, b1, hn1⟩
  go_wp2
  go_ret
  exact ⟨_, _, _, rfl, k1, b1, hn1⟩
end Go.Proofs.YtjalncdllegfoaaDoor
/-
  What Exp answers, modulo a number.
-/
namespace Go.Proofs.YtjalncdllegfoaaDoor
open Go.RowKit
set_option linter.unusedVariables false
section
variable {w : World} {b : Nat} {m : Int} {n : Nat} {A : Option Addr} {c : Nat} {low : Int} {B : Option Addr} {cB : Nat} {S : Option Addr} {cS : Nat}
theorem exp_long (md : Md w b m n A c low B cB S cS) {XA YA : Option Addr} {l cx l' cy : Nat} {X E : Int} (hX : Nm w XA l cx X) (hE : Nm w YA l' cy E) (hl : 64 < dl X ∨ 64 < dl E) :
    Calls Tryd.prog 34 #[.pointer (some ⟨b, 0, none⟩), .slice XA l cx, .slice YA l' cy] w (Err1 2 w) := by
  have HL := Lib.hid hl
  clear hl
  rcases Nat.lt_or_ge 64 (dl E) with g | g
  · have g1 : decide ((4096 : Int) < (nb E : Int)) = true := by
      have := nb_dl hE.pos 64
      simp; omega
    go_enter Tryd.func34, Tryd.ntmps34
    go_wp2_with fail
    refine (bits_any hE).mono ?_
    rintro e w1 ⟨rfl, rfl⟩
    go_wp2
    go_ret2
    exact ⟨rfl, Below.refl _ _⟩
  · have g1 : decide ((4096 : Int) < (nb E : Int)) = false := by
      have := nb_dl hE.pos 64
      simp; omega
    have g2 : 64 < dl X := by have := HL.out; omega
    go_enter Tryd.func34, Tryd.ntmps34
    go_wp2_with fail
    refine (bits_any hE).mono ?_
    rintro e w1 ⟨rfl, rfl⟩
    go_wp2_with fail
    refine (reduce_long md hX g2).mono ?_
    rintro e w1 ⟨rfl, b1⟩
    go_wp2
    go_ret2
    exact ⟨rfl, b1⟩
def nils16 : Array Value := #[.slice none 0 0, .slice none 0 0, .slice none 0 0, .slice none 0 0, .slice none 0 0, .slice none 0 0, .slice none 0 0, .slice none 0 0, .slice none 0 0, .slice none 0 0, .slice none 0 0, .slice none 0 0, .slice none 0 0, .slice none 0 0, .slice none 0 0, .slice none 0 0]
theorem store16 (w : World) {arr : Array Value} (h : arr.size = 16) (h1 : arr.all (·.oneCell') = true) :
    (storeCells ⟨w.heap.size, 0, none⟩ arr.toList).run Tryd.prog (w.alloc (.cells #[.slice none 0 0, .slice none 0 0, .slice none 0 0, .slice none 0 0, .slice none 0 0, .slice none 0 0, .slice none 0 0, .slice none 0 0, .slice none 0 0, .slice none 0 0, .slice none 0 0, .slice none 0 0, .slice none 0 0, .slice none 0 0, .slice none 0 0, .slice none 0 0] 97)) = .ok () (w.alloc (.cells arr 97)) :=
  run_storeCells_new w 97 nils16 arr (by rw [h]; exact size67) (by rw [h]; rfl) h1
theorem store16' (w : World) {arr old : Array Value} {g : Nat} (hg : w.heap[g]? = some (.cells old 97 (0, 0))) (ho : old.size = 16) (h : arr.size = 16) (h1 : arr.all (·.oneCell') = true) :
    (storeCells ⟨g, 0, none⟩ arr.toList).run Tryd.prog w = .ok () (w.setRow g arr) := by
  have := run_storeCells_from (P := Tryd.prog) g 97 arr.toList 0 old w hg (by simp; omega) (fun v hv => (Array.all_eq_true_iff_forall_mem.1 h1) v (by simpa using hv))
  simpa using this
theorem below_al (w : World) (o : Obj) : Below w.heap.size w (w.alloc o) := (Below.refl _ _).alloc (Nat.le_refl _) _
theorem below_dr (w : World) : Below w.heap.size w w.drew := (Below.refl _ _).drew
/-- Where the powers lie when the loop begins. -/
structure Up1 (w1 : World) (m : Int) (n : Nat) (a : Int) (gp : Nat) (arr : Array Value) (gg : Nat) (Bo : Option Addr) : Prop where
  tab : w1.heap[gp]? = some (.cells arr 97 (0, 0))
  size : arr.size = 16
  pows : Pows w1 m n a arr 16 gg Bo
/-- What the powers leave: the table, its forms, all else as it was. -/
def ExC (m : Int) (n : Nat) (a : Int) (w : World) (p : Value) (wx : World) : Prop :=
  ∃ wv gp arr gg Bo, wv = wx ∧ p = .pointer (some ⟨gp, 0, none⟩) ∧ Up1 wv m n a gp arr gg Bo ∧ Below w.heap.size w wv
def ExR (m : Int) (n : Nat) (a E : Int) (w1 : World) (z i : Value) (wr : World) : Prop :=
  ∃ (k : Nat) (v : Int) (Z : Option Addr) (cz : Nat) (T : Int), i = .int .i64 v ∧ v = (k : Int) - 1 ∧ k ≤ (nb E + 3) / 4 ∧ z = .slice Z n cz ∧ Nm wr Z n cz T ∧ Form m n (a ^ (E / 16 ^ k).toNat) T ∧ Below w1.heap.size w1 wr
def ExI (m : Int) (n : Nat) (u : Int) (w1 : World) (z j : Value) (wr : World) : Prop :=
  ∃ (k : Nat) (Z : Option Addr) (cz : Nat) (T : Int), k ≤ 4 ∧ j = .int .i64 k ∧ z = .slice Z n cz ∧ Nm wr Z n cz T ∧ Form m n (u ^ 2 ^ k) T ∧ Below w1.heap.size w1 wr
theorem exp_top {E : Int} (h : 0 ≤ E) : (E / 16 ^ ((nb E + 3) / 4)).toNat = 0 := by
  have h1 := nb_lt h
  have h2 : (2 : Int) ^ nb E ≤ 16 ^ ((nb E + 3) / 4) := by rw [pow16]; exact pow_mono (by decide) (by omega)
  rw [Int.ediv_eq_zero_of_lt h (by omega)]
  rfl
theorem exp_next {E a : Int} {j d : Nat} (h : 0 ≤ E) (hd : E / 16 ^ j % 16 = (d : Int)) : (a ^ (E / 16 ^ (j + 1)).toNat) ^ 2 ^ 4 * a ^ d = a ^ (E / 16 ^ j).toNat := by
  have hp : (0 : Int) < 16 ^ j := Int.pow_pos (by decide)
  have e1 : E / 16 ^ (j + 1) = E / 16 ^ j / 16 := by rw [Int.pow_succ, Int.ediv_ediv_of_nonneg (Int.le_of_lt hp)]
  have q0 := Int.ediv_nonneg h (Int.le_of_lt hp)
  rw [e1]
  generalize E / 16 ^ j = q at *
  have e2 : q.toNat = (q / 16).toNat * 16 + d := by omega
  rw [e2, Int.pow_add, Int.pow_mul]
theorem digit_in {E : Int} {j l : Nat} (h : 0 ≤ E) (hj : j + 1 ≤ (nb E + 3) / 4) (hl : dl E ≤ l) : j / 16 < l := by
  have := (nb_dl h l).2 hl
  omega
theorem digitAt_d {A : Option Addr} {n c : Nat} {N : Int} {w : World} (h : Nm w A n c N) (i d : Nat) (hi : i / 16 < n) (hi2 : i ≤ 100000) (hd : N / 16 ^ i % 16 = (d : Int)) :
    Calls Tryd.prog 58 #[.slice A n c, .int .i64 i] w fun e w' => e = .returned (.int .u64 d) ∧ w = w' := by rw [← hd]; exact digitAt_any h i hi hi2
set_option maxHeartbeats 4000000 in
set_option maxRecDepth 100000 in
theorem exp_any (md : Md w b m n A c low B cB S cS) {XA YA : Option Addr} {l cx l' cy : Nat} {X E : Int} (hX : Nm w XA l cx X) (hE : Nm w YA l' cy E) (hl : dl X ≤ 64) (hl' : dl E ≤ 64) :
    Calls Tryd.prog 34 #[.pointer (some ⟨b, 0, none⟩), .slice XA l cx, .slice YA l' cy] w (Ans (X ^ E.toNat % m) w) := by
  have rx := md.rest X
  have g1 : decide ((4096 : Int) < (nb E : Int)) = false := by
    have := nb_dl hE.pos 64
    simp; omega
  have hlen := md.len
  have hdl : dl (X % m) ≤ n := by have := dl_mono rx.1 (show X % m ≤ m by omega); omega
  clear hlen
  go_enter Tryd.func34, Tryd.ntmps34
  go_wp2_with fail
  refine (bits_any hE).mono ?_
  rintro e w1 ⟨rfl, rfl⟩
  go_wp2_with fail
  refine (reduce_any md hX hl).mono ?_
  rintro e w1 ⟨B1, n1, c1, rfl, k1, b1, -⟩
  have hn1 : n1 ≤ n := by rw [k1.len_]; exact hdl
  have hlt1 : 0 < n := by have := md.n1; omega
  have HK := Lib.hid k1
  have HB := Lib.hid b1
  clear k1 b1
  go_upto_region 6 with fail
  go_cut [10] (fun p wx => ExC m n (X % m) w p wx)
  case first =>
    have HMD : Md w1.drew b m n A c low B cB S cS := md.below HB.out.drew
    have HM := Lib.hid HMD
    have HKD := Lib.hid (HK.out.below (below_dr w1))
    clear HMD
    go_region_with (first
      | (go_at_call 55; refine (form_any HM.out HKD.out.nm hn1 rx.2.1).mono ?_; rintro e w2 ⟨B2, c2, T2, rfl, hN2, hF2, hb2⟩; have HM2 := Lib.hid (HM.out.below hb2); have HF2 := Lib.hid hF2; clear hF2)
      | (go_at_call 55; refine (form_any (HM.out.below (below_al _ _)) (HKD.out.alloc _).nm hn1 rx.2.1).mono ?_; rintro e w2 ⟨B2, c2, T2, rfl, hN2, hF2, hb2⟩; have HM2 := Lib.hid ((HM.out.below (below_al _ _)).below hb2); have HF2 := Lib.hid hF2; have hgC := (hb2.block w1.drew.heap.size (by simp)).trans (heap_alloc_new w1.drew _); have HGC := Lib.hid hgC; clear hF2 hgC)
      | (go_at_call 54; refine (powersOf_any HM2.out hN2 HF2.out).mono ?_; rintro e w3 ⟨arr, rfl, hsz, hall, hp, hb3⟩; have HSZ := Lib.hid hsz; have HALL := Lib.hid hall; have HP := Lib.hid hp; have HM3 := Lib.hid (HM2.out.below hb3); first | (have hgC3 := (hb3.block w1.heap.size (by have := (Array.getElem?_eq_some_iff.1 HGC.out).1; exact this)).trans HGC.out; have hst := store16' w3 hgC3 rfl hsz hall; have HG3 := Lib.hid hgC3; clear hgC3) | have hst := store16 w3 hsz hall; clear hsz hall hp)
      | (go_at_call 54; refine (powersOf_any (HM2.out.below (below_al _ _)) (hN2.alloc _) HF2.out).mono ?_; rintro e w3 ⟨arr, rfl, hsz, hall, hp, hb3⟩; have HSZ := Lib.hid hsz; have HALL := Lib.hid hall; have HP := Lib.hid hp; have HM3 := Lib.hid ((HM2.out.below (below_al _ _)).below hb3); have hgB3 := (hb3.block w2.heap.size (by simp)).trans (heap_alloc_new w2 _); have hst := store16' w3 hgB3 rfl hsz hall; have HG3 := Lib.hid hgB3; clear hsz hall hp hgB3))
    · have s1 := HB.out.size
      have s2 := hb2.size
      have b3 := HB.out.drew.trans (hb2.mono HB.out.drew.size)
      have b4 := b3.trans (hb3.mono b3.size)
      go_wp2_with fail
      go_meet
      exact ⟨_, _, arr, _, B, rfl, rfl, ⟨heap_alloc_new w3 _, HSZ.out, HP.out.below (below_al w3 _)⟩, b4.trans ((below_al w3 _).mono b4.size)⟩
    · have s1 := HB.out.size
      have s2 : w1.heap.size ≤ w2.heap.size := hb2.size
      have b3 := HB.out.drew.trans (hb2.mono HB.out.drew.size)
      have b3' := b3.trans ((below_al w2 (.cells nils16 97)).mono b3.size)
      have b4 := b3'.trans (hb3.mono b3'.size)
      have hs : ∀ o, (w2.alloc o).heap.size = w2.heap.size + 1 := fun o => by simp
      go_wp2_with fail
      go_meet
      exact ⟨_, _, arr, _, B, rfl, rfl, ⟨setRow_heap w3 _ _ arr _ _ HG3.out, HSZ.out, HP.out.setRow (fun x hx => by have := Nm.lt md.one hlt1 x hx; omega) (by rw [hs]; omega) _⟩, below_setRow b4 (by omega) _⟩
    · have s1 := HB.out.size
      have b2' : Below w.heap.size w w1.drew := HB.out.drew
      have b3 := b2'.trans ((below_al w1.drew (.cells nils16 97)).mono b2'.size)
      have b3' := b3.trans (hb2.mono b3.size)
      have b4 := b3'.trans (hb3.mono b3'.size)
      have s2 : w1.heap.size ≤ w2.heap.size := by have := hb2.size; have h1 := (below_al w1.drew (.cells nils16 97)).size; exact Nat.le_trans h1 this
      go_wp2_with fail
      go_meet
      exact ⟨_, _, arr, _, B, rfl, rfl, ⟨setRow_heap w3 _ _ arr _ _ HG3.out, HSZ.out, HP.out.setRow (fun x hx => by have := Nm.lt md.one hlt1 x hx; omega) (by omega) _⟩, below_setRow b4 (by omega) _⟩
  case rest =>
    obtain ⟨wx, gp, arr, gg, Bo, rfl, rfl, hup, bx⟩ := hcut
    have HUP := Lib.hid hup
    have mdx := md.below bx
    have q2 := mdx.c2
    have hXE := hE.below bx
    clear hup
    go_wp2_with fail
    refine (digitCount_any hXE hl').mono ?_
    rintro e wx' ⟨rfl, rfl⟩
    clear q2
    have hcnt : (nb E + 3) / 4 ≤ 2000 := by have := (nb_dl hE.pos 64).2 hl'; omega
    go_wp2_with fail
    go_loopw [11, 12] (fun z i wr => ExR m n (X % m) E wx z i wr) (fun _ i _ => (intOf i + 1).toNat)
    case atStart =>
      refine ⟨(nb E + 3) / 4, _, _, _, _, rfl, by omega, Nat.le_refl _, rfl, mdx.one, ?_, Below.refl _ _⟩
      rw [exp_top hE.pos, Int.pow_zero]
      exact one_form (by have := md.m3; omega)
    case round =>
      obtain ⟨k, v, Z, cz, T, rfl, hv, hk, rfl, hN, hF, hb⟩ := hrel
      have HF := Lib.hid hF
      clear hF
      have b2 := bx.trans (hb.mono bx.size)
      have mdr := md.below b2
      have hEr := hE.below b2
      rcases Nat.eq_zero_or_pos k with hk0 | hk0
      · subst hk0
        obtain rfl : v = -1 := by omega
        clear hv
        have hF0 := HF.out
        rw [Int.pow_zero, Int.ediv_one] at hF0
        go_wp2_with fail
        refine (residue_any mdr hN hF0).mono ?_
        rintro e w4 ⟨B4, n4, c4, rfl, k4, b4, hn4⟩
        rw [((Eqm.mod m X).pow E.toNat).emod] at k4
        go_wp2
        go_ret2
        exact ⟨_, _, _, rfl, k4, b2.trans (b4.mono b2.size), fun a ha => Nat.le_trans b2.size (hn4 a ha)⟩
      · obtain ⟨j, rfl⟩ : ∃ j, k = j + 1 := ⟨k - 1, by omega⟩
        obtain rfl : v = j := by omega
        clear hv
        have hE0 := hE.pos
        obtain ⟨d, hd, hd16⟩ : ∃ d : Nat, E / 16 ^ j % 16 = (d : Int) ∧ d < 16 := ⟨(E / 16 ^ j % 16).toNat, by omega, by omega⟩
        have HD := Lib.hid hd
        clear hd
        have hin := digit_in hE0 hk hE.dl_le
        go_wp2_with fail
        go_loopw [11, 47] (fun z i wr2 => ExI m n ((X % m) ^ (E / 16 ^ (j + 1)).toNat) wr z i wr2) (fun _ i _ => 4 - (intOf i).toNat)
        case atStart => exact ⟨0, _, _, _, by omega, rfl, rfl, hN, by rw [Nat.pow_zero, Int.pow_one]; exact HF.out, Below.refl _ _⟩
        case round =>
          obtain ⟨i, Z2, cz2, T2, hi4, rfl, rfl, hN2, hF2, hb2⟩ := hrel
          have HF2 := Lib.hid hF2
          clear hF2
          have b3 := b2.trans (hb2.mono b2.size)
          have md3 := md.below b3
          rcases Nat.lt_or_ge i 4 with hlt | hge
          · go_wp2_with fail
            refine (times_any md3 hN2 hN2 HF2.out.lt).mono ?_
            rintro e w5 ⟨B5, c5, T5, rfl, hN5, hT5, b5, -⟩
            have HT5 := Lib.hid (hT5.form md.odd HF2.out HF2.out)
            clear hT5
            go_wp2
            go_roundw
            case rel =>
              refine ⟨i + 1, _, _, _, by omega, by go_num, rfl, hN5, ?_, hb2.trans (b5.mono hb2.size)⟩
              have e : ((X % m) ^ (E / 16 ^ (j + 1)).toNat) ^ 2 ^ (i + 1) = ((X % m) ^ (E / 16 ^ (j + 1)).toNat) ^ 2 ^ i * ((X % m) ^ (E / 16 ^ (j + 1)).toNat) ^ 2 ^ i := by
                rw [← Int.pow_add, Nat.pow_succ]; congr 1; omega
              rw [e]
              exact HT5.out
            case measure => simp [intOf]; omega
          · obtain rfl : i = 4 := by omega
            have hE3 := hE.below b3
            have bt' := hb.trans (hb2.mono hb.size)
            have hgp : gp < wx.heap.size := (Array.getElem?_eq_some_iff.1 HUP.out.tab).1
            have htab := (bt'.block gp hgp).trans HUP.out.tab
            obtain ⟨Ad, cd, Td, ed, hNd, hFd, -⟩ := (HUP.out.pows.below bt') d hd16
            have hcell := (cell_of_row _ gp d arr _ _ htab).trans ed
            have HFD := Lib.hid hFd
            clear htab ed hFd
            have hd1 : (d : Int) < 16 := by omega
            go_wp2_with fail
            go_region_with (first
              | (go_at_call 58; refine (digitAt_d (hE3.below (below_dr _)) j d hin (by omega) HD.out).mono ?_; rintro e w6 ⟨rfl, rfl⟩)
              | (go_at_call 57; refine (times_any (md3.below (below_dr _)) (hN2.below (below_dr _)) (hNd.below (below_dr _)) HF2.out.lt).mono ?_; rintro e w6 ⟨B6, c6, T6, rfl, hN6, hT6, b6, -⟩; have HT6 := Lib.hid (hT6.form md.odd HF2.out HFD.out); clear hT6))
            all_goals
              go_wp2
              go_roundw
              case rel =>
                refine ⟨j, _, _, _, _, rfl, by omega, by omega, rfl, hN6, ?_, ?_⟩
                · rw [← exp_next hE0 HD.out]; exact HT6.out
                · have b7 := bt'.drew
                  exact b7.trans (b6.mono b7.size)
              case measure => simp [intOf]
end
end Go.Proofs.YtjalncdllegfoaaDoor
/-
  What euclid and Inverse answer.
-/
namespace Go.Proofs.YtjalncdllegfoaaDoor
open Go.RowKit
set_option linter.unusedVariables false
/-- The number that a slice reads as, to base b. -/
def readN (b : Int) (w : World) : Value → Int
  | .slice (some a) n _ => val b ((List.range n).map fun j => match w.cell? ⟨a.block, a.off + j, none⟩ with | some (.int _ x) => x | _ => 0)
  | _ => 0
theorem readN_rd {k : IntKind} {b : Int} {w : World} {A : Option Addr} {n c : Nat} {xs : List Int} (h : Rd k w A n xs) : readN b w (.slice A n c) = val b xs := by
  rcases Nat.eq_zero_or_pos n with g | g
  · subst g
    obtain rfl : xs = [] := List.eq_nil_of_length_eq_zero h.len
    cases A <;> simp [readN, val]
  · obtain ⟨bl, off, rfl, hb, hc⟩ := h.cells g
    have hl := h.len
    simp only [readN]
    congr 1
    apply List.ext_getElem?
    intro j
    rcases Nat.lt_or_ge j n with hj | hj
    · rw [List.getElem?_map, List.getElem?_range hj, Option.map_some, hc j _ (getElem?_dig (by omega)), getElem?_dig (by omega)]
    · rw [List.getElem?_eq_none (by simp; omega), List.getElem?_eq_none (by omega)]
theorem readN_nm {w : World} {A : Option Addr} {n c : Nat} {N : Int} (h : Nm w A n c N) : readN W w (.slice A n c) = N := by
  obtain ⟨⟨xs, h1, h2, h3⟩, -⟩ := h
  rw [readN_rd h1, h3]
theorem Cn.empty {w : World} {g c : Nat} : Cn w (some ⟨g, 0, none⟩) 0 c 0 := ⟨by rw [dg_zero]; exact Rd.nil _ _ _, Nat.zero_le _, by omega, Int.le_refl _⟩
theorem lit_cn (w : World) (x : Int) (h0 : 1 ≤ x) (h1 : x < W) : Cn (w.alloc (.cells #[.int .u64 x] 45)) (some ⟨w.heap.size, 0, none⟩) 1 1 x :=
  ⟨by rw [dg_one h0 h1]; exact (show Row _ _ _ _ [x] from Row.new w 45 .u64 [x]).rd rfl (fun j y hy => by simpa using hy), Nat.le_refl _, by omega, by omega⟩
def EuR (m x : Int) (w : World) (h l f g t : Value) (wr : World) : Prop :=
  ∃ H L F G neg A1 n1 c1 A2 n2 c2 A3 n3 c3 A4 n4 c4, h = .slice A1 n1 c1 ∧ l = .slice A2 n2 c2 ∧ f = .slice A3 n3 c3 ∧ g = .slice A4 n4 c4 ∧ t = .bool neg ∧ Cn wr A1 n1 c1 H ∧ Cn wr A2 n2 c2 L ∧ Cn wr A3 n3 c3 F ∧ Cn wr A4 n4 c4 G ∧
    (∀ a, A3 = some a → w.heap.size ≤ a.block) ∧ (∀ a, A4 = some a → w.heap.size ≤ a.block) ∧ Eu m x H L F G neg ∧ Below w.heap.size w wr
def EuP (m x : Int) (w : World) (e : Ending) (w' : World) : Prop :=
  ∃ H F G neg A1 n1 c1 A3 n3 c3, e = .returned (.tuple #[.slice A1 n1 c1, .slice A3 n3 c3, .bool neg]) ∧ Cn w' A1 n1 c1 H ∧ Cn w' A3 n3 c3 F ∧ (∀ a, A3 = some a → w.heap.size ≤ a.block) ∧ Eu m x H 0 F G neg ∧ Below w.heap.size w w'
theorem nb_pos {L : Int} (h : 0 ≤ L) : 0 < nb L ↔ 0 < L := by
  have := nb_iff h 0
  simp at this
  omega
set_option maxHeartbeats 4000000 in
set_option maxRecDepth 100000 in
theorem euclid_any {w : World} {m x : Int} {A1 A2 : Option Addr} {n1 c1 n2 c2 : Nat} (hm : Cn w A1 n1 c1 m) (hx : Cn w A2 n2 c2 x) (hxm : x < m) (l32 : dl m ≤ 32) :
    Calls Tryd.prog 89 #[.slice A1 n1 c1, .slice A2 n2 c2] w (EuP m x w) := by
  have x0 := hx.pos
  have hb0 : Below w.heap.size w ((w.alloc (.cells #[] 45)).alloc (.cells #[.int .u64 1] 45)) := ((Below.refl _ _).alloc (Nat.le_refl _) _).alloc (by simp) _
  have h1 := lit_cn (w.alloc (.cells #[] 45)) 1 (by decide) (by decide)
  have sz : (w.alloc (.cells #[] 45)).heap.size = w.heap.size + 1 := by simp
  rw [sz] at h1
  have HB := Lib.hid hb0
  have H1 := Lib.hid h1
  clear hb0 h1 sz
  go_enter Tryd.func89, Tryd.ntmps89
  go_wp2_with fail
  go_loopw [7, 8, 9, 10, 11] (fun h l f g t wr => EuR m x w h l f g t wr) (fun _ l _ _ _ wr => (readN W wr l).toNat)
  case atStart =>
    exact ⟨m, x, 0, 1, true, _, _, _, _, _, _, _, _, _, _, _, _, rfl, rfl, rfl, rfl, rfl, hm.below HB.out, hx.below HB.out, Cn.empty, H1.out, fun a ha => by injection ha with ha; subst ha; exact Nat.le_refl _, fun a ha => by injection ha with ha; subst ha; exact Nat.le_succ _, Eu.start x0 hxm, HB.out⟩
  case round =>
    obtain ⟨H, L, F, G, neg, A1, n1, c1, A2, n2, c2, A3, n3, c3, A4, n4, c4, rfl, rfl, rfl, rfl, rfl, kH, kL, kF, kG, nF, nG, eu, hb⟩ := hrel
    have HNF := Lib.hid nF
    have HNG := Lib.hid nG
    have HEU := Lib.hid eu
    clear nF nG
    rcases Int.lt_or_le 0 L with hL | hL
    · have g : decide (0 < (nb L : Int)) = true := by have := (nb_pos kL.pos).2 hL; simp; omega
      have g' : 0 < nb L := (nb_pos kL.pos).2 hL
      have hle := eu.g_le
      have hnx := eu.next_le hL
      have hst := eu.step hL
      have hfg := hst.g_le
      have HST := Lib.hid hst
      have hq : 0 ≤ H / L ∧ H / L ≤ m := by
        have h1 := Int.ediv_nonneg kH.pos (Int.le_of_lt hL)
        have h2 := Int.ediv_le_self L kH.pos
        omega
      have dH : dl H ≤ 64 := by have := dl_mono kH.pos hle.2.2; omega
      have dL : dl L ≤ 64 := by have := dl_mono kL.pos (show L ≤ m by have := eu.lh; omega); omega
      have dQ : dl (H / L) ≤ 64 := by have := dl_mono hq.1 hq.2; omega
      have dG : dl G ≤ 64 := by have := dl_mono kG.pos hle.1; omega
      have dQG : dl (H / L * G) ≤ 64 := by have := dl_mono hnx.2 hnx.1; omega
      have dF : dl F ≤ 64 := by have := dl_mono kF.pos hle.2.1; omega
      clear hst eu hle hnx hfg hq
      have hs := hb.size
      go_wp2_with fail
      refine (bits_any kL.nm).mono ?_
      rintro e w1 ⟨rfl, rfl⟩
      go_wp2_with fail
      refine (div_any kH.nm kL.nm dH dL hL).mono ?_
      rintro e w1 ⟨B1, m1, p1, B2, m2, p2, rfl, q1, q2, b1, -, -⟩
      have b1' := hb.trans (b1.mono hb.size)
      have kL1 := kL.below b1
      have kF1 := kF.below b1
      have kG1 := kG.below b1
      have HL0 := Lib.hid (readN_nm kL.nm)
      clear b1 kH kL kF kG
      go_wp2_with fail
      refine (mul_any q1.nm kG1.nm dQ dG).mono ?_
      rintro e w2 ⟨B3, m3, p3, rfl, q3, b2, -⟩
      have b2' := b1'.trans (b2.mono b1'.size)
      have kL2 := kL1.below b2
      have kF2 := kF1.below b2
      have kG2 := kG1.below b2
      have q22 := q2.below b2
      clear b2 b1' kL1 kF1 kG1 q1 q2
      go_wp2_with fail
      refine (add_any kF2.nm q3.nm dF dQG).mono ?_
      rintro e w3 ⟨B4, m4, p4, rfl, q4, b3, hn4⟩
      have HN4 : ∀ a, B4 = some a → w.heap.size ≤ a.block := fun a ha => Nat.le_trans b2'.size (hn4 a ha)
      have HN4' := Lib.hid HN4
      have b3' := b2'.trans (b3.mono b2'.size)
      have kL3 := kL2.below b3
      have kG3 := kG2.below b3
      have q23 := q22.below b3
      have HR0 := Lib.hid (readN_nm q23.nm)
      clear b3 b2' kL2 kF2 kG2 q3 q22 hn4 HN4
      go_wp2
      go_roundw
      case rel =>
        exact ⟨L, H % L, G, F + H / L * G, !neg, _, _, _, _, _, _, _, _, _, _, _, _, rfl, rfl, rfl, rfl, rfl, kL3, q23, kG3, q4, HNG.out, HN4'.out, HST.out, b3'⟩
      case measure =>
        rw [HL0.out, HR0.out]
        have := HST.out.lh
        have := HST.out.l0
        omega
    · have hL0 : L = 0 := by have := kL.pos; omega
      have g' : ¬ 0 < nb L := fun h => by have := (nb_pos kL.pos).1 h; omega
      have HL0 := Lib.hid hL0
      clear eu hL0
      go_wp2_with fail
      refine (bits_any kL.nm).mono ?_
      rintro e w1 ⟨rfl, rfl⟩
      go_wp2
      refine bodyPost_ret (v := .tuple #[.slice A1 n1 c1, .slice A3 n3 c3, .bool neg]) (by simp [results, Tryd.results89, go_sem]) rfl ?_
      have heu := HEU.out
      rw [HL0.out] at heu
      exact ⟨H, F, G, neg, _, _, _, _, _, _, rfl, kH, kF, HNF.out, heu, hb⟩
/-- What makes 1 of X was answered. -/
def InvA (m X : Int) (w : World) (e : Ending) (w' : World) : Prop := ∃ U, 1 ≤ U ∧ U < m ∧ Eqm m (X * U) 1 ∧ Ans U w e w'
section
variable {w : World} {b : Nat} {m : Int} {n : Nat} {A : Option Addr} {c : Nat} {low : Int} {B : Option Addr} {cB : Nat} {S : Option Addr} {cS : Nat}
theorem inverse_long (md : Md w b m n A c low B cB S cS) {XA : Option Addr} {l cx : Nat} {X : Int} (hX : Nm w XA l cx X) (hl : 64 < dl X) :
    Calls Tryd.prog 72 #[.pointer (some ⟨b, 0, none⟩), .slice XA l cx] w (Err1 2 w) := by
  go_enter Tryd.func72, Tryd.ntmps72
  go_wp2_with fail
  refine (reduce_long md hX hl).mono ?_
  rintro e w1 ⟨rfl, b1⟩
  go_wp2
  go_ret2
  exact ⟨rfl, b1⟩
set_option maxHeartbeats 1000000 in
theorem inverse_none (md : Md w b m n A c low B cB S cS) {XA : Option Addr} {l cx : Nat} {X : Int} (hX : Nm w XA l cx X) (hl : dl X ≤ 64) (hg : Int.gcd m (X % m) ≠ 1) :
    Calls Tryd.prog 72 #[.pointer (some ⟨b, 0, none⟩), .slice XA l cx] w (Err1 6 w) := by
  have rx := md.rest X
  have HG := Lib.hid hg
  clear hg
  go_enter Tryd.func72, Tryd.ntmps72
  go_wp2_with fail
  refine (reduce_any md hX hl).mono ?_
  rintro e w1 ⟨B1, n1, c1, rfl, k1, b1, -⟩
  have md1 := md.below b1
  have q0 := md1.c0
  go_wp2_with fail
  refine (euclid_any md1.lim k1 rx.2.1 (by have := md.len; have := md.l32; omega)).mono ?_
  rintro e w2 ⟨H, F, G, neg, A2, n2, c2, A3, n3, c3, rfl, k2, k3, -, eu, b2⟩
  have b12 := b1.trans (b2.mono b1.size)
  have hH := eu.gcd_end
  have hlt := eu.lh
  have hne : cmpI H 1 = 1 := cmpI_gt (by have := HG.out; omega)
  have hl1 := lit_one w2 1 (by decide) (by decide)
  have HL1 := Lib.hid hl1
  have k2' := k2.alloc (.cells #[.int .u64 1] 45)
  have ba : Below w2.heap.size w2 (w2.alloc (.cells #[.int .u64 1] 45)) := (Below.refl _ _).alloc (Nat.le_refl _) _
  have b13 := b12.trans (ba.mono b12.size)
  have B13 := Lib.hid b13
  clear hH eu b1 b2 b12 ba b13 hl1 q0 md1 k1 k3
  have hne2 : ((cmpI H 1 : Int) != 0) = true := by rw [hne]; rfl
  clear hne
  go_wp2_with fail
  refine (cmp_any k2'.nm HL1.out).mono ?_
  rintro e w3 ⟨rfl, q, rfl⟩
  go_wp2
  go_ret2
  exact ⟨rfl, below_drewN B13.out q⟩
set_option maxHeartbeats 1000000 in
theorem inverse_any (md : Md w b m n A c low B cB S cS) {XA : Option Addr} {l cx : Nat} {X : Int} (hX : Nm w XA l cx X) (hl : dl X ≤ 64) (hg : Int.gcd m (X % m) = 1) :
    Calls Tryd.prog 72 #[.pointer (some ⟨b, 0, none⟩), .slice XA l cx] w (InvA m X w) := by
  have rx := md.rest X
  have m3 := md.m3
  have HG := Lib.hid hg
  clear hg
  go_enter Tryd.func72, Tryd.ntmps72
  go_wp2_with fail
  refine (reduce_any md hX hl).mono ?_
  rintro e w1 ⟨B1, n1, c1, rfl, k1, b1, -⟩
  have md1 := md.below b1
  have q0 := md1.c0
  go_wp2_with fail
  refine (euclid_any md1.lim k1 rx.2.1 (by have := md.len; have := md.l32; omega)).mono ?_
  rintro e w2 ⟨H, F, G, neg, A2, n2, c2, A3, n3, c3, rfl, k2, k3, hnew, eu, b2⟩
  have HNEW : ∀ a, A3 = some a → w.heap.size ≤ a.block := fun a ha => Nat.le_trans b1.size (hnew a ha)
  have HNEW' := Lib.hid HNEW
  have b12 := b1.trans (b2.mono b1.size)
  obtain rfl : H = 1 := by rw [eu.gcd_end, HG.out]; rfl
  have HI := Lib.hid (eu.inv (by omega))
  have f1 := HI.out.1
  have f2 := HI.out.2.1
  have hl1 := lit_one w2 1 (by decide) (by decide)
  have HL1 := Lib.hid hl1
  have k2' := k2.alloc (.cells #[.int .u64 1] 45)
  have k3' := k3.alloc (.cells #[.int .u64 1] 45)
  have ba : Below w2.heap.size w2 (w2.alloc (.cells #[.int .u64 1] 45)) := (Below.refl _ _).alloc (Nat.le_refl _) _
  have b13 := b12.trans (ba.mono b12.size)
  have B13 := Lib.hid b13
  have hne2 : ((cmpI 1 1 : Int) != 0) = false := by rw [cmpI_eq]; rfl
  have dF : dl F ≤ 64 := by have := dl_mono k3.pos (show F ≤ m by omega); have := md.dlm; omega
  clear eu b1 b2 b12 ba b13 hl1 q0 md1 k1 k2 k3 hnew HNEW
  go_wp2_with fail
  refine (cmp_any k2'.nm HL1.out).mono ?_
  rintro e w3 ⟨rfl, q, rfl⟩
  have b14 := below_drewN B13.out q
  have k3'' := k3'.drewN q
  have md4 := md.below b14
  have q0 := md4.c0
  cases neg with
  | false =>
    go_wp2
    go_ret2
    have he := HI.out.2.2
    simp only [Bool.false_eq_true, if_false] at he
    refine ⟨F, f1, f2, ?_, ⟨_, _, _, rfl, k3'', b14, HNEW'.out⟩⟩
    exact ((Eqm.mod m X).symm.mul (Eqm.refl m F)).trans he
  | true =>
    go_wp2_with fail
    refine (sub_any md4.lim.nm k3''.nm md.dlm dF (by omega)).mono ?_
    rintro e w4 ⟨B4, n4, c4, rfl, k4, b4, hn⟩
    go_wp2
    go_ret2
    have he := HI.out.2.2
    simp only [if_true] at he
    refine ⟨m - F, by omega, by omega, ?_, ⟨_, _, _, rfl, k4, b14.trans (b4.mono b14.size), fun a ha => Nat.le_trans b14.size (hn a ha)⟩⟩
    exact ((Eqm.mod m X).symm.mul (Eqm.refl m _)).trans he
end
end Go.Proofs.YtjalncdllegfoaaDoor
