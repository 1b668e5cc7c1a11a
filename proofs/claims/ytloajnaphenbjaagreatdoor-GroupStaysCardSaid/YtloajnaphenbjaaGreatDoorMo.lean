/-
  Residues, and what Montgomery's multiplication and Euclid's way rest on; no call is spoken of here.
-/
import Derived.Test.YtloajnaphenbjaaGreatDoorBt
namespace Go.Proofs.YtloajnaphenbjaaGreatDoor
set_option linter.unusedVariables false
/-- a and b leave the same residue. -/
def Eqm (m a b : Int) : Prop := ∃ q : Int, a = b + q * m
section
variable {m a b c d : Int}
theorem Eqm.refl (m a : Int) : Eqm m a a := ⟨0, by simp⟩
theorem Eqm.of_eq (h : a = b) : Eqm m a b := h ▸ Eqm.refl m a
theorem Eqm.symm (h : Eqm m a b) : Eqm m b a := by obtain ⟨q, h⟩ := h; exact ⟨-q, by grind⟩
theorem Eqm.trans (h : Eqm m a b) (k : Eqm m b c) : Eqm m a c := by obtain ⟨q, h⟩ := h; obtain ⟨r, k⟩ := k; exact ⟨q + r, by grind⟩
theorem Eqm.add (h : Eqm m a b) (k : Eqm m c d) : Eqm m (a + c) (b + d) := by obtain ⟨q, h⟩ := h; obtain ⟨r, k⟩ := k; exact ⟨q + r, by grind⟩
theorem Eqm.sub (h : Eqm m a b) (k : Eqm m c d) : Eqm m (a - c) (b - d) := by obtain ⟨q, h⟩ := h; obtain ⟨r, k⟩ := k; exact ⟨q - r, by grind⟩
theorem Eqm.neg (h : Eqm m a b) : Eqm m (-a) (-b) := by obtain ⟨q, h⟩ := h; exact ⟨-q, by grind⟩
theorem Eqm.mul (h : Eqm m a b) (k : Eqm m c d) : Eqm m (a * c) (b * d) := by obtain ⟨q, h⟩ := h; obtain ⟨r, k⟩ := k; exact ⟨b * r + q * d + q * r * m, by grind⟩
theorem Eqm.pow (h : Eqm m a b) (e : Nat) : Eqm m (a ^ e) (b ^ e) := by
  induction e with
  | zero => simp; exact Eqm.refl _ _
  | succ e ih => rw [Int.pow_succ, Int.pow_succ]; exact ih.mul h
theorem Eqm.mod (m a : Int) : Eqm m (a % m) a := ⟨-(a / m), by have := Int.emod_add_mul_ediv a m; grind⟩
theorem Eqm.emod (h : Eqm m a b) : a % m = b % m := by obtain ⟨q, h⟩ := h; rw [h]; exact Int.add_mul_emod_self_right _ _ _
theorem Eqm.iff : Eqm m a b ↔ a % m = b % m := ⟨Eqm.emod, fun h => (Eqm.mod m a).symm.trans (h ▸ Eqm.mod m b)⟩
theorem Eqm.self (m a k : Int) : Eqm m (a + k * m) a := ⟨k, rfl⟩
theorem Eqm.eq (h : Eqm m a b) (a0 : 0 ≤ a) (a1 : a < m) (b0 : 0 ≤ b) (b1 : b < m) : a = b := by
  have := h.emod
  rwa [Int.emod_eq_of_lt a0 a1, Int.emod_eq_of_lt b0 b1] at this
theorem Eqm.rest (h : Eqm m a b) (a0 : 0 ≤ a) (a1 : a < m) : a = b % m := by
  rw [← h.emod, Int.emod_eq_of_lt a0 a1]
/-- 2 goes into an odd modulus' multiples alone where it went before. -/
theorem odd_half (hm : m % 2 = 1) (h : Eqm m (2 * a) 0) : Eqm m a 0 := by
  obtain ⟨q, h⟩ := h
  have h1 : (q * m) % 2 = 0 := by omega
  rw [Int.mul_emod, hm] at h1
  have h2 : q % 2 = 0 := by omega
  refine ⟨q / 2, ?_⟩
  have h3 : q = 2 * (q / 2) := by omega
  rw [h3] at h
  have h4 : 2 * a = 2 * (q / 2 * m) := by grind
  omega
theorem odd_cancel (hm : m % 2 = 1) (k : Nat) (h : Eqm m (2 ^ k * a) 0) : Eqm m a 0 := by
  induction k with
  | zero => simpa using h
  | succ k ih =>
    apply ih
    apply odd_half hm
    rw [Int.pow_succ] at h
    have e : 2 ^ k * 2 * a = 2 * (2 ^ k * a) := by grind
    rwa [e] at h
/-- Powers of 2 to the 64 are struck on both sides. -/
theorem W_cancel (hm : m % 2 = 1) (n : Nat) (h : Eqm m (a * W ^ n) (b * W ^ n)) : Eqm m a b := by
  have h1 : Eqm m (2 ^ (64 * n) * (a - b)) 0 := by
    rw [← W_pow]
    obtain ⟨q, h⟩ := h
    exact ⟨q, by grind⟩
  obtain ⟨q, h2⟩ := odd_cancel hm (64 * n) h1
  exact ⟨q, by omega⟩
end
/-! ### Forms -/
/-- z is the form of v. -/
structure Form (m : Int) (n : Nat) (v z : Int) : Prop where
  pos : 0 ≤ z
  lt : z < m
  eqm : Eqm m z (v * W ^ n)
/-- What times answers of X and Y. -/
structure Tim (m : Int) (n : Nat) (X Y T : Int) : Prop where
  pos : 0 ≤ T
  lt : T < m
  eqm : Eqm m (T * W ^ n) (X * Y)
section
variable {m : Int} {n : Nat}
theorem Tim.form {u v X Y T : Int} (hm : m % 2 = 1) (h : Tim m n X Y T) (hX : Form m n u X) (hY : Form m n v Y) : Form m n (u * v) T := by
  refine ⟨h.pos, h.lt, W_cancel hm n ?_⟩
  refine h.eqm.trans ((hX.eqm.mul hY.eqm).trans (Eqm.of_eq ?_))
  grind
/-- A residue, times the form of 2 to the 64 n. -/
theorem Tim.formed {u X S T : Int} (hm : m % 2 = 1) (h : Tim m n X S T) (hX : Eqm m X u) (hS : Eqm m S (W ^ n * W ^ n)) : Form m n u T := by
  refine ⟨h.pos, h.lt, W_cancel hm n ?_⟩
  refine h.eqm.trans ((hX.mul hS).trans (Eqm.of_eq ?_))
  grind
/-- A form, times 1. -/
theorem Tim.residue {v X T : Int} (hm : m % 2 = 1) (h : Tim m n X 1 T) (hX : Form m n v X) : T = v % m := by
  refine Eqm.rest ?_ h.pos h.lt
  apply W_cancel hm n
  refine h.eqm.trans ?_
  rw [Int.mul_one]
  exact hX.eqm
theorem Form.congr {u v z : Int} (h : Form m n u z) (e : Eqm m u v) : Form m n v z := ⟨h.pos, h.lt, h.eqm.trans (e.mul (Eqm.refl _ _))⟩
end
/-! ### One limb's inverse -/
/-- How far the inverse goes behind k rounds. -/
def far : Nat → Int
  | 0 => 8
  | 1 => 64
  | 2 => 4096
  | 3 => 16777216
  | 4 => 281474976710656
  | _ => 18446744073709551616
def farF : Nat → Int
  | 0 => 1
  | 1 => 1
  | 2 => 1
  | 3 => 1
  | _ => 4294967296
def farG : Nat → Int
  | 0 => 288230376151711744
  | 1 => 4503599627370496
  | 2 => 1099511627776
  | 3 => 65536
  | _ => 1
theorem far_ok {k : Nat} (h : k < 5) : far k * far k = far (k + 1) * farF k ∧ 18446744073709551616 = far (k + 1) * farG k := by
  match k, h with
  | 0, _ => decide
  | 1, _ => decide
  | 2, _ => decide
  | 3, _ => decide
  | 4, _ => decide
theorem far_step {a z z' t : Int} {k : Nat} (hk : k < 5) (h : Eqm (far k) (a * z) 1) (e : z' = z * (2 - a * z) + t * 18446744073709551616) : Eqm (far (k + 1)) (a * z') 1 := by
  obtain ⟨h1, h2⟩ := far_ok hk
  obtain ⟨q, h⟩ := h
  generalize far k = E at *
  generalize far (k + 1) = E' at *
  generalize farF k = F at *
  generalize farG k = G at *
  generalize (18446744073709551616 : Int) = B at *
  refine ⟨a * t * G - q * q * F, ?_⟩
  have e1 : a * z' = (a * z) * (2 - a * z) + a * t * B := by grind
  rw [e1, h, h2]
  have e2 : (1 + q * E) * (2 - (1 + q * E)) = 1 - q * q * (E * E) := by grind
  rw [e2, h1]
  grind
theorem far_start {a : Int} (h : a % 2 = 1) : Eqm (far 0) (a * a) 1 := by
  show Eqm 8 (a * a) 1
  rw [Eqm.iff, Int.mul_emod]
  have : a % 8 = 1 ∨ a % 8 = 3 ∨ a % 8 = 5 ∨ a % 8 = 7 := by omega
  rcases this with g | g | g | g <;> rw [g] <;> decide
/-- The product that clears the lowest limb. -/
theorem low_clear {m0 low limb u : Int} (h : Eqm W (m0 * low) (-1)) (hu : Eqm W u (limb * low)) : (m0 * u + limb + 0) % 18446744073709551616 = 0 := by
  show _ % W = 0
  have h1 : Eqm W (m0 * u + limb + 0) 0 := by
    obtain ⟨q, h⟩ := h
    obtain ⟨r, hu⟩ := hu
    refine ⟨q * limb + m0 * r, ?_⟩
    rw [hu]
    have : m0 * (limb * low + r * W) + limb + 0 = limb * (m0 * low) + limb + m0 * r * W := by grind
    rw [this, h]
    grind
  have := h1.emod
  simpa using this
/-! ### Euclid -/
theorem gcd_step {H L : Int} (h : 0 ≤ H) (l : 0 ≤ L) : Int.gcd L (H % L) = Int.gcd H L := by
  obtain ⟨a, rfl⟩ := Int.eq_ofNat_of_zero_le h
  obtain ⟨b, rfl⟩ := Int.eq_ofNat_of_zero_le l
  rw [← Int.natCast_emod, Int.gcd_natCast_natCast, Int.gcd_natCast_natCast, Nat.gcd_comm b, Nat.gcd_comm a, Nat.gcd_rec b a]
structure Eu (m x H L F G : Int) (neg : Bool) : Prop where
  l0 : 0 ≤ L
  lh : L < H
  f0 : 0 ≤ F
  fg : F ≤ G
  g0 : 1 ≤ G
  det : F * L + G * H = m
  hi : Eqm m H (if neg then -(x * F) else x * F)
  lo : Eqm m L (if neg then x * G else -(x * G))
  gcd : Int.gcd H L = Int.gcd m x
theorem Eu.start {m x : Int} (h0 : 0 ≤ x) (h1 : x < m) : Eu m x m x 0 1 true :=
  ⟨h0, h1, Int.le_refl _, by omega, Int.le_refl _, by omega, ⟨1, by simp⟩, ⟨0, by simp⟩, rfl⟩
theorem Eu.step {m x H L F G : Int} {neg : Bool} (h : Eu m x H L F G neg) (hL : 0 < L) : Eu m x L (H % L) G (F + H / L * G) (!neg) := by
  obtain ⟨l0, lh, f0, fg, g0, det, hi, lo, gcd⟩ := h
  have hd := Int.emod_add_mul_ediv H L
  have q1 : 1 ≤ H / L := Int.le_ediv_of_mul_le hL (by omega)
  have hG : G ≤ H / L * G := by
    have := Int.mul_le_mul_of_nonneg_right q1 (show 0 ≤ G by omega)
    omega
  refine ⟨Int.emod_nonneg _ (by omega), Int.emod_lt_of_pos _ hL, by omega, by omega, by omega, ?_, ?_, ?_, ?_⟩
  · generalize H / L = q at *
    generalize H % L = r at *
    rw [← det, ← hd]
    grind
  · cases neg <;> simpa using lo
  · have e : H % L = H - H / L * L := by have := Int.mul_comm L (H / L); omega
    rw [e]
    generalize H / L = q at *
    have := hi.sub ((Eqm.refl m q).mul lo)
    refine this.trans (Eqm.of_eq ?_)
    cases neg <;> simp <;> grind
  · rw [← gcd]
    exact gcd_step (by omega) l0
theorem Eu.g_le {m x H L F G : Int} {neg : Bool} (h : Eu m x H L F G neg) : G ≤ m ∧ F ≤ m ∧ H ≤ m := by
  obtain ⟨l0, lh, f0, fg, g0, det, hi, lo, gcd⟩ := h
  have h1 := Int.mul_nonneg f0 l0
  have h2 := Int.mul_le_mul_of_nonneg_left (show 1 ≤ H by omega) (show 0 ≤ G by omega)
  have h3 := Int.mul_le_mul_of_nonneg_right g0 (show 0 ≤ H by omega)
  omega
theorem Eu.next_le {m x H L F G : Int} {neg : Bool} (h : Eu m x H L F G neg) (hL : 0 < L) : H / L * G ≤ m ∧ 0 ≤ H / L * G := by
  have h1 := (h.step hL).g_le
  have h2 := h.f0
  have q1 : 1 ≤ H / L := Int.le_ediv_of_mul_le hL (by have := h.lh; omega)
  have := Int.mul_nonneg (show 0 ≤ H / L by omega) (show 0 ≤ G by have := h.g0; omega)
  omega
theorem Eu.gcd_end {m x H F G : Int} {neg : Bool} (h : Eu m x H 0 F G neg) : H = (Int.gcd m x : Int) := by
  have := h.gcd
  have h1 := h.lh
  rw [Int.gcd_zero_right] at this
  omega
/-- Where the divisor is 1, the factor, or the modulus less it, is the inverse. -/
theorem Eu.inv {m x F G : Int} {neg : Bool} (hm : 2 ≤ m) (h : Eu m x 1 0 F G neg) : 1 ≤ F ∧ F < m ∧ Eqm m (x * (if neg then m - F else F)) 1 := by
  have e := h.det
  have f1 := h.fg
  have f0 := h.f0
  have hi := h.hi
  have key : ∀ k, F = k * m → False := by
    intro k hk
    obtain ⟨q, hq⟩ := hi
    have : 1 = (if neg then -(x * k) else x * k) * m + q * m := by
      rw [hk] at hq
      cases neg <;> simp at hq ⊢ <;> grind
    have h1 : 1 = ((if neg then -(x * k) else x * k) + q) * m := by rw [Int.add_mul]; exact this
    have h2 : (1 : Int) % m = 0 := by rw [h1]; exact Int.mul_emod_left _ _
    rw [Int.emod_eq_of_lt (by omega) (by omega)] at h2
    omega
  have a0 : F ≠ 0 := fun h0 => key 0 (by omega)
  have a1 : F ≠ m := fun h0 => key 1 (by omega)
  refine ⟨by omega, by omega, ?_⟩
  obtain ⟨q, hq⟩ := hi
  cases neg
  · simp at hq ⊢; exact ⟨-q, by grind⟩
  · simp at hq ⊢; exact ⟨x - q, by grind⟩
theorem inv_uniq {m a b u v : Int} (h : Eqm m a b) (hu : Eqm m (a * u) 1) (hv : Eqm m (b * v) 1) (u0 : 0 ≤ u) (u1 : u < m) (v0 : 0 ≤ v) (v1 : v < m) : u = v := by
  refine Eqm.eq ?_ u0 u1 v0 v1
  have h1 : Eqm m (u * (b * v)) (u * 1) := (Eqm.refl m u).mul hv
  have h2 : Eqm m ((a * u) * v) (1 * v) := hu.mul (Eqm.refl m v)
  have h3 : Eqm m ((a * u) * v) (u * (b * v)) := by
    refine ((h.mul (Eqm.refl m u)).mul (Eqm.refl m v)).trans (Eqm.of_eq ?_)
    grind
  rw [Int.mul_one] at h1
  rw [Int.one_mul] at h2
  exact h1.symm.trans (h3.symm.trans h2)
end Go.Proofs.YtloajnaphenbjaaGreatDoor
