/-
  Several texts in one: Mo, Tp, Drop, Ad, Tim, Fm, New, Mk, Pw, Red0, Exp, Inv.
-/
import Derived.Test.YtcnekfpgoceblaaPkg
import Derived.Test.YtcnekfpgoceblaaPkf
import Derived.Test.YtcnekfpgoceblaaPka
import Derived.Deep.RegionWith
import Derived.Deep.QuietTactic
import Derived.BigQuiet
import Derived.Laws.Rows
import Derived.Laws.Tables
import Derived.Deep.WholeRow
import Derived.Deep.DeepCutAuto
import Derived.Deep.CutBlock
/-
  Residues, and what Montgomery's multiplication and Euclid's way rest on; no call is spoken of here.
-/
namespace Go.Proofs.Ytcnekfpgoceblaa
set_option linter.unusedVariables false
/-- a and b leave the same residue. -/
def Eqm (m a b : Int) : Prop := ∃ q : Int, a = b + q * m
section
variable {m a b c d : Int}
theorem Eqm.refl (m a : Int) : Eqm m a a := ⟨0, by simp⟩
theorem Eqm.of_eq (h : a = b) : Eqm m a b := h ▸ Eqm.refl m a
theorem Eqm.symm (h : Eqm m a b) : Eqm m b a := by obtain ⟨q, h⟩ := h; exact ⟨-q, by grind⟩
theorem Eqm.trans (h : Eqm m a b) (k : Eqm m b c) : Eqm m a c := by obtain ⟨q, h⟩ := h; obtain ⟨r, k⟩ := k; exact ⟨q + r, by grind⟩
theorem Eqm.add (h : Eqm m a b) (k : Eqm m c d) : Eqm m (a + c) (b + d) := by obtain ⟨q, h⟩ := h; obtain ⟨r, k⟩ := k; exact ⟨q + r, by grind⟩
theorem Eqm.sub (h : Eqm m a b) (k : Eqm m c d) : Eqm m (a - c) (b - d) := by obtain ⟨q, h⟩ := h; obtain ⟨r, k⟩ := k; exact ⟨q - r, by grind⟩
theorem Eqm.neg (h : Eqm m a b) : Eqm m (-a) (-b) := by obtain ⟨q, h⟩ := h; exact ⟨-q, by grind⟩
theorem Eqm.mul (h : Eqm m a b) (k : Eqm m c d) : Eqm m (a * c) (b * d) := by obtain ⟨q, h⟩ := h; obtain ⟨r, k⟩ := k; exact ⟨b * r + q * d + q * r * m, by grind⟩
theorem Eqm.pow (h : Eqm m a b) (e : Nat) : Eqm m (a ^ e) (b ^ e) := by
  induction e with
  | zero => simp; exact Eqm.refl _ _
  | succ e ih => rw [Int.pow_succ, Int.pow_succ]; exact ih.mul h
theorem Eqm.mod (m a : Int) : Eqm m (a % m) a := ⟨-(a / m), by have := Int.emod_add_mul_ediv a m; grind⟩
theorem Eqm.emod (h : Eqm m a b) : a % m = b % m := by obtain ⟨q, h⟩ := h; rw [h]; exact Int.add_mul_emod_self_right _ _ _
theorem Eqm.iff : Eqm m a b ↔ a % m = b % m := ⟨Eqm.emod, fun h => (Eqm.mod m a).symm.trans (h ▸ Eqm.mod m b)⟩
theorem Eqm.self (m a k : Int) : Eqm m (a + k * m) a := ⟨k, rfl⟩
theorem Eqm.eq (h : Eqm m a b) (a0 : 0 ≤ a) (a1 : a < m) (b0 : 0 ≤ b) (b1 : b < m) : a = b := by
  have := h.emod
  rwa [Int.emod_eq_of_lt a0 a1, Int.emod_eq_of_lt b0 b1] at this
theorem Eqm.rest (h : Eqm m a b) (a0 : 0 ≤ a) (a1 : a < m) : a = b % m := by
  rw [← h.emod, Int.emod_eq_of_lt a0 a1]
/-- 2 goes into an odd modulus' multiples alone where it went before. -/
theorem odd_half (hm : m % 2 = 1) (h : Eqm m (2 * a) 0) : Eqm m a 0 := by
  obtain ⟨q, h⟩ := h
  have h1 : (q * m) % 2 = 0 := by omega
  rw [Int.mul_emod, hm] at h1
  have h2 : q % 2 = 0 := by omega
  refine ⟨q / 2, ?_⟩
  have h3 : q = 2 * (q / 2) := by omega
  rw [h3] at h
  have h4 : 2 * a = 2 * (q / 2 * m) := by grind
  omega
theorem odd_cancel (hm : m % 2 = 1) (k : Nat) (h : Eqm m (2 ^ k * a) 0) : Eqm m a 0 := by
  induction k with
  | zero => simpa using h
  | succ k ih =>
    apply ih
    apply odd_half hm
    rw [Int.pow_succ] at h
    have e : 2 ^ k * 2 * a = 2 * (2 ^ k * a) := by grind
    rwa [e] at h
/-- Powers of 2 to the 64 are struck on both sides. -/
theorem W_cancel (hm : m % 2 = 1) (n : Nat) (h : Eqm m (a * W ^ n) (b * W ^ n)) : Eqm m a b := by
  have h1 : Eqm m (2 ^ (64 * n) * (a - b)) 0 := by
    rw [← W_pow]
    obtain ⟨q, h⟩ := h
    exact ⟨q, by grind⟩
  obtain ⟨q, h2⟩ := odd_cancel hm (64 * n) h1
  exact ⟨q, by omega⟩
end
/-! ### Forms -/
/-- z is the form of v. -/
structure Form (m : Int) (n : Nat) (v z : Int) : Prop where
  pos : 0 ≤ z
  lt : z < m
  eqm : Eqm m z (v * W ^ n)
/-- What times answers of X and Y. -/
structure Tim (m : Int) (n : Nat) (X Y T : Int) : Prop where
  pos : 0 ≤ T
  lt : T < m
  eqm : Eqm m (T * W ^ n) (X * Y)
section
variable {m : Int} {n : Nat}
theorem Tim.form {u v X Y T : Int} (hm : m % 2 = 1) (h : Tim m n X Y T) (hX : Form m n u X) (hY : Form m n v Y) : Form m n (u * v) T := by
  refine ⟨h.pos, h.lt, W_cancel hm n ?_⟩
  refine h.eqm.trans ((hX.eqm.mul hY.eqm).trans (Eqm.of_eq ?_))
  grind
/-- A residue, times the form of 2 to the 64 n. -/
theorem Tim.formed {u X S T : Int} (hm : m % 2 = 1) (h : Tim m n X S T) (hX : Eqm m X u) (hS : Eqm m S (W ^ n * W ^ n)) : Form m n u T := by
  refine ⟨h.pos, h.lt, W_cancel hm n ?_⟩
  refine h.eqm.trans ((hX.mul hS).trans (Eqm.of_eq ?_))
  grind
/-- A form, times 1. -/
theorem Tim.residue {v X T : Int} (hm : m % 2 = 1) (h : Tim m n X 1 T) (hX : Form m n v X) : T = v % m := by
  refine Eqm.rest ?_ h.pos h.lt
  apply W_cancel hm n
  refine h.eqm.trans ?_
  rw [Int.mul_one]
  exact hX.eqm
theorem Form.congr {u v z : Int} (h : Form m n u z) (e : Eqm m u v) : Form m n v z := ⟨h.pos, h.lt, h.eqm.trans (e.mul (Eqm.refl _ _))⟩
end
/-! ### One limb's inverse -/
/-- How far the inverse goes behind k rounds. -/
def far : Nat → Int
  | 0 => 8
  | 1 => 64
  | 2 => 4096
  | 3 => 16777216
  | 4 => 281474976710656
  | _ => 18446744073709551616
def farF : Nat → Int
  | 0 => 1
  | 1 => 1
  | 2 => 1
  | 3 => 1
  | _ => 4294967296
def farG : Nat → Int
  | 0 => 288230376151711744
  | 1 => 4503599627370496
  | 2 => 1099511627776
  | 3 => 65536
  | _ => 1
theorem far_ok {k : Nat} (h : k < 5) : far k * far k = far (k + 1) * farF k ∧ 18446744073709551616 = far (k + 1) * farG k := by
  match k, h with
  | 0, _ => decide
  | 1, _ => decide
  | 2, _ => decide
  | 3, _ => decide
  | 4, _ => decide
theorem far_step {a z z' t : Int} {k : Nat} (hk : k < 5) (h : Eqm (far k) (a * z) 1) (e : z' = z * (2 - a * z) + t * 18446744073709551616) : Eqm (far (k + 1)) (a * z') 1 := by
  obtain ⟨h1, h2⟩ := far_ok hk
  obtain ⟨q, h⟩ := h
  generalize far k = E at *
  generalize far (k + 1) = E' at *
  generalize farF k = F at *
  generalize farG k = G at *
  generalize (18446744073709551616 : Int) = B at *
  refine ⟨a * t * G - q * q * F, ?_⟩
  have e1 : a * z' = (a * z) * (2 - a * z) + a * t * B := by grind
  rw [e1, h, h2]
  have e2 : (1 + q * E) * (2 - (1 + q * E)) = 1 - q * q * (E * E) := by grind
  rw [e2, h1]
  grind
theorem far_start {a : Int} (h : a % 2 = 1) : Eqm (far 0) (a * a) 1 := by
  show Eqm 8 (a * a) 1
  rw [Eqm.iff, Int.mul_emod]
  have : a % 8 = 1 ∨ a % 8 = 3 ∨ a % 8 = 5 ∨ a % 8 = 7 := by omega
  rcases this with g | g | g | g <;> rw [g] <;> decide
/-- The product that clears the lowest limb. -/
theorem low_clear {m0 low limb u : Int} (h : Eqm W (m0 * low) (-1)) (hu : Eqm W u (limb * low)) : (m0 * u + limb + 0) % 18446744073709551616 = 0 := by
  show _ % W = 0
  have h1 : Eqm W (m0 * u + limb + 0) 0 := by
    obtain ⟨q, h⟩ := h
    obtain ⟨r, hu⟩ := hu
    refine ⟨q * limb + m0 * r, ?_⟩
    rw [hu]
    have : m0 * (limb * low + r * W) + limb + 0 = limb * (m0 * low) + limb + m0 * r * W := by grind
    rw [this, h]
    grind
  have := h1.emod
  simpa using this
/-! ### Euclid -/
theorem gcd_step {H L : Int} (h : 0 ≤ H) (l : 0 ≤ L) : Int.gcd L (H % L) = Int.gcd H L := by
  obtain ⟨a, rfl⟩ := Int.eq_ofNat_of_zero_le h
  obtain ⟨b, rfl⟩ := Int.eq_ofNat_of_zero_le l
  rw [← Int.natCast_emod, Int.gcd_natCast_natCast, Int.gcd_natCast_natCast, Nat.gcd_comm b, Nat.gcd_comm a, Nat.gcd_rec b a]
structure Eu (m x H L F G : Int) (neg : Bool) : Prop where
  l0 : 0 ≤ L
  lh : L < H
  f0 : 0 ≤ F
  fg : F ≤ G
  g0 : 1 ≤ G
  det : F * L + G * H = m
  hi : Eqm m H (if neg then -(x * F) else x * F)
  lo : Eqm m L (if neg then x * G else -(x * G))
  gcd : Int.gcd H L = Int.gcd m x
theorem Eu.start {m x : Int} (h0 : 0 ≤ x) (h1 : x < m) : Eu m x m x 0 1 true :=
  ⟨h0, h1, Int.le_refl _, by omega, Int.le_refl _, by omega, ⟨1, by simp⟩, ⟨0, by simp⟩, rfl⟩
theorem Eu.step {m x H L F G : Int} {neg : Bool} (h : Eu m x H L F G neg) (hL : 0 < L) : Eu m x L (H % L) G (F + H / L * G) (!neg) := by
  obtain ⟨l0, lh, f0, fg, g0, det, hi, lo, gcd⟩ := h
  have hd := Int.emod_add_mul_ediv H L
  have q1 : 1 ≤ H / L := Int.le_ediv_of_mul_le hL (by omega)
  have hG : G ≤ H / L * G := by
    have := Int.mul_le_mul_of_nonneg_right q1 (show 0 ≤ G by omega)
    omega
  refine ⟨Int.emod_nonneg _ (by omega), Int.emod_lt_of_pos _ hL, by omega, by omega, by omega, ?_, ?_, ?_, ?_⟩
  · generalize H / L = q at *
    generalize H % L = r at *
    rw [← det, ← hd]
    grind
  · cases neg <;> simpa using lo
  · have e : H % L = H - H / L * L := by have := Int.mul_comm L (H / L); omega
    rw [e]
    generalize H / L = q at *
    have := hi.sub ((Eqm.refl m q).mul lo)
    refine this.trans (Eqm.of_eq ?_)
    cases neg <;> simp <;> grind
  · rw [← gcd]
    exact gcd_step (by omega) l0
theorem Eu.g_le {m x H L F G : Int} {neg : Bool} (h : Eu m x H L F G neg) : G ≤ m ∧ F ≤ m ∧ H ≤ m := by
  obtain ⟨l0, lh, f0, fg, g0, det, hi, lo, gcd⟩ := h
  have h1 := Int.mul_nonneg f0 l0
  have h2 := Int.mul_le_mul_of_nonneg_left (show 1 ≤ H by omega) (show 0 ≤ G by omega)
  have h3 := Int.mul_le_mul_of_nonneg_right g0 (show 0 ≤ H by omega)
  omega
theorem Eu.next_le {m x H L F G : Int} {neg : Bool} (h : Eu m x H L F G neg) (hL : 0 < L) : H / L * G ≤ m ∧ 0 ≤ H / L * G := by
  have h1 := (h.step hL).g_le
  have h2 := h.f0
  have q1 : 1 ≤ H / L := Int.le_ediv_of_mul_le hL (by have := h.lh; omega)
  have := Int.mul_nonneg (show 0 ≤ H / L by omega) (show 0 ≤ G by have := h.g0; omega)
  omega
theorem Eu.gcd_end {m x H F G : Int} {neg : Bool} (h : Eu m x H 0 F G neg) : H = (Int.gcd m x : Int) := by
  have := h.gcd
  have h1 := h.lh
  rw [Int.gcd_zero_right] at this
  omega
/-- Where the divisor is 1, the factor, or the modulus less it, is the inverse. -/
theorem Eu.inv {m x F G : Int} {neg : Bool} (hm : 2 ≤ m) (h : Eu m x 1 0 F G neg) : 1 ≤ F ∧ F < m ∧ Eqm m (x * (if neg then m - F else F)) 1 := by
  have e := h.det
  have f1 := h.fg
  have f0 := h.f0
  have hi := h.hi
  have key : ∀ k, F = k * m → False := by
    intro k hk
    obtain ⟨q, hq⟩ := hi
    have : 1 = (if neg then -(x * k) else x * k) * m + q * m := by
      rw [hk] at hq
      cases neg <;> simp at hq ⊢ <;> grind
    have h1 : 1 = ((if neg then -(x * k) else x * k) + q) * m := by rw [Int.add_mul]; exact this
    have h2 : (1 : Int) % m = 0 := by rw [h1]; exact Int.mul_emod_left _ _
    rw [Int.emod_eq_of_lt (by omega) (by omega)] at h2
    omega
  have a0 : F ≠ 0 := fun h0 => key 0 (by omega)
  have a1 : F ≠ m := fun h0 => key 1 (by omega)
  refine ⟨by omega, by omega, ?_⟩
  obtain ⟨q, hq⟩ := hi
  cases neg
  · simp at hq ⊢; exact ⟨-q, by grind⟩
  · simp at hq ⊢; exact ⟨x - q, by grind⟩
theorem inv_uniq {m a b u v : Int} (h : Eqm m a b) (hu : Eqm m (a * u) 1) (hv : Eqm m (b * v) 1) (u0 : 0 ≤ u) (u1 : u < m) (v0 : 0 ≤ v) (v1 : v < m) : u = v := by
  refine Eqm.eq ?_ u0 u1 v0 v1
  have h1 : Eqm m (u * (b * v)) (u * 1) := (Eqm.refl m u).mul hv
  have h2 : Eqm m ((a * u) * v) (1 * v) := hu.mul (Eqm.refl m v)
  have h3 : Eqm m ((a * u) * v) (u * (b * v)) := by
    refine ((h.mul (Eqm.refl m u)).mul (Eqm.refl m v)).trans (Eqm.of_eq ?_)
    grind
  rw [Int.mul_one] at h1
  rw [Int.one_mul] at h2
  exact h1.symm.trans (h3.symm.trans h2)
end Go.Proofs.Ytcnekfpgoceblaa
/-
  Small calls of package mont: timesPlus, inverseOfLimb, widen.
-/
namespace Go.Proofs.Ytcnekfpgoceblaa
open Go.RowKit
set_option linter.unusedVariables false
/-- The two halves of a product and two numbers more. -/
def tph (a b c d : Int) : Int := (a * b + c + d) / 18446744073709551616
def tpl (a b c d : Int) : Int := (a * b + c + d) % 18446744073709551616
theorem tp_bd {a b c d : Int} (a0 : 0 ≤ a) (a1 : a < 18446744073709551616) (b0 : 0 ≤ b) (b1 : b < 18446744073709551616) (c0 : 0 ≤ c) (c1 : c < 18446744073709551616) (d0 : 0 ≤ d) (d1 : d < 18446744073709551616) :
    0 ≤ tpl a b c d ∧ tpl a b c d < 18446744073709551616 ∧ 0 ≤ tph a b c d ∧ tph a b c d < 18446744073709551616 ∧ tpl a b c d + 18446744073709551616 * tph a b c d = a * b + c + d := by
  have h1 : 0 ≤ a * b := Int.mul_nonneg a0 b0
  have h2 : a * b ≤ 18446744073709551615 * 18446744073709551615 := Int.mul_le_mul (by omega) (by omega) b0 (by decide)
  unfold tpl tph; omega
theorem tp_eq {a b c d lo hi l1 c1 l2 c2 : Int} (h0 : lo + 18446744073709551616 * hi = a * b) (h1 : l1 + 18446744073709551616 * c1 = lo + c + 0) (h2 : l2 + 18446744073709551616 * c2 = l1 + d + 0) (l0 : 0 ≤ l2) (l1' : l2 < 18446744073709551616) :
    hi + c1 + c2 = tph a b c d ∧ l2 = tpl a b c d := by
  unfold tph tpl
  rw [← h0]; omega
/-! ### inverseOfLimb -/
def InvR (a : Int) (z i : Value) : Prop := ∃ (k : Nat) (v : Int), k ≤ 5 ∧ i = .int .i64 k ∧ z = .int .u64 v ∧ 0 ≤ v ∧ v < 18446744073709551616 ∧ Eqm (far k) (a * v) 1
def InvP (a : Int) (w : World) (e : Ending) (w' : World) : Prop := (∃ v : Int, e = .returned (.int .u64 v) ∧ 0 ≤ v ∧ v < 18446744073709551616 ∧ Eqm W (a * v) 1) ∧ w = w'
theorem wrap_u (x : Int) : ∃ t : Int, IntKind.u64.wrap x = x + t * 18446744073709551616 ∧ 0 ≤ IntKind.u64.wrap x ∧ IntKind.u64.wrap x < 18446744073709551616 := by
  rw [IntKind.wrap_u64]
  exact ⟨-(x / 18446744073709551616), by omega, by omega, by omega⟩
theorem inv_round {a z : Int} {k : Nat} (hk : k < 5) (h : Eqm (far k) (a * z) 1) : 
    0 ≤ IntKind.u64.wrap (z * IntKind.u64.wrap (2 - IntKind.u64.wrap (a * z))) ∧ IntKind.u64.wrap (z * IntKind.u64.wrap (2 - IntKind.u64.wrap (a * z))) < 18446744073709551616 ∧
      Eqm (far (k + 1)) (a * IntKind.u64.wrap (z * IntKind.u64.wrap (2 - IntKind.u64.wrap (a * z)))) 1 := by
  obtain ⟨t1, e1, -, -⟩ := wrap_u (a * z)
  obtain ⟨t2, e2, -, -⟩ := wrap_u (2 - IntKind.u64.wrap (a * z))
  obtain ⟨t3, e3, h0, h1⟩ := wrap_u (z * IntKind.u64.wrap (2 - IntKind.u64.wrap (a * z)))
  refine ⟨h0, h1, far_step (t := t3 + z * (t2 - t1)) hk h ?_⟩
  rw [e3, e2, e1]
  grind
/-! ### widen -/
theorem splice_some {Z X : List Value} (h : X.length ≤ Z.length) : splice Z 0 X = X ++ Z.drop X.length := by
  unfold splice
  rw [List.take_zero, List.nil_append, Nat.zero_add]
theorem val_pad (b : Int) (xs : List Int) (k : Nat) : val b (xs ++ List.replicate k 0) = val b xs := by
  rw [val_append, val_zeros b (xs := List.replicate k 0) (by intro x hx; simp at hx; exact hx.2)]; simp
/-- A number in new memory, told in n digits. -/
def AnsW (N : Int) (n : Nat) (w : World) (e : Ending) (w' : World) : Prop :=
  ∃ B cap, e = .returned (.slice B n cap) ∧ Nm w' B n cap N ∧ Below w.heap.size w w' ∧ ∀ a, B = some a → w.heap.size ≤ a.block
end Go.Proofs.Ytcnekfpgoceblaa
/-
  What mont.takeOff and mont's addAndDrop do to a row of digits.
-/
namespace Go.Proofs.Ytcnekfpgoceblaa
open Go.RowKit
set_option linter.unusedVariables false
/-! ### takeOff -/
theorem off_sum {zs ys Y : List Int} {k : Nat} {over over' v : Int} (hk : 0 + k < ys.length) (hr : dig ys (0 + k) = dig zs (0 + k))
    (e : v - W * over' = dig ys (0 + k) - dig Y k - over) (h : wv ys 0 k - over * W ^ k = wv zs 0 k - vf W (dig Y) k) :
    wv (ys.set (0 + k) v) 0 (k + 1) - over' * W ^ (k + 1) = wv zs 0 (k + 1) - vf W (dig Y) (k + 1) := by
  rw [wv_set hk, wv_succ, ← hr]
  simp only [vf]
  rw [Int.pow_succ]
  generalize wv ys 0 k = a at *
  generalize wv zs 0 k = b at *
  generalize vf W (dig Y) k = d at *
  generalize W ^ k = p at *
  generalize dig ys (0 + k) = z at *
  generalize dig Y k = y at *
  grind
def OffR (zs Y : List Int) (n g : Nat) (w : World) (o i : Value) (wr : World) : Prop :=
  ∃ (k : Nat) (ys : List Int) (over : Int), k ≤ n ∧ i = .int .i64 k ∧ o = .int .u64 over ∧ 0 ≤ over ∧ over ≤ 1 ∧ Turned w wr g 0 k zs ys ∧ wv ys 0 k - over * W ^ k = wv zs 0 k - vf W (dig Y) k
def OffP (zs Y : List Int) (n g : Nat) (w : World) (e : Ending) (w' : World) : Prop :=
  ∃ (ys : List Int) (over : Int), e = .returned (.tuple #[]) ∧ 0 ≤ over ∧ over ≤ 1 ∧ Turned w w' g 0 n zs ys ∧ wv ys 0 n - over * W ^ n = wv zs 0 n - vf W (dig Y) n
end Go.Proofs.Ytcnekfpgoceblaa
/-
  A modulus in memory, and what addAndDrop does to a row of digits.
-/
namespace Go.Proofs.Ytcnekfpgoceblaa
open Go.RowKit
set_option linter.unusedVariables false
/-- Block b is what reckons modulo m: its four cells. -/
structure Md (w : World) (b : Nat) (m : Int) (n : Nat) (A : Option Addr) (c : Nat) (low : Int) (B : Option Addr) (cB : Nat) (S : Option Addr) (cS : Nat) : Prop where
  lt : b < w.heap.size
  c0 : w.cell? ⟨b, 0, none⟩ = some (.slice A n c)
  c1 : w.cell? ⟨b, 1, none⟩ = some (.int .u64 low)
  c2 : w.cell? ⟨b, 2, none⟩ = some (.slice B n cB)
  c3 : w.cell? ⟨b, 3, none⟩ = some (.slice S n cS)
  lim : Cn w A n c m
  low0 : 0 ≤ low
  low1 : low < 18446744073709551616
  lowm : Eqm W (m * low) (-1)
  one : Nm w B n cB (W ^ n % m)
  shift : Nm w S n cS (W ^ n * W ^ n % m)
  odd : m % 2 = 1
  m3 : 3 ≤ m
  l32 : n ≤ 32
section
variable {w w' : World} {b : Nat} {m : Int} {n : Nat} {A : Option Addr} {c : Nat} {low : Int} {B : Option Addr} {cB : Nat} {S : Option Addr} {cS : Nat}
theorem Md.below (h : Md w b m n A c low B cB S cS) (hb : Below w.heap.size w w') : Md w' b m n A c low B cB S cS :=
  ⟨by have := hb.size; have := h.lt; omega, (hb.cell (p := ⟨b, 0, none⟩) h.lt).trans h.c0, (hb.cell (p := ⟨b, 1, none⟩) h.lt).trans h.c1, (hb.cell (p := ⟨b, 2, none⟩) h.lt).trans h.c2, (hb.cell (p := ⟨b, 3, none⟩) h.lt).trans h.c3,
    h.lim.below hb, h.low0, h.low1, h.lowm, h.one.below hb, h.shift.below hb, h.odd, h.m3, h.l32⟩
theorem Md.len (h : Md w b m n A c low B cB S cS) : n = dl m := h.lim.len_
theorem Md.n1 (h : Md w b m n A c low B cB S cS) : 1 ≤ n := by
  have h1 := h.len
  have h2 := h.m3
  rcases Nat.eq_zero_or_pos n with g | g
  · have := (dl_zero (N := m) (by omega)).1 (by omega); omega
  · exact g
theorem Md.dig0 (h : Md w b m n A c low B cB S cS) : Eqm W (dig (dg W m) 0 * low) (-1) := by
  have h3 := h.m3
  have e : dig (dg W m) 0 = m % W := by rw [dg_pos W_two (by omega)]; rfl
  rw [e]
  exact ((Eqm.mod W m).mul (Eqm.refl W low)).trans h.lowm
end
/-! ### addAndDrop -/
theorem drop_first {z x M0 K u ov un limb lo : Int} (h1 : limb + W * ov = x * K + z + 0) (h2 : lo + W * un = M0 * u + limb + 0) (h3 : lo = 0) : (ov + un) * W = z + K * x + u * M0 := by
  grind
theorem drop_step {zs ys X M : List Int} {k : Nat} {K u ov un ov' un' limb v : Int} (hk : k < ys.length) (h1 : limb + W * ov' = dig X (k + 1) * K + dig zs (k + 1) + ov) (h2 : v + W * un' = dig M (k + 1) * u + limb + un)
    (h : vf W (dig ys) k * W + (ov + un) * W ^ (k + 1) = vf W (dig zs) (k + 1) + K * vf W (dig X) (k + 1) + u * vf W (dig M) (k + 1)) :
    vf W (dig (ys.set k v)) (k + 1) * W + (ov' + un') * W ^ (k + 1 + 1) = vf W (dig zs) (k + 1 + 1) + K * vf W (dig X) (k + 1 + 1) + u * vf W (dig M) (k + 1 + 1) := by
  rw [vf_set hk]
  have e : ∀ f : Nat → Int, vf W f (k + 1 + 1) = vf W f (k + 1) + f (k + 1) * W ^ (k + 1) := fun f => rfl
  rw [e, e, e, Int.pow_succ W (k + 1)]
  have e2 : W ^ (k + 1) = W ^ k * W := Int.pow_succ _ _
  rw [e2] at h ⊢
  generalize vf W (dig ys) k = a at *
  generalize vf W (dig zs) (k + 1) = b at *
  generalize vf W (dig X) (k + 1) = x at *
  generalize vf W (dig M) (k + 1) = y at *
  generalize W ^ k = p at *
  grind
theorem drop_last {zs ys X M : List Int} {k : Nat} {K u ov un limb cr v c2 : Int} (hk : k + 1 < ys.length) (h1 : limb + W * cr = dig zs (k + 1) + ov + 0) (h2 : v + W * c2 = limb + un + 0)
    (h : vf W (dig ys) k * W + (ov + un) * W ^ (k + 1) = vf W (dig zs) (k + 1) + K * vf W (dig X) (k + 1) + u * vf W (dig M) (k + 1)) :
    vf W (dig (((ys.set k v).set (k + 1) c2).set (k + 1) (c2 + cr))) (k + 1 + 1) * W = vf W (dig zs) (k + 1 + 1) + K * vf W (dig X) (k + 1) + u * vf W (dig M) (k + 1) := by
  rw [List.set_set, vf_set (by simpa using hk), vf_set (by omega)]
  have e : vf W (dig zs) (k + 1 + 1) = vf W (dig zs) (k + 1) + dig zs (k + 1) * W ^ (k + 1) := rfl
  rw [e]
  have e2 : W ^ (k + 1) = W ^ k * W := Int.pow_succ _ _
  rw [e2] at h ⊢
  generalize vf W (dig ys) k = a at *
  generalize vf W (dig zs) (k + 1) = b at *
  generalize vf W (dig X) (k + 1) = x at *
  generalize vf W (dig M) (k + 1) = y at *
  generalize W ^ k = p at *
  grind
def DropR (zs X M : List Int) (n : Nat) (K u : Int) (w0 : World) (o un i : Value) (wr : World) : Prop :=
  ∃ (k : Nat) (ys : List Int) (ov ud : Int), k + 1 ≤ n ∧ i = .int .i64 ((k : Int) + 1) ∧ o = .int .u64 ov ∧ un = .int .u64 ud ∧ 0 ≤ ov ∧ ov < 18446744073709551616 ∧ 0 ≤ ud ∧ ud < 18446744073709551616 ∧
    Row wr w0.heap.size 41 .u64 ys ∧ ys.length = n + 1 ∧ Dig W ys ∧ (∀ j, k ≤ j → dig ys j = dig zs j) ∧
    vf W (dig ys) k * W + (ov + ud) * W ^ (k + 1) = vf W (dig zs) (k + 1) + K * vf W (dig X) (k + 1) + u * vf W (dig M) (k + 1) ∧ Below w0.heap.size w0 wr
def DropP (zs : List Int) (n : Nat) (K X m : Int) (w0 : World) (e : Ending) (w' : World) : Prop :=
  ∃ (ys : List Int) (u : Int), e = .returned (.tuple #[]) ∧ 0 ≤ u ∧ u < 18446744073709551616 ∧ Row w' w0.heap.size 41 .u64 ys ∧ ys.length = n + 1 ∧ Dig W ys ∧
    vf W (dig ys) (n + 1) * W = vf W (dig zs) (n + 1) + K * X + u * m ∧ Below w0.heap.size w0 w'
end Go.Proofs.Ytcnekfpgoceblaa
/-
  What mont's times, form and residue answer.
-/
namespace Go.Proofs.Ytcnekfpgoceblaa
open Go.RowKit
set_option linter.unusedVariables false
theorem tim_lt {S S' K X u m : Int} (h : S' * W = S + K * X + u * m) (hS : S < 2 * m) (hK : K < 18446744073709551616) (hu : u < 18446744073709551616) (hK0 : 0 ≤ K) (hm : 0 < m) (hX : X < m) : S' < 2 * m := by
  have h1 := Int.mul_le_mul_of_nonneg_left (show X ≤ m by omega) hK0
  have h2 := Int.mul_le_mul_of_nonneg_right (show K ≤ W - 1 by unfold W; omega) (show 0 ≤ m by omega)
  have h3 := Int.mul_le_mul_of_nonneg_right (show u ≤ W - 1 by unfold W; omega) (show 0 ≤ m by omega)
  have h4 : S' * W < 2 * m * W := by
    have : 2 * m * W = 2 * m + ((W - 1) * m + (W - 1) * m) := by grind
    rw [this, h]; omega
  exact Int.lt_of_mul_lt_mul_right h4 (by decide)
theorem tim_sum {S S' K X u m y : Int} {k : Nat} (h : S' * W = S + K * X + u * m) (hv : Eqm m (S * W ^ k) (X * y)) : Eqm m (S' * W ^ (k + 1)) (X * (y + K * W ^ k)) := by
  obtain ⟨q, hv⟩ := hv
  refine ⟨q + u * W ^ k, ?_⟩
  rw [Int.pow_succ]
  have : S' * (W ^ k * W) = (S' * W) * W ^ k := by grind
  rw [this, h]
  generalize W ^ k = p at *
  grind
def TmR (ys : List Int) (X m : Int) (n : Nat) (w : World) (i : Value) (wr : World) : Prop :=
  ∃ (k : Nat) (zs : List Int), k ≤ n ∧ i = .int .i64 k ∧ Row wr w.heap.size 41 .u64 zs ∧ zs.length = n + 1 ∧ Dig W zs ∧ vf W (dig zs) (n + 1) < 2 * m ∧ Eqm m (vf W (dig zs) (n + 1) * W ^ k) (X * vf W (dig ys) k) ∧ Below w.heap.size w wr
/-- The product over 2 to the 64 n was answered. -/
def TimP (m : Int) (n : Nat) (X Y : Int) (w : World) (e : Ending) (w' : World) : Prop :=
  ∃ B cap T, e = .returned (.slice B n cap) ∧ Nm w' B n cap T ∧ Tim m n X Y T ∧ Below w.heap.size w w' ∧ ∀ a, B = some a → w.heap.size ≤ a.block
theorem tim_small {zs : List Int} {n : Nat} {m S : Int} (hd : Dig W zs) (hS : S = vf W (dig zs) (n + 1)) (hm : m < W ^ n) (h : S < m) : S = val W (zs.take n) ∨ zs.length < n := by
  rcases Nat.lt_or_ge zs.length n with g | g
  · exact .inr g
  · left
    rw [val_take W zs g]
    have e : S = vf W (dig zs) n + dig zs n * W ^ n := hS
    have b0 := (vf_bd (b := W) (by decide) (fun j => dig_bd (b := W) (by decide) hd j) n).1
    have d0 := dig_bd (b := W) (by decide) hd n
    have p0 := pow_pos' W_two n
    rcases Int.lt_or_eq_of_le d0.1 with g2 | g2
    · have := Int.mul_le_mul_of_nonneg_right (show 1 ≤ dig zs n by omega) (show 0 ≤ W ^ n by omega)
      omega
    · rw [← g2] at e; omega
theorem tim_off {zs ys : List Int} {n : Nat} {m S over : Int} (hd : Dig W ys) (hS : S = vf W (dig zs) (n + 1)) (hm : m < W ^ n) (h0 : m ≤ S) (h1 : S < 2 * m) (hv : wv ys 0 n - over * W ^ n = wv zs 0 n - m) (hl : n ≤ ys.length) : val W (ys.take n) = S - m := by
  rw [val_take W ys hl]
  have e : S = vf W (dig zs) n + dig zs n * W ^ n := hS
  have e1 : wv ys 0 n = vf W (dig ys) n := vf_congr W (fun j _ => by rw [Nat.zero_add])
  have e2 : wv zs 0 n = vf W (dig zs) n := vf_congr W (fun j _ => by rw [Nat.zero_add])
  rw [e1, e2] at hv
  have b := vf_bd (b := W) (by decide) (fun j => dig_bd (b := W) (by decide) hd j) n
  refine Eqm.eq (m := W ^ n) ⟨over - dig zs n, ?_⟩ b.1 b.2 (by omega) (by omega)
  rw [e]
  have : vf W (dig ys) n = vf W (dig zs) n - m + over * W ^ n := by omega
  rw [this]; grind
theorem rd_take_row {w : World} {g n : Nat} {zs : List Int} (h : Row w g 41 .u64 zs) (hl : zs.length = n + 1) : Rd .u64 w (some ⟨g, 0, none⟩) n (zs.take n) := h.rd0 (by omega)
end Go.Proofs.Ytcnekfpgoceblaa
/-
  What mont's form and residue answer.
-/
namespace Go.Proofs.Ytcnekfpgoceblaa
open Go.RowKit
set_option linter.unusedVariables false
/-- A form was answered. -/
def FormP (m : Int) (n : Nat) (v : Int) (w : World) (e : Ending) (w' : World) : Prop :=
  ∃ B cap T, e = .returned (.slice B n cap) ∧ Nm w' B n cap T ∧ Form m n v T ∧ Below w.heap.size w w'
end Go.Proofs.Ytcnekfpgoceblaa
/-
  What mont's newModulus, New and Modulus answer.
-/
namespace Go.Proofs.Ytcnekfpgoceblaa
open Go.RowKit
set_option linter.unusedVariables false
def NewP (m : Int) (n : Nat) (A : Option Addr) (c : Nat) (w : World) (e : Ending) (w' : World) : Prop :=
  ∃ low B cB S cS, e = .returned (.agg #[.slice A n c, .int .u64 low, .slice B n cB, .slice S n cS]) ∧ 0 ≤ low ∧ low < 18446744073709551616 ∧ Eqm W (m * low) (-1) ∧ Nm w' B n cB (W ^ n % m) ∧ Nm w' S n cS (W ^ n * W ^ n % m) ∧ Below w.heap.size w w' ∧ (∀ a, B = some a → w.heap.size ≤ a.block) ∧ ∀ a, S = some a → w.heap.size ≤ a.block
theorem Nm.set {w : World} {A : Option Addr} {n c : Nat} {N : Int} (h : Nm w A n c N) {g : Nat} (hne : ∀ a, A = some a → a.block ≠ g) (i : Nat) (u : Value) : Nm (w.setCell ⟨g, i, none⟩ u) A n c N := by
  obtain ⟨⟨xs, h1, h2, h3⟩, h4, h5, h6⟩ := h
  exact ⟨⟨xs, h1.grown (grown_setCell (World.grownBy.refl w _) i u) hne, h2, h3⟩, h4, h5, h6⟩
theorem power_nm (w : World) (o : Obj) {Z : List Int} {n : Nat} (hZ : Z = List.replicate (n + 1) 0) (hn : n ≤ 1000) :
    Nm ((w.alloc o).alloc (.cells ((Z.map (Value.int .u64)).set n (.int .u64 1)).toArray 41)) (some ⟨w.heap.size + 1, 0, none⟩) (n + 1) (n + 1) (W ^ n) := by
  have e : (Z.map (Value.int .u64)).set n (.int .u64 1) = (Z.set n 1).map (Value.int .u64) := by rw [List.map_set]
  rw [e]
  have hr := Row.new (w.alloc o) 41 .u64 (Z.set n 1)
  have hs : (w.alloc o).heap.size = w.heap.size + 1 := by simp
  rw [hs] at hr
  have hl : (Z.set n 1).length = n + 1 := by rw [hZ]; simp
  refine ⟨⟨Z.set n 1, hr.rd hl (fun j x hx => by rwa [Nat.zero_add]), ?_, ?_⟩, Nat.le_refl _, by omega, Int.le_of_lt (pow_pos' W_two n)⟩
  · refine Dig.set ?_ (by decide) (by decide) n
    rw [hZ]; intro x hx; simp at hx; rw [hx]; exact ⟨by decide, by decide⟩
  · rw [val_vf W (Z.set n 1) (Nat.le_of_eq hl), vf_set (by rw [hZ]; simp), hZ, vf_zero W (k := 0) (Nat.zero_le _) (fun j _ => dig_replicate _ j)]
    simp [vf]
theorem bcell {W w1 : World} (hb : Below W.heap.size W w1) : (∀ b o, b < W.heap.size → w1.cell? ⟨b, o, none⟩ = W.cell? ⟨b, o, none⟩) ∧ (∀ b o, b < W.heap.size → w1.frozen? ⟨b, o, none⟩ = W.frozen? ⟨b, o, none⟩) :=
  ⟨fun b o h => hb.cell (p := ⟨b, o, none⟩) h, fun b o h => hb.frozen (p := ⟨b, o, none⟩) h⟩
theorem neg_low {m v : Int} (h : Eqm W (m % W * v) 1) : Eqm W (m * IntKind.u64.wrap (-v)) (-1) ∧ 0 ≤ IntKind.u64.wrap (-v) ∧ IntKind.u64.wrap (-v) < 18446744073709551616 := by
  obtain ⟨t, e, h0, h1⟩ := wrap_u (-v)
  refine ⟨?_, h0, h1⟩
  rw [e]
  have h2 : Eqm W (m * v) 1 := ((Eqm.mod W m).symm.mul (Eqm.refl W v)).trans h
  refine Eqm.trans ?_ h2.neg
  exact ⟨m * t, by unfold W; grind⟩
end Go.Proofs.Ytcnekfpgoceblaa
/-
  What mont.New and Modulus answer.
-/
namespace Go.Proofs.Ytcnekfpgoceblaa
open Go.RowKit
set_option linter.unusedVariables false
theorem nb_iff {N : Int} (h : 0 ≤ N) (k : Nat) : nb N ≤ k ↔ N < 2 ^ k := ⟨fun g => dg_lt_pow (by decide) h g, fun g => dg_len_le (by decide) h g⟩
theorem dl_iff {N : Int} (h : 0 ≤ N) (k : Nat) : dl N ≤ k ↔ N < W ^ k := ⟨fun g => lt_dl h g, fun g => dl_le h g⟩
theorem nb_dl {N : Int} (h : 0 ≤ N) (k : Nat) : nb N ≤ 64 * k ↔ dl N ≤ k := by rw [nb_iff h, dl_iff h, W_pow]
theorem nb_two {N : Int} (h : 0 ≤ N) : 2 ≤ nb N ↔ 2 ≤ N := by
  have := nb_iff h 1
  have e : (2 : Int) ^ 1 = 2 := rfl
  rw [e] at this
  omega
theorem bt_zero (N : Int) : bt N 0 = decide (N % 2 = 1) := by
  unfold bt; simp
/-- What reckons modulo m was answered, in new memory. -/
def MkP (m : Int) (n : Nat) (w : World) (e : Ending) (w' : World) : Prop :=
  ∃ b A c low B cB S cS, e = .returned (.tuple #[.pointer (some ⟨b, 0, none⟩), .nilIface]) ∧ Md w' b m n A c low B cB S cS ∧ Below w.heap.size w w' ∧
    w.heap.size ≤ b ∧ (∀ a, A = some a → w.heap.size ≤ a.block) ∧ (∀ a, B = some a → w.heap.size ≤ a.block) ∧ ∀ a, S = some a → w.heap.size ≤ a.block
/-- 'nil, err' was answered, err a Code. -/
def MkE (code : Int) (w : World) (e : Ending) (w' : World) : Prop :=
  e = .returned (.tuple #[.pointer none, .iface 57 (.int .i64 code)]) ∧ Below w.heap.size w w'
end Go.Proofs.Ytcnekfpgoceblaa
/-
  What mont's powersOf, digitCount and digitAt answer.
-/
namespace Go.Proofs.Ytcnekfpgoceblaa
open Go.RowKit
set_option linter.unusedVariables false
/-! ### Digits of four bits -/
theorem four_split {xs : List Int} {k r : Nat} (hd : Dig W xs) (hr : r ≤ 60) : val W xs / 2 ^ (64 * k + r) % 16 = dig xs k / 2 ^ r % 16 := by
  have h := val_vf W xs (m := k + 1 + xs.length) (by omega)
  rw [vf_split W (dig xs) (k + 1) xs.length] at h
  have hlow := vf_bd (b := W) (by decide) (fun j => dig_bd (b := W) (by decide) hd j) k
  generalize vf W (fun j => dig xs (k + 1 + j)) xs.length = hi at h
  simp only [vf] at h
  rw [h]
  have e1 : (2 : Int) ^ (64 * k + r) = W ^ k * 2 ^ r := by rw [Int.pow_add, W_pow]
  have e2 : W ^ (k + 1) = W ^ k * W := Int.pow_succ _ _
  have e3 : W = 2 ^ r * 2 ^ (60 - r) * 16 := by
    rw [← Int.pow_add, show r + (60 - r) = 60 by omega]; decide
  have hp := pow_pos' W_two k
  have hp2 : (0 : Int) < 2 ^ r := Int.pow_pos (by decide)
  have e4 : vf W (dig xs) k + dig xs k * W ^ k + W ^ (k + 1) * hi = vf W (dig xs) k + W ^ k * (dig xs k + W * hi) := by rw [e2]; grind
  rw [e4, e1, ← Int.ediv_ediv_of_nonneg (Int.le_of_lt hp), Int.add_mul_ediv_left _ _ (Int.ne_of_gt hp), Int.ediv_eq_zero_of_lt hlow.1 hlow.2, Int.zero_add]
  have e5 : dig xs k + W * hi = dig xs k + 2 ^ r * (16 * (2 ^ (60 - r) * hi)) := by
    have : W * hi = 2 ^ r * (16 * (2 ^ (60 - r) * hi)) := by
      conv => lhs; rw [e3]
      generalize (2 : Int) ^ r = p
      generalize (2 : Int) ^ (60 - r) = q
      grind
    rw [this]
  rw [e5, Int.add_mul_ediv_left _ _ (Int.ne_of_gt hp2), Int.add_mul_emod_self_left]
theorem pow16 (i : Nat) : (16 : Int) ^ i = 2 ^ (4 * i) := by
  have : (16 : Int) = 2 ^ 4 := by decide
  rw [this, ← Int.pow_mul]
theorem four_at {xs : List Int} {i : Nat} (hd : Dig W xs) : val W xs / 16 ^ i % 16 = dig xs (i / 16) / 2 ^ (4 * (i % 16)) % 16 := by
  rw [pow16, ← four_split hd (by omega)]
  congr 3
  omega
/-! ### The table of powers -/
/-- Up to k the table's cells are the forms of a's powers: the slice Bo, or in blocks behind g + 1. -/
def Pows (w : World) (m : Int) (n : Nat) (a : Int) (arr : Array Value) (k g : Nat) (Bo : Option Addr) : Prop :=
  ∀ j, j < k → ∃ A c T, arr[j]? = some (.slice A n c) ∧ Nm w A n c T ∧ Form m n (a ^ j) T ∧ (A = Bo ∨ ∀ x, A = some x → g + 1 < x.block)
theorem Pows.below {w w' : World} {m : Int} {n : Nat} {a : Int} {arr : Array Value} {k g : Nat} {Bo : Option Addr} (h : Pows w m n a arr k g Bo) (hb : Below w.heap.size w w') : Pows w' m n a arr k g Bo := fun j hj => by
  obtain ⟨A, c, T, h1, h2, h3, h4⟩ := h j hj
  exact ⟨A, c, T, h1, h2.below hb, h3, h4⟩
theorem Nm.setRow {w : World} {A : Option Addr} {n c : Nat} {N : Int} (h : Nm w A n c N) {g : Nat} (hne : ∀ a, A = some a → a.block ≠ g) (cs : Array Value) : Nm (w.setRow g cs) A n c N := by
  obtain ⟨⟨xs, h1, h2, h3⟩, h4, h5, h6⟩ := h
  refine ⟨⟨xs, ⟨h1.len, fun hn => ?_⟩, h2, h3⟩, h4, h5, h6⟩
  obtain ⟨b, off, e, hb, hc⟩ := h1.cells hn
  exact ⟨b, off, e, by rw [setRow_size]; exact hb, fun j x hx => (cell_setRow_other w g cs ⟨b, off + j, none⟩ (hne ⟨b, off, none⟩ e)).trans (hc j x hx)⟩
theorem Pows.setRow {w : World} {m : Int} {n : Nat} {a : Int} {arr : Array Value} {k g g' : Nat} {Bo : Option Addr} (h : Pows w m n a arr k g Bo) (hB : ∀ x, Bo = some x → x.block < g') (hg : g' ≤ g + 1) (cs : Array Value) : Pows (w.setRow g' cs) m n a arr k g Bo := fun j hj => by
  obtain ⟨A, c, T, h1, h2, h3, h4⟩ := h j hj
  refine ⟨A, c, T, h1, h2.setRow (fun x hx => ?_) cs, h3, h4⟩
  rcases h4 with h4 | h4
  · have := hB x (h4 ▸ hx); omega
  · have := h4 x hx; omega
theorem Pows.snoc {w : World} {m : Int} {n : Nat} {a : Int} {arr : Array Value} {k g : Nat} {Bo : Option Addr} (h : Pows w m n a arr k g Bo) (hk : k < arr.size) {A : Option Addr} {c : Nat} {T : Int} (h2 : Nm w A n c T) (h3 : Form m n (a ^ k) T) (h4 : ∀ x, A = some x → g + 1 < x.block) :
    Pows w m n a (arr.setIfInBounds k (.slice A n c)) (k + 1) g Bo := fun j hj => by
  rcases Nat.lt_or_ge j k with g1 | g1
  · obtain ⟨A', c', T', e1, e2, e3, e4⟩ := h j g1
    exact ⟨A', c', T', by rw [Array.getElem?_setIfInBounds, if_neg (by omega)]; exact e1, e2, e3, e4⟩
  · obtain rfl : j = k := by omega
    exact ⟨A, c, T, by rw [Array.getElem?_setIfInBounds, if_pos rfl, if_pos hk], h2, h3, .inr h4⟩
def PwP (m : Int) (n : Nat) (a : Int) (Bo : Option Addr) (w : World) (e : Ending) (w' : World) : Prop :=
  ∃ arr : Array Value, e = .returned (.agg arr) ∧ arr.size = 16 ∧ arr.all (·.oneCell') = true ∧ Pows w' m n a arr 16 w.heap.size Bo ∧ Below w.heap.size w w'
theorem Nm.lt {w : World} {A : Option Addr} {n c : Nat} {N : Int} (h : Nm w A n c N) (hn : 0 < n) : ∀ x, A = some x → x.block < w.heap.size := by
  obtain ⟨⟨xs, h1, h2, h3⟩, h4, h5, h6⟩ := h
  intro x hx
  obtain ⟨b, off, e, hb, hc⟩ := h1.cells hn
  rw [e] at hx; injection hx with hx; subst hx; exact hb
theorem one_form {m : Int} {n : Nat} (hm : 0 < m) : Form m n (1 : Int) (W ^ n % m) := ⟨Int.emod_nonneg _ (by omega), Int.emod_lt_of_pos _ hm, by rw [Int.one_mul]; exact Eqm.mod m _⟩
theorem two_blocks (w : World) (o o' : Obj) : ((w.alloc o).alloc o').heap[w.heap.size]? = some o ∧ ((w.alloc o).alloc o').heap[w.heap.size + 1]? = some o' := by
  have e : (w.alloc o).heap.size = w.heap.size + 1 := by simp
  have h := heap_alloc_new (w.alloc o) o'
  rw [e] at h
  exact ⟨(Below.heap_alloc (w.alloc o) o' w.heap.size (by rw [e]; omega)).trans (heap_alloc_new w o), h⟩
end Go.Proofs.Ytcnekfpgoceblaa
/-
  What Reduce and Sub answer, modulo a number.
-/
namespace Go.Proofs.Ytcnekfpgoceblaa
open Go.RowKit
set_option linter.unusedVariables false
section
variable {w : World} {b : Nat} {m : Int} {n : Nat} {A : Option Addr} {c : Nat} {low : Int} {B : Option Addr} {cB : Nat} {S : Option Addr} {cS : Nat}
theorem Md.dlm (md : Md w b m n A c low B cB S cS) : dl m ≤ 64 := by have := md.len; have := md.l32; omega
theorem Md.rest (md : Md w b m n A c low B cB S cS) (X : Int) : 0 ≤ X % m ∧ X % m < m ∧ dl (X % m) ≤ 32 ∧ dl (X % m) ≤ 64 := by
  have h3 := md.m3
  have h0 := Int.emod_nonneg X (show m ≠ 0 by omega)
  have h1 := Int.emod_lt_of_pos X (show 0 < m by omega)
  have h2 := dl_mono h0 (show X % m ≤ m by omega)
  have := md.len
  have := md.l32
  exact ⟨h0, h1, by omega, by omega⟩
/-- Two residues and no error. -/
def Both (X Y : Int) (w : World) (e : Ending) (w' : World) : Prop :=
  ∃ B1 n1 c1 B2 n2 c2, e = .returned (.tuple #[.slice B1 n1 c1, .slice B2 n2 c2, .nilIface]) ∧ Cn w' B1 n1 c1 X ∧ Cn w' B2 n2 c2 Y ∧ Below w.heap.size w w'
theorem sub_ge {m X Y : Int} (h0 : 0 ≤ Y % m) (h1 : X % m < m) (hm : 0 < m) (h : Y % m ≤ X % m) : X % m - Y % m = (X - Y) % m :=
  Eqm.rest ((Eqm.mod m X).sub (Eqm.mod m Y)) (by omega) (by omega)
theorem sub_lt {m X Y : Int} (h0 : 0 ≤ X % m) (h1 : Y % m < m) (hm : 0 < m) (h : X % m < Y % m) : m - (Y % m - X % m) = (X - Y) % m :=
  Eqm.rest (Eqm.trans ⟨1, by omega⟩ ((Eqm.mod m X).sub (Eqm.mod m Y))) (by omega) (by omega)
end
end Go.Proofs.Ytcnekfpgoceblaa
/-
  What Exp answers, modulo a number.
-/
namespace Go.Proofs.Ytcnekfpgoceblaa
open Go.RowKit
set_option linter.unusedVariables false
section
variable {w : World} {b : Nat} {m : Int} {n : Nat} {A : Option Addr} {c : Nat} {low : Int} {B : Option Addr} {cB : Nat} {S : Option Addr} {cS : Nat}
def nils16 : Array Value := #[.slice none 0 0, .slice none 0 0, .slice none 0 0, .slice none 0 0, .slice none 0 0, .slice none 0 0, .slice none 0 0, .slice none 0 0, .slice none 0 0, .slice none 0 0, .slice none 0 0, .slice none 0 0, .slice none 0 0, .slice none 0 0, .slice none 0 0, .slice none 0 0]
theorem below_al (w : World) (o : Obj) : Below w.heap.size w (w.alloc o) := (Below.refl _ _).alloc (Nat.le_refl _) _
theorem below_dr (w : World) : Below w.heap.size w w.drew := (Below.refl _ _).drew
def ExR (m : Int) (n : Nat) (a E : Int) (w1 : World) (z i : Value) (wr : World) : Prop :=
  ∃ (k : Nat) (v : Int) (Z : Option Addr) (cz : Nat) (T : Int), i = .int .i64 v ∧ v = (k : Int) - 1 ∧ k ≤ (nb E + 3) / 4 ∧ z = .slice Z n cz ∧ Nm wr Z n cz T ∧ Form m n (a ^ (E / 16 ^ k).toNat) T ∧ Below w1.heap.size w1 wr
def ExI (m : Int) (n : Nat) (u : Int) (w1 : World) (z j : Value) (wr : World) : Prop :=
  ∃ (k : Nat) (Z : Option Addr) (cz : Nat) (T : Int), k ≤ 4 ∧ j = .int .i64 k ∧ z = .slice Z n cz ∧ Nm wr Z n cz T ∧ Form m n (u ^ 2 ^ k) T ∧ Below w1.heap.size w1 wr
theorem exp_top {E : Int} (h : 0 ≤ E) : (E / 16 ^ ((nb E + 3) / 4)).toNat = 0 := by
  have h1 := nb_lt h
  have h2 : (2 : Int) ^ nb E ≤ 16 ^ ((nb E + 3) / 4) := by rw [pow16]; exact pow_mono (by decide) (by omega)
  rw [Int.ediv_eq_zero_of_lt h (by omega)]
  rfl
theorem exp_next {E a : Int} {j d : Nat} (h : 0 ≤ E) (hd : E / 16 ^ j % 16 = (d : Int)) : (a ^ (E / 16 ^ (j + 1)).toNat) ^ 2 ^ 4 * a ^ d = a ^ (E / 16 ^ j).toNat := by
  have hp : (0 : Int) < 16 ^ j := Int.pow_pos (by decide)
  have e1 : E / 16 ^ (j + 1) = E / 16 ^ j / 16 := by rw [Int.pow_succ, Int.ediv_ediv_of_nonneg (Int.le_of_lt hp)]
  have q0 := Int.ediv_nonneg h (Int.le_of_lt hp)
  rw [e1]
  generalize E / 16 ^ j = q at *
  have e2 : q.toNat = (q / 16).toNat * 16 + d := by omega
  rw [e2, Int.pow_add, Int.pow_mul]
theorem digit_in {E : Int} {j l : Nat} (h : 0 ≤ E) (hj : j + 1 ≤ (nb E + 3) / 4) (hl : dl E ≤ l) : j / 16 < l := by
  have := (nb_dl h l).2 hl
  omega
end
end Go.Proofs.Ytcnekfpgoceblaa
/-
  What euclid and Inverse answer.
-/
namespace Go.Proofs.Ytcnekfpgoceblaa
open Go.RowKit
set_option linter.unusedVariables false
/-- The number that a slice reads as, to base b. -/
def readN (b : Int) (w : World) : Value → Int
  | .slice (some a) n _ => val b ((List.range n).map fun j => match w.cell? ⟨a.block, a.off + j, none⟩ with | some (.int _ x) => x | _ => 0)
  | _ => 0
theorem readN_rd {k : IntKind} {b : Int} {w : World} {A : Option Addr} {n c : Nat} {xs : List Int} (h : Rd k w A n xs) : readN b w (.slice A n c) = val b xs := by
  rcases Nat.eq_zero_or_pos n with g | g
  · subst g
    obtain rfl : xs = [] := List.eq_nil_of_length_eq_zero h.len
    cases A <;> simp [readN, val]
  · obtain ⟨bl, off, rfl, hb, hc⟩ := h.cells g
    have hl := h.len
    simp only [readN]
    congr 1
    apply List.ext_getElem?
    intro j
    rcases Nat.lt_or_ge j n with hj | hj
    · rw [List.getElem?_map, List.getElem?_range hj, Option.map_some, hc j _ (getElem?_dig (by omega)), getElem?_dig (by omega)]
    · rw [List.getElem?_eq_none (by simp; omega), List.getElem?_eq_none (by omega)]
theorem readN_nm {w : World} {A : Option Addr} {n c : Nat} {N : Int} (h : Nm w A n c N) : readN W w (.slice A n c) = N := by
  obtain ⟨⟨xs, h1, h2, h3⟩, -⟩ := h
  rw [readN_rd h1, h3]
theorem Cn.empty {w : World} {g c : Nat} : Cn w (some ⟨g, 0, none⟩) 0 c 0 := ⟨by rw [dg_zero]; exact Rd.nil _ _ _, Nat.zero_le _, by omega, Int.le_refl _⟩
theorem lit_cn (w : World) (x : Int) (h0 : 1 ≤ x) (h1 : x < W) : Cn (w.alloc (.cells #[.int .u64 x] 41)) (some ⟨w.heap.size, 0, none⟩) 1 1 x :=
  ⟨by rw [dg_one h0 h1]; exact (show Row _ _ _ _ [x] from Row.new w 41 .u64 [x]).rd rfl (fun j y hy => by simpa using hy), Nat.le_refl _, by omega, by omega⟩
def EuR (m x : Int) (w : World) (h l f g t : Value) (wr : World) : Prop :=
  ∃ H L F G neg A1 n1 c1 A2 n2 c2 A3 n3 c3 A4 n4 c4, h = .slice A1 n1 c1 ∧ l = .slice A2 n2 c2 ∧ f = .slice A3 n3 c3 ∧ g = .slice A4 n4 c4 ∧ t = .bool neg ∧ Cn wr A1 n1 c1 H ∧ Cn wr A2 n2 c2 L ∧ Cn wr A3 n3 c3 F ∧ Cn wr A4 n4 c4 G ∧
    (∀ a, A3 = some a → w.heap.size ≤ a.block) ∧ (∀ a, A4 = some a → w.heap.size ≤ a.block) ∧ Eu m x H L F G neg ∧ Below w.heap.size w wr
def EuP (m x : Int) (w : World) (e : Ending) (w' : World) : Prop :=
  ∃ H F G neg A1 n1 c1 A3 n3 c3, e = .returned (.tuple #[.slice A1 n1 c1, .slice A3 n3 c3, .bool neg]) ∧ Cn w' A1 n1 c1 H ∧ Cn w' A3 n3 c3 F ∧ (∀ a, A3 = some a → w.heap.size ≤ a.block) ∧ Eu m x H 0 F G neg ∧ Below w.heap.size w w'
theorem nb_pos {L : Int} (h : 0 ≤ L) : 0 < nb L ↔ 0 < L := by
  have := nb_iff h 0
  simp at this
  omega
/-- What makes 1 of X was answered. -/
def InvA (m X : Int) (w : World) (e : Ending) (w' : World) : Prop := ∃ U, 1 ≤ U ∧ U < m ∧ Eqm m (X * U) 1 ∧ Ans U w e w'
section
variable {w : World} {b : Nat} {m : Int} {n : Nat} {A : Option Addr} {c : Nat} {low : Int} {B : Option Addr} {cB : Nat} {S : Option Addr} {cS : Nat}
end
end Go.Proofs.Ytcnekfpgoceblaa
