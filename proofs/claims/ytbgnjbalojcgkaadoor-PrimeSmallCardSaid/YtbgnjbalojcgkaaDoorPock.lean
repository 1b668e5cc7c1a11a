/-
  Pocklington's criterion; no call is spoken of here.
-/
import Derived.Test.YtbgnjbalojcgkaaDoorMo
namespace Go.Proofs.YtbgnjbalojcgkaaDoor
set_option linter.unusedVariables false
/-- A prime: nothing from 2 on below it divides it. -/
def Pr (p : Int) : Prop := 2 ≤ p ∧ ∀ d : Int, 2 ≤ d → d < p → p % d ≠ 0
/-- As many things as have a place each of their own among r have at most r. -/
theorem pigeon : ∀ (r q : Nat) (f : Nat → Nat), (∀ i, i < q → f i < r) → (∀ i j, i < q → j < q → f i = f j → i = j) → q ≤ r := by
  intro r
  induction r with
  | zero =>
    intro q f h _
    rcases Nat.eq_zero_or_pos q with g | g
    · omega
    · have := h 0 g; omega
  | succ r ih =>
    intro q f h hi
    by_cases he : ∃ i, i < q ∧ f i = r
    · obtain ⟨i0, hi0, hr⟩ := he
      have := ih (q - 1) (fun i => if i < i0 then f i else f (i + 1)) (by
        intro i hq
        show (if i < i0 then f i else f (i + 1)) < r
        split
        · have h1 := h i (by omega)
          have h2 : f i ≠ r := fun e => by have := hi i i0 (by omega) hi0 (by omega); omega
          omega
        · have h1 := h (i + 1) (by omega)
          have h2 : f (i + 1) ≠ r := fun e => by have := hi (i + 1) i0 (by omega) hi0 (by omega); omega
          omega) (by
        intro i j hq hj e
        split at e <;> split at e
        · exact hi i j (by omega) (by omega) e
        · have := hi i (j + 1) (by omega) (by omega) e; omega
        · have := hi (i + 1) j (by omega) (by omega) e; omega
        · have := hi (i + 1) (j + 1) (by omega) (by omega) e; omega)
      omega
    · have := ih q f (fun i hq => by
        have h1 := h i hq
        have h2 : f i ≠ r := fun e => he ⟨i, hq, e⟩
        omega) hi
      omega
section
variable {r B : Int} {q : Nat}
/-- Where B to the q is 1, q a prime, and B isn't, no lesser power is. -/
theorem ord_prime (hq : Pr q) (h : Eqm r (B ^ q) 1) (hB : ¬ Eqm r B 1) : ∀ e : Nat, 0 < e → e < q → ¬ Eqm r (B ^ e) 1 := by
  intro e
  induction e using Nat.strongRecOn with
  | _ e ih =>
    intro e0 eq he
    have hs : Eqm r (B ^ (q % e)) 1 := by
      have e1 : B ^ q = (B ^ e) ^ (q / e) * B ^ (q % e) := by
        rw [← Int.pow_mul, ← Int.pow_add]; congr 1; exact (Nat.div_add_mod q e).symm
      have h2 := (he.pow (q / e)).mul (Eqm.refl r (B ^ (q % e)))
      rw [Int.one_pow, Int.one_mul, ← e1] at h2
      exact h2.symm.trans h
    rcases Nat.eq_zero_or_pos (q % e) with g | g
    · rcases Nat.lt_or_ge 1 e with g1 | g1
      · refine hq.2 e (by omega) (by omega) ?_
        rw [← Int.natCast_emod, g]; rfl
      · obtain rfl : e = 1 := by omega
        rw [Int.pow_one] at he
        exact hB he
    · exact ih (q % e) (Nat.mod_lt _ e0) g (Nat.lt_trans (Nat.mod_lt _ e0) eq) hs
/-- Then q is below r. -/
theorem ord_lt (hr : 2 ≤ r) (hq : Pr q) (h : Eqm r (B ^ q) 1) (hB : ¬ Eqm r B 1) : (q : Int) < r := by
  have ho := ord_prime hq h hB
  have q2 := hq.1
  have hpos : ∀ i, i < q → 1 ≤ B ^ i % r := by
    intro i hi
    have h0 := Int.emod_nonneg (B ^ i) (show r ≠ 0 by omega)
    rcases Int.lt_or_eq_of_le h0 with g | g
    · omega
    · exfalso
      have e1 : B ^ q = B ^ i * B ^ (q - i) := by rw [← Int.pow_add]; congr 1; omega
      have h1 : Eqm r (B ^ i) 0 := Eqm.iff.2 (by rw [← g]; rfl)
      have h2 := h1.mul (Eqm.refl r (B ^ (q - i)))
      rw [← e1, Int.zero_mul] at h2
      have h3 := (h2.symm.trans h).emod
      rw [Int.zero_emod, Int.emod_eq_of_lt (by omega) (by omega)] at h3
      omega
  have key : ∀ i j, i < j → j < q → B ^ i % r ≠ B ^ j % r := by
    intro i j hij hj e
    have h1 : Eqm r (B ^ j) (B ^ i) := Eqm.iff.2 e.symm
    have h2 := h1.mul (Eqm.refl r (B ^ (q - i)))
    have e1 : B ^ i * B ^ (q - i) = B ^ q := by rw [← Int.pow_add]; congr 1; omega
    have e2 : B ^ j * B ^ (q - i) = B ^ q * B ^ (j - i) := by rw [← Int.pow_add, ← Int.pow_add]; congr 1; omega
    rw [e1, e2] at h2
    have h3 := h.mul (Eqm.refl r (B ^ (j - i)))
    rw [Int.one_mul] at h3
    exact ho (j - i) (by omega) (by omega) (h3.symm.trans (h2.trans h))
  have hp := pigeon (r.toNat - 1) q (fun i => (B ^ i % r).toNat - 1) (by
    intro i hi
    have h1 := Int.emod_lt_of_pos (B ^ i) (show 0 < r by omega)
    have h2 := hpos i hi
    show (B ^ i % r).toNat - 1 < r.toNat - 1
    omega) (by
    intro i j hi hj e
    have h1 := hpos i hi
    have h2 := hpos j hj
    have e' : B ^ i % r = B ^ j % r := by
      have e0 : (B ^ i % r).toNat - 1 = (B ^ j % r).toNat - 1 := e
      omega
    rcases Nat.lt_trichotomy i j with g | g | g
    · exact absurd e' (key i j g hj)
    · exact g
    · exact absurd e'.symm (key j i g hi))
  omega
end
theorem dvd_eqm {r a : Int} (h : a % r = 0) : Eqm r a 0 := Eqm.iff.2 (by rw [h]; rfl)
/-- What divides P leaves what is the same modulo P the same. -/
theorem Eqm.down {r P a b : Int} (hr : P % r = 0) (h : Eqm P a b) : Eqm r a b := by
  obtain ⟨q, h⟩ := h
  obtain ⟨t, ht⟩ := dvd_eqm hr
  exact ⟨q * t, by rw [h, ht]; grind⟩
/-- Pocklington. -/
theorem pock {P Q A : Int} {k : Nat} (hP : 3 ≤ P) (hQ : Pr Q) (hsq : P < Q * Q) (hk : P - 1 = Q * k) (h1 : Eqm P (A ^ (P - 1).toNat) 1) (hg : Int.gcd P ((A ^ k - 1) % P) = 1) : Pr P := by
  have q2 := hQ.1
  obtain ⟨q, rfl⟩ := Int.eq_ofNat_of_zero_le (show 0 ≤ Q by omega)
  have e1 : (P - 1).toNat = k * q := by
    have : P - 1 = ((k * q : Nat) : Int) := by rw [hk, Int.natCast_mul, Int.mul_comm]
    omega
  rw [e1, Int.pow_mul] at h1
  have big : ∀ r : Int, 2 ≤ r → P % r = 0 → (q : Int) < r := by
    intro r hr hd
    refine ord_lt hr hQ (h1.down hd) (fun hB => ?_)
    -- r divides both P and A^k - 1
    have d1 : r ∣ P := Int.dvd_of_emod_eq_zero hd
    have d2 : r ∣ (A ^ k - 1) % P := by
      have h3 : Eqm r ((A ^ k - 1) % P) 0 := ((Eqm.mod P (A ^ k - 1)).down hd).trans ((hB.sub (Eqm.refl r 1)).trans (Eqm.of_eq (by omega)))
      obtain ⟨t, ht⟩ := h3
      exact ⟨t, by rw [ht]; grind⟩
    have d3 := Int.dvd_coe_gcd d1 d2
    rw [hg] at d3
    have := Int.le_of_dvd (by decide) d3
    omega
  refine ⟨by omega, fun d hd hlt h0 => ?_⟩
  obtain ⟨t, ht⟩ := Int.dvd_of_emod_eq_zero h0
  have b1 := big d hd h0
  have t2 : 2 ≤ t := by
    rcases Int.lt_or_le t 2 with g | g
    · exfalso
      rcases Int.lt_or_le t 1 with g1 | g1
      · have := Int.mul_le_mul_of_nonneg_left (show t ≤ 0 by omega) (show 0 ≤ d by omega)
        rw [Int.mul_zero] at this
        omega
      · obtain rfl : t = 1 := by omega
        omega
    · exact g
  have b2 := big t t2 (by rw [ht]; exact Int.mul_emod_left _ _)
  have h4 := Int.mul_le_mul (show (q : Int) ≤ d by omega) (show (q : Int) ≤ t by omega) (by omega) (by omega)
  omega
end Go.Proofs.YtbgnjbalojcgkaaDoor
