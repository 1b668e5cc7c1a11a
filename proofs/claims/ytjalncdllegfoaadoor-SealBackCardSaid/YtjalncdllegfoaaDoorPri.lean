/-
  Several texts in one: Pock, Prm, Cof, Witn, Smal, Step, Next, Sp, Chk, Up0.
-/
import Derived.Test.YtjalncdllegfoaaDoorPkm
import Derived.Test.YtjalncdllegfoaaDoorPkf
import Derived.Test.YtjalncdllegfoaaDoorPka
import Derived.Test.YtjalncdllegfoaaDoorPkg
/-
  Pocklington's criterion; no call is spoken of here.
-/
namespace Go.Proofs.YtjalncdllegfoaaDoor
set_option linter.unusedVariables false
/-- A prime: nothing from 2 on below it divides it. -/
def Pr (p : Int) : Prop := 2 ≤ p ∧ ∀ d : Int, 2 ≤ d → d < p → p % d ≠ 0
/-- As many things as have a place each of their own among r have at most r. -/
theorem pigeon : ∀ (r q : Nat) (f : Nat → Nat), (∀ i, i < q → f i < r) → (∀ i j, i < q → j < q → f i = f j → i = j) → q ≤ r := by
  intro r
  induction r with
  | zero =>
    intro q f h _
    rcases Nat.eq_zero_or_pos q with g | g
    · omega
    · have := h 0 g; omega
  | succ r ih =>
    intro q f h hi
    by_cases he : ∃ i, i < q ∧ f i = r
    · obtain ⟨i0, hi0, hr⟩ := he
      have := ih (q - 1) (fun i => if i < i0 then f i else f (i + 1)) (by
        intro i hq
        show (if i < i0 then f i else f (i + 1)) < r
        split
        · have h1 := h i (by omega)
          have h2 : f i ≠ r := fun e => by have := hi i i0 (by omega) hi0 (by omega); omega
          omega
        · have h1 := h (i + 1) (by omega)
          have h2 : f (i + 1) ≠ r := fun e => by have := hi (i + 1) i0 (by omega) hi0 (by omega); omega
          omega) (by
        intro i j hq hj e
        split at e <;> split at e
        · exact hi i j (by omega) (by omega) e
        · have := hi i (j + 1) (by omega) (by omega) e; omega
        · have := hi (i + 1) j (by omega) (by omega) e; omega
        · have := hi (i + 1) (j + 1) (by omega) (by omega) e; omega)
      omega
    · have := ih q f (fun i hq => by
        have h1 := h i hq
        have h2 : f i ≠ r := fun e => he ⟨i, hq, e⟩
        omega) hi
      omega
section
variable {r B : Int} {q : Nat}
/-- Where B to the q is 1, q a prime, and B isn't, no lesser power is. -/
theorem ord_prime (hq : Pr q) (h : Eqm r (B ^ q) 1) (hB : ¬ Eqm r B 1) : ∀ e : Nat, 0 < e → e < q → ¬ Eqm r (B ^ e) 1 := by
  intro e
  induction e using Nat.strongRecOn with
  | _ e ih =>
    intro e0 eq he
    have hs : Eqm r (B ^ (q % e)) 1 := by
      have e1 : B ^ q = (B ^ e) ^ (q / e) * B ^ (q % e) := by
        rw [← Int.pow_mul, ← Int.pow_add]; congr 1; exact (Nat.div_add_mod q e).symm
      have h2 := (he.pow (q / e)).mul (Eqm.refl r (B ^ (q % e)))
      rw [Int.one_pow, Int.one_mul, ← e1] at h2
      exact h2.symm.trans h
    rcases Nat.eq_zero_or_pos (q % e) with g | g
    · rcases Nat.lt_or_ge 1 e with g1 | g1
      · refine hq.2 e (by omega) (by omega) ?_
        rw [← Int.natCast_emod, g]; rfl
      · obtain rfl : e = 1 := by omega
        rw [Int.pow_one] at he
        exact hB he
    · exact ih (q % e) (Nat.mod_lt _ e0) g (Nat.lt_trans (Nat.mod_lt _ e0) eq) hs
/-- Then q is below r. -/
theorem ord_lt (hr : 2 ≤ r) (hq : Pr q) (h : Eqm r (B ^ q) 1) (hB : ¬ Eqm r B 1) : (q : Int) < r := by
  have ho := ord_prime hq h hB
  have q2 := hq.1
  have hpos : ∀ i, i < q → 1 ≤ B ^ i % r := by
    intro i hi
    have h0 := Int.emod_nonneg (B ^ i) (show r ≠ 0 by omega)
    rcases Int.lt_or_eq_of_le h0 with g | g
    · omega
    · exfalso
      have e1 : B ^ q = B ^ i * B ^ (q - i) := by rw [← Int.pow_add]; congr 1; omega
      have h1 : Eqm r (B ^ i) 0 := Eqm.iff.2 (by rw [← g]; rfl)
      have h2 := h1.mul (Eqm.refl r (B ^ (q - i)))
      rw [← e1, Int.zero_mul] at h2
      have h3 := (h2.symm.trans h).emod
      rw [Int.zero_emod, Int.emod_eq_of_lt (by omega) (by omega)] at h3
      omega
  have key : ∀ i j, i < j → j < q → B ^ i % r ≠ B ^ j % r := by
    intro i j hij hj e
    have h1 : Eqm r (B ^ j) (B ^ i) := Eqm.iff.2 e.symm
    have h2 := h1.mul (Eqm.refl r (B ^ (q - i)))
    have e1 : B ^ i * B ^ (q - i) = B ^ q := by rw [← Int.pow_add]; congr 1; omega
    have e2 : B ^ j * B ^ (q - i) = B ^ q * B ^ (j - i) := by rw [← Int.pow_add, ← Int.pow_add]; congr 1; omega
    rw [e1, e2] at h2
    have h3 := h.mul (Eqm.refl r (B ^ (j - i)))
    rw [Int.one_mul] at h3
    exact ho (j - i) (by omega) (by omega) (h3.symm.trans (h2.trans h))
  have hp := pigeon (r.toNat - 1) q (fun i => (B ^ i % r).toNat - 1) (by
    intro i hi
    have h1 := Int.emod_lt_of_pos (B ^ i) (show 0 < r by omega)
    have h2 := hpos i hi
    show (B ^ i % r).toNat - 1 < r.toNat - 1
    omega) (by
    intro i j hi hj e
    have h1 := hpos i hi
    have h2 := hpos j hj
    have e' : B ^ i % r = B ^ j % r := by
      have e0 : (B ^ i % r).toNat - 1 = (B ^ j % r).toNat - 1 := e
      omega
    rcases Nat.lt_trichotomy i j with g | g | g
    · exact absurd e' (key i j g hj)
    · exact g
    · exact absurd e'.symm (key j i g hi))
  omega
end
theorem dvd_eqm {r a : Int} (h : a % r = 0) : Eqm r a 0 := Eqm.iff.2 (by rw [h]; rfl)
/-- What divides P leaves what is the same modulo P the same. -/
theorem Eqm.down {r P a b : Int} (hr : P % r = 0) (h : Eqm P a b) : Eqm r a b := by
  obtain ⟨q, h⟩ := h
  obtain ⟨t, ht⟩ := dvd_eqm hr
  exact ⟨q * t, by rw [h, ht]; grind⟩
/-- Pocklington. -/
theorem pock {P Q A : Int} {k : Nat} (hP : 3 ≤ P) (hQ : Pr Q) (hsq : P < Q * Q) (hk : P - 1 = Q * k) (h1 : Eqm P (A ^ (P - 1).toNat) 1) (hg : Int.gcd P ((A ^ k - 1) % P) = 1) : Pr P := by
  have q2 := hQ.1
  obtain ⟨q, rfl⟩ := Int.eq_ofNat_of_zero_le (show 0 ≤ Q by omega)
  have e1 : (P - 1).toNat = k * q := by
    have : P - 1 = ((k * q : Nat) : Int) := by rw [hk, Int.natCast_mul, Int.mul_comm]
    omega
  rw [e1, Int.pow_mul] at h1
  have big : ∀ r : Int, 2 ≤ r → P % r = 0 → (q : Int) < r := by
    intro r hr hd
    refine ord_lt hr hQ (h1.down hd) (fun hB => ?_)
    -- r divides both P and A^k - 1
    have d1 : r ∣ P := Int.dvd_of_emod_eq_zero hd
    have d2 : r ∣ (A ^ k - 1) % P := by
      have h3 : Eqm r ((A ^ k - 1) % P) 0 := ((Eqm.mod P (A ^ k - 1)).down hd).trans ((hB.sub (Eqm.refl r 1)).trans (Eqm.of_eq (by omega)))
      obtain ⟨t, ht⟩ := h3
      exact ⟨t, by rw [ht]; grind⟩
    have d3 := Int.dvd_coe_gcd d1 d2
    rw [hg] at d3
    have := Int.le_of_dvd (by decide) d3
    omega
  refine ⟨by omega, fun d hd hlt h0 => ?_⟩
  obtain ⟨t, ht⟩ := Int.dvd_of_emod_eq_zero h0
  have b1 := big d hd h0
  have t2 : 2 ≤ t := by
    rcases Int.lt_or_le t 2 with g | g
    · exfalso
      rcases Int.lt_or_le t 1 with g1 | g1
      · have := Int.mul_le_mul_of_nonneg_left (show t ≤ 0 by omega) (show 0 ≤ d by omega)
        rw [Int.mul_zero] at this
        omega
      · obtain rfl : t = 1 := by omega
        omega
    · exact g
  have b2 := big t t2 (by rw [ht]; exact Int.mul_emod_left _ _)
  have h4 := Int.mul_le_mul (show (q : Int) ≤ d by omega) (show (q : Int) ≤ t by omega) (by omega) (by omega)
  omega
end Go.Proofs.YtjalncdllegfoaaDoor
/-
  What layer 3 says of numbers: small primes, what a step of a proof says on its own, the first step at fault. No call is spoken of here.
-/
namespace Go.Proofs.YtjalncdllegfoaaDoor
set_option linter.unusedVariables false
/-- A small prime. -/
def Sm (n : Int) : Prop := n < 65536 ∧ Pr n
/-- What a step says of its witness. -/
def Wit (P Q A : Int) : Prop := 2 ≤ Q ∧ P < Q * Q ∧ (P - 1) % Q = 0 ∧ 2 ≤ A ∧ A < P ∧ A ^ (P - 1).toNat % P = 1 ∧ Int.gcd P ((A ^ ((P - 1) / Q).toNat - 1) % P) = 1
/-- A number of the step is too long. -/
def Lg (P Q A : Int) : Prop := 32 < dl P ∨ 64 < dl Q ∨ 64 < dl A
/-- P is even or too small. -/
def Ev (P : Int) : Prop := P % 2 = 0 ∨ P < 3
open Classical in
/-- What is amiss with a step on its own: 2, 5, 7, or 0. -/
noncomputable def sc (P Q A : Int) : Int := if Lg P Q A then 2 else if Ev P then 5 else if Wit P Q A then 0 else 7
section
variable {P Q A : Int}
theorem sc_long (h : Lg P Q A) : sc P Q A = 2 := if_pos h
theorem sc_even (h : ¬ Lg P Q A) (h2 : Ev P) : sc P Q A = 5 := by unfold sc; rw [if_neg h, if_pos h2]
theorem sc_good (h : ¬ Lg P Q A) (h2 : ¬ Ev P) (h3 : Wit P Q A) : sc P Q A = 0 := by unfold sc; rw [if_neg h, if_neg h2, if_pos h3]
theorem sc_bad (h : ¬ Lg P Q A) (h2 : ¬ Ev P) (h3 : ¬ Wit P Q A) : sc P Q A = 7 := by unfold sc; rw [if_neg h, if_neg h2, if_neg h3]
theorem sc_cases (P Q A : Int) : sc P Q A = 0 ∨ sc P Q A = 2 ∨ sc P Q A = 5 ∨ sc P Q A = 7 := by
  by_cases h : Lg P Q A
  · exact .inr (.inl (sc_long h))
  · by_cases h2 : Ev P
    · exact .inr (.inr (.inl (sc_even h h2)))
    · by_cases h3 : Wit P Q A
      · exact .inl (sc_good h h2 h3)
      · exact .inr (.inr (.inr (sc_bad h h2 h3)))
theorem sc_zero (h : sc P Q A = 0) : ¬ Lg P Q A ∧ ¬ Ev P ∧ Wit P Q A := by
  by_cases h1 : Lg P Q A
  · rw [sc_long h1] at h; cases h
  · by_cases h2 : Ev P
    · rw [sc_even h1 h2] at h; cases h
    · by_cases h3 : Wit P Q A
      · exact ⟨h1, h2, h3⟩
      · rw [sc_bad h1 h2 h3] at h; cases h
end
open Classical in
/-- What is amiss with step i among n: on its own, or with what follows. -/
noncomputable def bd (P Q A : Nat → Int) (n i : Nat) : Int :=
  if sc (P i) (Q i) (A i) ≠ 0 then sc (P i) (Q i) (A i) else if (if i + 1 < n then Q i = P (i + 1) else Sm (Q i)) then 0 else 7
section
variable {P Q A : Nat → Int} {n i : Nat}
theorem bd_own (h : sc (P i) (Q i) (A i) ≠ 0) : bd P Q A n i = sc (P i) (Q i) (A i) := if_pos h
theorem bd_next (h : sc (P i) (Q i) (A i) = 0) (hi : i + 1 < n) (hq : Q i = P (i + 1)) : bd P Q A n i = 0 := by
  unfold bd; rw [if_neg (by rw [h]; simp), if_pos (by rw [if_pos hi]; exact hq)]
theorem bd_join (h : sc (P i) (Q i) (A i) = 0) (hi : i + 1 < n) (hq : Q i ≠ P (i + 1)) : bd P Q A n i = 7 := by
  unfold bd; rw [if_neg (by rw [h]; simp), if_neg (by rw [if_pos hi]; exact hq)]
theorem bd_last (h : sc (P i) (Q i) (A i) = 0) (hi : ¬ i + 1 < n) (hq : Sm (Q i)) : bd P Q A n i = 0 := by
  unfold bd; rw [if_neg (by rw [h]; simp), if_pos (by rw [if_neg hi]; exact hq)]
theorem bd_end (h : sc (P i) (Q i) (A i) = 0) (hi : ¬ i + 1 < n) (hq : ¬ Sm (Q i)) : bd P Q A n i = 7 := by
  unfold bd; rw [if_neg (by rw [h]; simp), if_neg (by rw [if_neg hi]; exact hq)]
theorem bd_zero (h : bd P Q A n i = 0) : sc (P i) (Q i) (A i) = 0 ∧ (i + 1 < n → Q i = P (i + 1)) ∧ (¬ i + 1 < n → Sm (Q i)) := by
  by_cases h1 : sc (P i) (Q i) (A i) = 0
  · refine ⟨h1, fun hi => ?_, fun hi => ?_⟩
    · by_cases g : Q i = P (i + 1)
      · exact g
      · rw [bd_join h1 hi g] at h; cases h
    · by_cases g : Sm (Q i)
      · exact g
      · rw [bd_end h1 hi g] at h; cases h
  · rw [bd_own h1] at h; exact absurd h h1
theorem bd_cases (P Q A : Nat → Int) (n i : Nat) : bd P Q A n i = 0 ∨ bd P Q A n i = 2 ∨ bd P Q A n i = 5 ∨ bd P Q A n i = 7 := by
  by_cases h1 : sc (P i) (Q i) (A i) = 0
  · by_cases hi : i + 1 < n
    · by_cases g : Q i = P (i + 1)
      · exact .inl (bd_next h1 hi g)
      · exact .inr (.inr (.inr (bd_join h1 hi g)))
    · by_cases g : Sm (Q i)
      · exact .inl (bd_last h1 hi g)
      · exact .inr (.inr (.inr (bd_end h1 hi g)))
  · rw [bd_own h1]; exact sc_cases _ _ _
end
/-- No step is at fault. -/
def Good (P Q A : Nat → Int) (n : Nat) : Prop := ∀ i, i < n → bd P Q A n i = 0
/-- The first step at fault is step k, by number c. -/
def Bad (P Q A : Nat → Int) (n k : Nat) (c : Int) : Prop := k < n ∧ (∀ j, j < k → bd P Q A n j = 0) ∧ bd P Q A n k = c ∧ c ≠ 0
theorem good_or (P Q A : Nat → Int) (n : Nat) : Good P Q A n ∨ ∃ k c, Bad P Q A n k c := by
  have key : ∀ m, m ≤ n → (∀ i, i < m → bd P Q A n i = 0) ∨ ∃ k c, Bad P Q A n k c := by
    intro m
    induction m with
    | zero => intro _; exact .inl fun i h => absurd h (by omega)
    | succ m ih =>
      intro hm
      rcases ih (by omega) with h | h
      · by_cases g : bd P Q A n m = 0
        · refine .inl fun i hi => ?_
          rcases Nat.lt_or_ge i m with q | q
          · exact h i q
          · obtain rfl : i = m := by omega
            exact g
        · exact .inr ⟨m, _, by omega, h, rfl, g⟩
      · exact .inr h
  exact key n (Nat.le_refl n)
theorem toNat_mul_div {P Q : Int} (hP : 1 ≤ P) (hQ : 2 ≤ Q) (h : (P - 1) % Q = 0) : P - 1 = Q * (((P - 1) / Q).toNat : Int) := by
  have h1 := Int.mul_ediv_add_emod (P - 1) Q
  have h2 : 0 ≤ (P - 1) / Q := Int.ediv_nonneg (by omega) (by omega)
  rw [Int.toNat_of_nonneg h2]
  omega
/-- A step that says nothing amiss: if Q is a prime, so is P. -/
theorem step_prime {P Q A : Int} (h : sc P Q A = 0) (hQ : Pr Q) : Pr P := by
  obtain ⟨_, h2, q2, sq, hd, a2, aP, h1, hg⟩ := sc_zero h
  have hP : 3 ≤ P := by
    rcases Int.lt_or_le P 3 with g | g
    · exact absurd (Or.inr g) h2
    · exact g
  refine pock hP hQ sq (toNat_mul_div (by omega) q2 hd) ?_ hg
  refine Eqm.iff.2 ?_
  rw [h1, Int.emod_eq_of_lt (by omega) (by omega)]
theorem good_prime {P Q A : Nat → Int} {n : Nat} (h : Good P Q A n) : ∀ k, k < n → Pr (P (n - 1 - k)) := by
  intro k
  induction k with
  | zero =>
    intro hk
    obtain ⟨h1, -, h3⟩ := bd_zero (h (n - 1) (by omega))
    exact step_prime h1 (h3 (by omega)).2
  | succ k ih =>
    intro hk
    obtain ⟨h1, h2, -⟩ := bd_zero (h (n - 1 - (k + 1)) (by omega))
    refine step_prime h1 ?_
    rw [h2 (by omega), show n - 1 - (k + 1) + 1 = n - 1 - k by omega]
    exact ih (by omega)
/-- What a proof proves is a prime. -/
theorem good_first {P Q A : Nat → Int} {n : Nat} (h : Good P Q A n) (hn : 1 ≤ n) : Pr (P 0) := by
  have := good_prime h (n - 1) (by omega)
  rwa [show n - 1 - (n - 1) = 0 by omega] at this
/-- Trial division up to the root. -/
theorem pr_of_root {n : Int} (h2 : 2 ≤ n) (h : ∀ d : Int, 2 ≤ d → d * d ≤ n → n % d ≠ 0) : Pr n := by
  refine ⟨h2, fun d d2 dn hd => ?_⟩
  rcases Int.lt_or_le n (d * d) with g | g
  · have e : n = d * (n / d) := by have := Int.mul_ediv_add_emod n d; omega
    have q0 : 0 ≤ n / d := Int.ediv_nonneg (by omega) (by omega)
    have q2 : 2 ≤ n / d := by
      rcases Int.lt_or_le (n / d) 2 with k | k
      · have : n / d = 0 ∨ n / d = 1 := by omega
        rcases this with k | k <;> rw [k] at e <;> omega
      · exact k
    have qd : n / d < d := by
      rcases Int.lt_or_le (n / d) d with k | k
      · exact k
      · have := Int.mul_le_mul_of_nonneg_left k (show 0 ≤ d by omega); omega
    refine h (n / d) q2 ?_ ?_
    · have := Int.mul_le_mul_of_nonneg_right (Int.le_of_lt qd) q0; omega
    · exact Int.emod_eq_zero_of_dvd ⟨d, by rw [Int.mul_comm]; exact e⟩
  · exact h d d2 g hd
end Go.Proofs.YtjalncdllegfoaaDoor
/-
  What cofactor answers: (P - 1) / Q, where Q is great enough and divides P - 1.
-/
namespace Go.Proofs.YtjalncdllegfoaaDoor
open Go.RowKit
set_option linter.unusedVariables false
/-- What the step says of Q alone. -/
def Cof (P Q : Int) : Prop := 2 ≤ Q ∧ P < Q * Q ∧ (P - 1) % Q = 0
section
variable {A1 A2 : Option Addr} {n1 c1 n2 c2 : Nat} {P Q : Int} {w : World}
theorem cofactor_less (h1 : Nm w A1 n1 c1 P) (h2 : Nm w A2 n2 c2 Q) (hq : Q < 2) :
    Calls Tryd.prog 45 #[.slice A1 n1 c1, .slice A2 n2 c2] w (Err1 7 w) := by
  have t1 : decide ((nb Q : Int) < 2) = true := by have := nb_two h2.pos; simp; omega
  go_enter Tryd.func45, Tryd.ntmps45
  go_wp2_with fail
  refine (bits_any h2).mono ?_
  rintro e w1 ⟨rfl, rfl⟩
  go_wp2
  go_ret2
  exact ⟨rfl, Below.refl _ _⟩
theorem cofactor_small (h1 : Nm w A1 n1 c1 P) (h2 : Nm w A2 n2 c2 Q) (hl : dl Q ≤ 64) (hq : 2 ≤ Q) (hs : Q * Q ≤ P) :
    Calls Tryd.prog 45 #[.slice A1 n1 c1, .slice A2 n2 c2] w (Err1 7 w) := by
  have t1 : decide ((nb Q : Int) < 2) = false := by have := nb_two h2.pos; simp; omega
  have t2 : decide (cmpI (Q * Q) P ≤ 0) = true := by
    simp
    rcases Int.lt_or_eq_of_le hs with g | g
    · rw [cmpI_lt g]; decide
    · rw [g, cmpI_eq]; decide
  have HQ := Lib.hid hq
  have HS := Lib.hid hs
  clear hq hs
  go_enter Tryd.func45, Tryd.ntmps45
  go_wp2_with fail
  refine (bits_any h2).mono ?_
  rintro e w1 ⟨rfl, rfl⟩
  go_wp2_with fail
  refine (mul_any h2 h2 hl hl).mono ?_
  rintro e w1 ⟨B1, m1, d1, rfl, k1, b1, -⟩
  have h1' := h1.below b1
  go_wp2_with fail
  refine (cmp_v k1.nm h1').mono ?_
  rintro e w2 ⟨rfl, b2⟩
  have b12 := b1.trans (b2.mono b1.size)
  clear b1 b2 k1 h1'
  go_wp2
  go_ret2
  exact ⟨rfl, b12⟩
set_option maxHeartbeats 1000000 in
theorem cofactor_any (h1 : Nm w A1 n1 c1 P) (h2 : Nm w A2 n2 c2 Q) (hp : 3 ≤ P) (lp : dl P ≤ 64) (hl : dl Q ≤ 64) (hq : 2 ≤ Q) (hs : P < Q * Q) :
    Calls Tryd.prog 45 #[.slice A1 n1 c1, .slice A2 n2 c2] w (fun e w' => ((P - 1) % Q = 0 → Ans ((P - 1) / Q) w e w') ∧ ((P - 1) % Q ≠ 0 → Err1 7 w e w')) := by
  have t1 : decide ((nb Q : Int) < 2) = false := by have := nb_two h2.pos; simp; omega
  have t2 : decide (cmpI (Q * Q) P ≤ 0) = false := by simp; rw [cmpI_gt hs]; decide
  have lp1 : dl (P - 1) ≤ 64 := Nat.le_trans (dl_mono (by omega) (by omega)) lp
  have HQ := Lib.hid hq
  have HS := Lib.hid hs
  have HP := Lib.hid hp
  clear hq hs hp
  go_enter Tryd.func45, Tryd.ntmps45
  go_wp2_with fail
  refine (bits_any h2).mono ?_
  rintro e w1 ⟨rfl, rfl⟩
  go_wp2_with fail
  refine (mul_any h2 h2 hl hl).mono ?_
  rintro e w1 ⟨B1, m1, d1, rfl, k1, b1, -⟩
  have h1' := h1.below b1
  go_wp2_with fail
  refine (cmp_v k1.nm h1').mono ?_
  rintro e w2 ⟨rfl, b2⟩
  have b12 := b1.trans (b2.mono b1.size)
  have h12 := h1.below b12
  clear b1 b2 k1 h1'
  have L1 := Lib.hid (lit_one w2 1 (by decide) (by decide))
  go_wp2_with fail
  refine (sub_any (h12.below (below_al _ _)) L1.out lp (dl_small (by decide) (by decide)) (by have := HP.out; omega)).mono ?_
  rintro e w3 ⟨B3, m3, d3, rfl, k3, b3, -⟩
  have b23 := below_one b3
  have b13 := b12.trans (b23.mono b12.size)
  have h2' := h2.below b13
  clear b12 h12 b3 b23 L1
  go_wp2_with fail
  refine (div_any k3.nm h2' lp1 hl (by have := HQ.out; omega)).mono ?_
  rintro e w4 ⟨B4, m4, d4, B5, m5, d5, rfl, k4, k5, b4, n4, -⟩
  have b14 := b13.trans (b4.mono b13.size)
  have N4 : ∀ x, B4 = some x → w.heap.size ≤ x.block := fun x hx => Nat.le_trans b13.size (n4 x hx)
  have HN4 := Lib.hid N4
  have B14 := Lib.hid b14
  have r0 := k5.pos
  have nr := nb_pos r0
  clear b4 n4 b13 h2' k3 N4 b14
  go_wp2_with fail
  refine (bits_any k5.nm).mono ?_
  rintro e w5 ⟨rfl, rfl⟩
  have HK := Lib.hid k4
  clear k4 k5
  by_cases hz : (P - 1) % Q = 0
  · have t3 : ¬ 0 < nb ((P - 1) % Q) := by omega
    have HZ := Lib.hid hz
    clear hz nr r0
    go_wp2
    go_ret2
    exact ⟨fun _ => ⟨_, _, _, rfl, HK.out, B14.out, HN4.out⟩, fun h => absurd HZ.out h⟩
  · have t3 : 0 < nb ((P - 1) % Q) := by omega
    have HZ := Lib.hid hz
    clear hz nr r0
    go_wp2
    go_ret2
    exact ⟨fun h => absurd h HZ.out, fun _ => ⟨rfl, B14.out⟩⟩
end
end Go.Proofs.YtjalncdllegfoaaDoor
/-
  What checkWitness answers: whether A is a witness.
-/
namespace Go.Proofs.YtjalncdllegfoaaDoor
open Go.RowKit
set_option linter.unusedVariables false
/-- A struct of three slices in memory. -/
structure St3 (w : World) (b : Nat) (A1 : Option Addr) (n1 c1 : Nat) (A2 : Option Addr) (n2 c2 : Nat) (A3 : Option Addr) (n3 c3 : Nat) : Prop where
  lt : b < w.heap.size
  c0 : w.cell? ⟨b, 0, none⟩ = some (.slice A1 n1 c1)
  c1_ : w.cell? ⟨b, 1, none⟩ = some (.slice A2 n2 c2)
  c2_ : w.cell? ⟨b, 2, none⟩ = some (.slice A3 n3 c3)
section
variable {w w' : World} {b : Nat} {A1 A2 A3 : Option Addr} {n1 c1 n2 c2 n3 c3 : Nat}
theorem St3.below (h : St3 w b A1 n1 c1 A2 n2 c2 A3 n3 c3) (hb : Below w.heap.size w w') : St3 w' b A1 n1 c1 A2 n2 c2 A3 n3 c3 :=
  ⟨Nat.lt_of_lt_of_le h.lt hb.size, (hb.cell (p := ⟨b, 0, none⟩) h.lt).trans h.c0, (hb.cell (p := ⟨b, 1, none⟩) h.lt).trans h.c1_, (hb.cell (p := ⟨b, 2, none⟩) h.lt).trans h.c2_⟩
theorem St3.new (w : World) (A1 : Option Addr) (n1 c1 : Nat) (A2 : Option Addr) (n2 c2 : Nat) (A3 : Option Addr) (n3 c3 : Nat) :
    St3 (w.alloc (.cells #[.slice A1 n1 c1, .slice A2 n2 c2, .slice A3 n3 c3] 49)) w.heap.size A1 n1 c1 A2 n2 c2 A3 n3 c3 :=
  ⟨by simp, by simp [World.cell?_alloc_new], by simp [World.cell?_alloc_new], by simp [World.cell?_alloc_new]⟩
end
/-- What the witness says, with the power of A in the middle. -/
def Wt (P Q A K : Int) : Prop := 2 ≤ A ∧ A < P ∧ (A ^ K.toNat % P) ^ Q.toNat % P = 1 ∧ Int.gcd P ((A ^ K.toNat % P - 1) % P) = 1
/-- An error of one of the codes, or none. -/
def erv (c : Int) : Value := if c = 0 then .nilIface else .iface 43 (.int .i64 c)
section
variable {w : World} {b : Nat} {P : Int} {n : Nat} {A0 : Option Addr} {c0 : Nat} {low : Int} {B : Option Addr} {cB : Nat} {S : Option Addr} {cS : Nat}
variable {A1 A2 A3 A4 : Option Addr} {n1 c1 n2 c2 n3 c3 n4 c4 : Nat} {Q A K : Int}
set_option maxHeartbeats 1000000 in
theorem witness_less (md : Md w b P n A0 c0 low B cB S cS) (h3 : Nm w A3 n3 c3 A) (ha : A < 2) :
    Calls Tryd.prog 46 #[.pointer (some ⟨b, 0, none⟩), .agg #[.slice A1 n1 c1, .slice A2 n2 c2, .slice A3 n3 c3], .slice A4 n4 c4] w (AnsV (.iface 43 (.int .i64 7)) w) := by
  have t1 : decide ((nb A : Int) < 2) = true := by have := nb_two h3.pos; simp; omega
  have st := St3.new w A1 n1 c1 A2 n2 c2 A3 n3 c3
  have ba := below_al w (.cells #[.slice A1 n1 c1, .slice A2 n2 c2, .slice A3 n3 c3] 49)
  have h3' := h3.below ba
  have BA := Lib.hid ba
  clear ba
  go_enter Tryd.func46, Tryd.ntmps46
  go_wp2_with fail
  refine (bits_any h3').mono ?_
  rintro e w1 ⟨rfl, rfl⟩
  go_wp2
  go_ret
  exact ⟨rfl, BA.out⟩
set_option maxHeartbeats 1000000 in
theorem witness_great (md : Md w b P n A0 c0 low B cB S cS) (h1 : Nm w A1 n1 c1 P) (h3 : Nm w A3 n3 c3 A) (ha : 2 ≤ A) (hp : P ≤ A) :
    Calls Tryd.prog 46 #[.pointer (some ⟨b, 0, none⟩), .agg #[.slice A1 n1 c1, .slice A2 n2 c2, .slice A3 n3 c3], .slice A4 n4 c4] w (AnsV (.iface 43 (.int .i64 7)) w) := by
  have t1 : decide ((nb A : Int) < 2) = false := by have := nb_two h3.pos; simp; omega
  have t2 : decide (0 ≤ cmpI A P) = true := by
    simp
    rcases Int.lt_or_eq_of_le hp with g | g
    · rw [cmpI_gt g]; decide
    · rw [g, cmpI_eq]; decide
  have ba := below_al w (.cells #[.slice A1 n1 c1, .slice A2 n2 c2, .slice A3 n3 c3] 49)
  have h3' := h3.below ba
  have h1' := h1.below ba
  have BA := Lib.hid ba
  clear ba hp ha
  go_enter Tryd.func46, Tryd.ntmps46
  go_wp2_with fail
  refine (bits_any h3').mono ?_
  rintro e w1 ⟨rfl, rfl⟩
  go_wp2_with fail
  refine (cmp_v h3' h1').mono ?_
  rintro e w2 ⟨rfl, b2⟩
  have b12 := BA.out.trans (b2.mono BA.out.size)
  clear b2
  go_wp2
  go_ret
  exact ⟨rfl, b12⟩
set_option maxHeartbeats 2000000 in
theorem witness_mid (md : Md w b P n A0 c0 low B cB S cS) (h1 : Nm w A1 n1 c1 P) (h2 : Nm w A2 n2 c2 Q) (h3 : Nm w A3 n3 c3 A) (h4 : Nm w A4 n4 c4 K) (l2 : dl Q ≤ 64) (l3 : dl A ≤ 64) (l4 : dl K ≤ 64) (ha : 2 ≤ A) (hp : A < P) :
    Calls Tryd.prog 46 #[.pointer (some ⟨b, 0, none⟩), .agg #[.slice A1 n1 c1, .slice A2 n2 c2, .slice A3 n3 c3], .slice A4 n4 c4] w
      (fun e w' => (Wt P Q A K → AnsV .nilIface w e w') ∧ (¬ Wt P Q A K → AnsV (.iface 43 (.int .i64 7)) w e w')) := by
  have t1 : decide ((nb A : Int) < 2) = false := by have := nb_two h3.pos; simp; omega
  have t2 : decide (0 ≤ cmpI A P) = false := by simp; rw [cmpI_lt hp]; decide
  have st := St3.new w A1 n1 c1 A2 n2 c2 A3 n3 c3
  have ba := below_al w (.cells #[.slice A1 n1 c1, .slice A2 n2 c2, .slice A3 n3 c3] 49)
  have rx := md.rest (A ^ K.toNat)
  have h3' := h3.below ba
  have h1' := h1.below ba
  have BA := Lib.hid ba
  have HA := Lib.hid ha
  have HP := Lib.hid hp
  clear ba hp ha
  go_enter Tryd.func46, Tryd.ntmps46
  go_wp2_with fail
  refine (bits_any h3').mono ?_
  rintro e w1 ⟨rfl, rfl⟩
  go_wp2_with fail
  refine (cmp_v h3' h1').mono ?_
  rintro e w2 ⟨rfl, b2⟩
  have g2 := BA.out.trans (b2.mono BA.out.size)
  have st2 := st.below b2
  have q1 := st2.c1_
  have q2 := st2.c2_
  clear b2 st h3' h1' BA
  go_wp2_with fail
  refine (exp_any (md.below g2) (h3.below g2) (h4.below g2) l3 l4).mono ?_
  rintro e w3 ⟨B3, m3, d3, rfl, k3, b3, -⟩
  have st3 := st2.below b3
  have g3 := g2.trans (b3.mono g2.size)
  clear q1 q2 st2 g2 b3
  have q1 := st3.c1_
  go_wp2_with fail
  refine (exp_any (md.below g3) k3.nm (h2.below g3) rx.2.2.2 l2).mono ?_
  rintro e w4 ⟨B4, m4, d4, rfl, k4, b4, -⟩
  have st4 := st3.below b4
  have g4 := g3.trans (b4.mono g3.size)
  have k34 := k3.below b4
  clear q1 st3 g3 b4 k3
  have L1 := Lib.hid (lit_one w4 1 (by decide) (by decide))
  have k4' := k4.below (below_al w4 (.cells #[.int .u64 1] 45))
  by_cases hc : (A ^ K.toNat % P) ^ Q.toNat % P = 1
  · have t3 : ((cmpI ((A ^ K.toNat % P) ^ Q.toNat % P) 1 : Int) != 0) = false := by rw [hc, cmpI_eq]; rfl
    have HC := Lib.hid hc
    clear hc
    go_wp2_with fail
    refine (cmp_v k4'.nm L1.out).mono ?_
    rintro e w5 ⟨rfl, b5⟩
    have b45 := below_one b5
    have g5 := g4.trans (b45.mono g4.size)
    have k35 := k34.below b45
    clear b5 b45 g4 k4' L1 k34 st4 k4
    have L1 := Lib.hid (lit_one w5 1 (by decide) (by decide))
    have k36 := k35.below (below_al w5 (.cells #[.int .u64 1] 45))
    have md5 := (md.below g5).below (below_al w5 (.cells #[.int .u64 1] 45))
    have ry := md.rest (A ^ K.toNat % P - 1)
    go_wp2_with fail
    refine (msub_any md5 k36.nm L1.out rx.2.2.2 (dl_small (by decide) (by decide))).mono ?_
    rintro e w6 ⟨B6, m6, d6, rfl, k6, b6, -⟩
    have b56 := below_one b6
    have g6 := g5.trans (b56.mono g5.size)
    have md6 := md.below g6
    clear b6 b56 g5 k36 L1 k35 md5
    by_cases hg : Int.gcd P ((A ^ K.toNat % P - 1) % P % P) = 1
    · have HG := Lib.hid hg
      clear hg
      go_wp2_with fail
      refine (inverse_any md6 k6.nm ry.2.2.2 HG.out).mono ?_
      rintro e w7 ⟨U, -, -, -, B7, m7, d7, rfl, -, b7, -⟩
      have g7 := g6.trans (b7.mono g6.size)
      have G := Lib.hid g7
      clear g6 b7 md6 k6 g7 ry rx
      go_wp2
      go_ret
      refine ⟨fun _ => ⟨rfl, G.out⟩, fun hn => absurd ⟨HA.out, HP.out, HC.out, ?_⟩ hn⟩
      have := HG.out
      rwa [Int.emod_emod_of_dvd _ (Int.dvd_refl P)] at this
    · have HG := Lib.hid hg
      clear hg
      go_wp2_with fail
      refine (inverse_none md6 k6.nm ry.2.2.2 HG.out).mono ?_
      rintro e w7 ⟨rfl, b7⟩
      have g7 := g6.trans (b7.mono g6.size)
      have G := Lib.hid g7
      clear g6 b7 md6 k6 g7 ry rx
      go_wp2
      go_ret
      refine ⟨fun hw => absurd ?_ HG.out, fun _ => ⟨rfl, G.out⟩⟩
      rw [Int.emod_emod_of_dvd _ (Int.dvd_refl P)]
      exact hw.2.2.2
  · have t3 : ((cmpI ((A ^ K.toNat % P) ^ Q.toNat % P) 1 : Int) != 0) = true := by
      simp
      rcases Int.lt_or_gt_of_ne hc with g | g
      · rw [cmpI_lt g]; decide
      · rw [cmpI_gt g]; decide
    have HC := Lib.hid hc
    clear hc
    go_wp2_with fail
    refine (cmp_v k4'.nm L1.out).mono ?_
    rintro e w5 ⟨rfl, b5⟩
    have b45 := below_one b5
    have g5 := g4.trans (b45.mono g4.size)
    have G := Lib.hid g5
    clear b5 b45 g4 k4' L1 k34 st4 k4 g5 rx
    go_wp2
    go_ret
    exact ⟨fun hw => absurd hw.2.2.1 HC.out, fun _ => ⟨rfl, G.out⟩⟩
end
end Go.Proofs.YtjalncdllegfoaaDoor
/-
  What Small answers, the program's and the document's; smallNumber; tooLong.
-/
namespace Go.Proofs.YtjalncdllegfoaaDoor
open Go.RowKit
set_option linter.unusedVariables false
open Classical in
/-- Whether a number is a small prime. -/
noncomputable def sm (n : Int) : Bool := decide (Sm n)
theorem sm_yes {n : Int} (h : Sm n) : sm n = true := by unfold sm; simp [h]
theorem sm_no {n : Int} (h : ¬ Sm n) : sm n = false := by unfold sm; simp [h]
/-- No number from 2 on below d, or whose square is at most n, divides n. -/
def SmR (n : Int) (t : Value) : Prop := ∃ d : Int, t = .int .u64 d ∧ 2 ≤ d ∧ d ≤ n + 2 ∧ ∀ k, 2 ≤ k → k < d → n % k ≠ 0
theorem mul_bd {d n : Int} (h0 : 0 ≤ d) (h : d ≤ n + 2) (hn : n < 65536) : 0 ≤ d * d ∧ d * d ≤ 4300000000 := by
  have h1 := Int.mul_nonneg h0 h0
  have h2 := Int.mul_le_mul (show d ≤ 65537 by omega) (show d ≤ 65537 by omega) h0 (by omega)
  omega
theorem root_lt {d n : Int} (h2 : 2 ≤ d) (h : d * d ≤ n) : d < n := by
  have := Int.mul_le_mul_of_nonneg_right h2 (show 0 ≤ d by omega)
  omega
set_option maxHeartbeats 1000000 in
theorem small_any (n : Int) (w : World) (h0 : 0 ≤ n) (h1 : n < 18446744073709551616) :
    Calls Tryd.prog 73 #[.int .u64 n] w fun e w' => e = .returned (.bool (sm n)) ∧ w = w' := by
  by_cases h2 : n < 2
  · have hs : sm n = false := sm_no fun h => by have := h.2.1; omega
    go_enter Tryd.func73, Tryd.ntmps73
    go_wp2
    go_ret
    exact ⟨by first | rfl | (rw [hs]; rfl), rfl⟩
  · by_cases h3 : n < 65536
    · go_enter Tryd.func73, Tryd.ntmps73
      go_wp2_with fail
      go_loop [3] (fun t => SmR n t) (fun t => (n + 3 - intOf t).toNat)
      case atStart => exact ⟨2, rfl, by omega, by omega, fun k a b => by omega⟩
      case round =>
        obtain ⟨d, rfl, d2, dn, hd⟩ := hrel
        have HD := Lib.hid hd
        clear hd
        obtain ⟨m0, m1⟩ := mul_bd (show 0 ≤ d by omega) dn h3
        have hw : IntKind.u64.wrap (d * d) = d * d := IntWalk.u64_in _ (by omega)
        by_cases hl : d * d ≤ n
        · have hr := root_lt d2 hl
          have hw1 : IntKind.u64.wrap (d + 1) = d + 1 := IntWalk.u64_in _ (by omega)
          by_cases hz : n % d = 0
          · have hs : sm n = false := sm_no fun h => h.2.2 d d2 hr hz
            go_wp2
            go_ret
            exact ⟨by first | rfl | (rw [hs]; rfl), rfl⟩
          · go_wp2
            exact ⟨⟨d + 1, rfl, by omega, by omega, fun k a b => by
              rcases Int.lt_or_eq_of_le (show k ≤ d by omega) with g | g
              · exact HD.out k a g
              · rw [g]; exact hz⟩, by simp [intOf]; omega⟩
        · have hs : sm n = true := sm_yes ⟨h3, pr_of_root (by omega) fun k k2 kk => HD.out k k2 (by
            rcases Int.lt_or_le k d with g | g
            · exact g
            · have a := Int.mul_le_mul_of_nonneg_right g (show 0 ≤ d by omega)
              have b := Int.mul_le_mul_of_nonneg_left g (show 0 ≤ k by omega)
              omega)⟩
          go_wp2
          go_ret
          exact ⟨by first | rfl | (rw [hs]; rfl), rfl⟩
    · have hs : sm n = false := sm_no fun h => h3 h.1
      go_enter Tryd.func73, Tryd.ntmps73
      go_wp2
      go_ret
      exact ⟨by first | rfl | (rw [hs]; rfl), rfl⟩
theorem tooLong_any {A : Option Addr} {n c : Nat} {N : Int} {w : World} (h : Nm w A n c N) :
    Calls Tryd.prog 44 #[.slice A n c] w fun e w' => e = .returned (.bool (decide (64 < dl N))) ∧ w = w' := by
  have hb : decide ((4096 : Int) < (nb N : Int)) = decide (64 < dl N) := by
    have := nb_dl h.pos 64
    apply decide_eq_decide.2
    omega
  go_enter Tryd.func44, Tryd.ntmps44
  go_wp2_with fail
  refine (bits_any h).mono ?_
  rintro e w1 ⟨rfl, rfl⟩
  go_wp2
  go_ret
  exact ⟨by rw [← hb]; rfl, rfl⟩
end Go.Proofs.YtjalncdllegfoaaDoor
/-
  What checkStep answers: what is amiss with a step on its own, or nothing.
-/
namespace Go.Proofs.YtjalncdllegfoaaDoor
open Go.RowKit
set_option linter.unusedVariables false
theorem erv_zero : erv 0 = .nilIface := if_pos rfl
theorem erv_code {c : Int} (h : c ≠ 0) : erv c = .iface 43 (.int .i64 c) := if_neg h
theorem pLong_yes {A : Option Addr} {n c : Nat} {N : Int} {w : World} (h : Nm w A n c N) (hl : 64 < dl N) :
    Calls Tryd.prog 44 #[.slice A n c] w fun e w' => e = .returned (.bool true) ∧ w = w' :=
  (tooLong_any h).mono fun e w' ⟨he, hw⟩ => ⟨by rw [he, decide_eq_true hl], hw⟩
theorem pLong_no {A : Option Addr} {n c : Nat} {N : Int} {w : World} (h : Nm w A n c N) (hl : dl N ≤ 64) :
    Calls Tryd.prog 44 #[.slice A n c] w fun e w' => e = .returned (.bool false) ∧ w = w' :=
  (tooLong_any h).mono fun e w' ⟨he, hw⟩ => ⟨by rw [he, decide_eq_false (by omega)], hw⟩
theorem wit_iff {P Q A : Int} (hP : 3 ≤ P) (hc : Cof P Q) : Wit P Q A ↔ Wt P Q A ((P - 1) / Q) := by
  obtain ⟨q2, sq, hd⟩ := hc
  have e := toNat_mul_div (show 1 ≤ P by omega) q2 hd
  obtain ⟨k, hk⟩ : ∃ k : Nat, ((P - 1) / Q).toNat = k := ⟨_, rfl⟩
  have e2 : (P - 1).toNat = k * Q.toNat := by
    rw [hk] at e
    have : ((k * Q.toNat : Nat) : Int) = P - 1 := by
      rw [e, Int.natCast_mul, Int.toNat_of_nonneg (by omega), Int.mul_comm]
    omega
  have p1 : (A ^ k % P) ^ Q.toNat % P = A ^ (P - 1).toNat % P := by
    rw [e2, Int.pow_mul]
    exact Eqm.iff.1 ((Eqm.mod P (A ^ k)).pow Q.toNat)
  have p2 : (A ^ k % P - 1) % P = (A ^ k - 1) % P := Eqm.iff.1 ((Eqm.mod P (A ^ k)).sub (Eqm.refl P 1))
  unfold Wit Wt
  rw [hk, p1, p2]
  exact ⟨fun h => h.2.2.2, fun h => ⟨q2, sq, hd, h⟩⟩
section
variable {w : World} {A1 A2 A3 : Option Addr} {n1 c1 n2 c2 n3 c3 : Nat} {P Q A : Int}
set_option maxHeartbeats 1000000 in
theorem step_long (h1 : Nm w A1 n1 c1 P) (h2 : Nm w A2 n2 c2 Q) (h3 : Nm w A3 n3 c3 A) (hl : Lg P Q A) :
    Calls Tryd.prog 26 #[.agg #[.slice A1 n1 c1, .slice A2 n2 c2, .slice A3 n3 c3]] w (AnsV (.iface 43 (.int .i64 2)) w) := by
  have ba := below_al w (.cells #[.slice A1 n1 c1, .slice A2 n2 c2, .slice A3 n3 c3] 49)
  have k1 := h1.below ba
  have k2 := h2.below ba
  have k3 := h3.below ba
  have BA := Lib.hid ba
  clear ba
  rcases Nat.lt_or_ge 64 (dl Q) with g2 | g2
  · go_enter Tryd.func26, Tryd.ntmps26
    go_wp2_with fail
    refine (pLong_yes k2 g2).mono ?_
    rintro e w1 ⟨rfl, rfl⟩
    go_wp2
    go_ret
    exact ⟨rfl, BA.out⟩
  · rcases Nat.lt_or_ge 64 (dl A) with g3 | g3
    · go_enter Tryd.func26, Tryd.ntmps26
      go_wp2_with fail
      refine (pLong_no k2 g2).mono ?_
      rintro e w1 ⟨rfl, rfl⟩
      go_wp2_with fail
      refine (pLong_yes k3 g3).mono ?_
      rintro e w1 ⟨rfl, rfl⟩
      go_wp2
      go_ret
      exact ⟨rfl, BA.out⟩
    · have g1 : 32 < dl P := by rcases hl with g | g | g <;> omega
      go_enter Tryd.func26, Tryd.ntmps26
      go_wp2_with fail
      refine (pLong_no k2 g2).mono ?_
      rintro e w1 ⟨rfl, rfl⟩
      go_wp2_with fail
      refine (pLong_no k3 g3).mono ?_
      rintro e w1 ⟨rfl, rfl⟩
      go_wp2_with fail
      refine (new_long k1 g1).mono ?_
      rintro e w1 ⟨rfl, b1⟩
      have b01 := BA.out.trans (b1.mono BA.out.size)
      clear b1
      go_wp2
      go_ret
      exact ⟨rfl, b01⟩
set_option maxHeartbeats 1000000 in
theorem step_even (h1 : Nm w A1 n1 c1 P) (h2 : Nm w A2 n2 c2 Q) (h3 : Nm w A3 n3 c3 A) (hl : ¬ Lg P Q A) (he : Ev P) :
    Calls Tryd.prog 26 #[.agg #[.slice A1 n1 c1, .slice A2 n2 c2, .slice A3 n3 c3]] w (AnsV (.iface 43 (.int .i64 5)) w) := by
  have ba := below_al w (.cells #[.slice A1 n1 c1, .slice A2 n2 c2, .slice A3 n3 c3] 49)
  have k1 := h1.below ba
  have k2 := h2.below ba
  have k3 := h3.below ba
  have BA := Lib.hid ba
  have g1 : dl P ≤ 32 := Nat.not_lt.1 fun g => hl (.inl g)
  have g2 : dl Q ≤ 64 := Nat.not_lt.1 fun g => hl (.inr (.inl g))
  have g3 : dl A ≤ 64 := Nat.not_lt.1 fun g => hl (.inr (.inr g))
  have HE := Lib.hid he
  clear ba hl he
  go_enter Tryd.func26, Tryd.ntmps26
  go_wp2_with fail
  refine (pLong_no k2 g2).mono ?_
  rintro e w1 ⟨rfl, rfl⟩
  go_wp2_with fail
  refine (pLong_no k3 g3).mono ?_
  rintro e w1 ⟨rfl, rfl⟩
  go_wp2_with fail
  refine (new_even k1 g1 HE.out).mono ?_
  rintro e w1 ⟨rfl, b1⟩
  have b01 := BA.out.trans (b1.mono BA.out.size)
  clear b1
  go_wp2
  go_ret
  exact ⟨rfl, b01⟩
set_option maxHeartbeats 2000000 in
theorem step_rest (h1 : Nm w A1 n1 c1 P) (h2 : Nm w A2 n2 c2 Q) (h3 : Nm w A3 n3 c3 A) (hl : ¬ Lg P Q A) (he : ¬ Ev P) :
    Calls Tryd.prog 26 #[.agg #[.slice A1 n1 c1, .slice A2 n2 c2, .slice A3 n3 c3]] w (AnsV (erv (sc P Q A)) w) := by
  have ba := below_al w (.cells #[.slice A1 n1 c1, .slice A2 n2 c2, .slice A3 n3 c3] 49)
  have st := St3.new w A1 n1 c1 A2 n2 c2 A3 n3 c3
  have k1 := h1.below ba
  have k2 := h2.below ba
  have k3 := h3.below ba
  have BA := Lib.hid ba
  have g1 : dl P ≤ 32 := Nat.not_lt.1 fun g => hl (.inl g)
  have g2 : dl Q ≤ 64 := Nat.not_lt.1 fun g => hl (.inr (.inl g))
  have g3 : dl A ≤ 64 := Nat.not_lt.1 fun g => hl (.inr (.inr g))
  have hP : 3 ≤ P := Int.not_lt.1 fun g => he (.inr g)
  have odd : P % 2 = 1 := by rcases Int.emod_two_eq P with g | g; exact absurd (Or.inl g) he; exact g
  have HL := Lib.hid hl
  have HE := Lib.hid he
  have HO := Lib.hid odd
  have H3 := Lib.hid hP
  have lp1 : dl (P - 1) ≤ 64 := Nat.le_trans (dl_mono (by omega) (by omega)) (Nat.le_trans g1 (by omega))
  clear ba hl he odd hP
  go_enter Tryd.func26, Tryd.ntmps26
  go_wp2_with fail
  refine (pLong_no k2 g2).mono ?_
  rintro e w1 ⟨rfl, rfl⟩
  go_wp2_with fail
  refine (pLong_no k3 g3).mono ?_
  rintro e w1 ⟨rfl, rfl⟩
  go_wp2_with fail
  refine (new_any k1 g1 HO.out H3.out).mono ?_
  rintro e w1 ⟨b, A0, c0, low, B, cB, S, cS, rfl, md, b1, -, -, -, -⟩
  have b01 := BA.out.trans (b1.mono BA.out.size)
  have st1 := st.below b1
  have m1 := h1.below b01
  have m2 := h2.below b01
  have q0 := st1.c0
  have q1 := st1.c1_
  have B01 := Lib.hid b01
  clear b1 b01 st k1 k2 k3 BA
  rcases Int.lt_or_le Q 2 with d2 | d2
  · have HS := Lib.hid (sc_bad HL.out HE.out fun h : Wit P Q A => by have := h.1; omega)
    have D2 := Lib.hid d2
    clear d2
    go_wp2_with fail
    refine (cofactor_less m1 m2 D2.out).mono ?_
    rintro e w2 ⟨rfl, b2⟩
    have b02 := B01.out.trans (b2.mono B01.out.size)
    clear b2 q0 q1 st1 md
    go_wp2
    go_ret
    exact ⟨by rw [HS.out]; rfl, b02⟩
  · have D2 := Lib.hid d2
    clear d2
    rcases Int.lt_or_le P (Q * Q) with d3 | d3
    · have D3 := Lib.hid d3
      clear d3
      go_wp2_with fail
      refine (cofactor_any m1 m2 H3.out (by omega) g2 D2.out D3.out).mono ?_
      rintro e w2 ⟨hy, hn⟩
      by_cases hz : (P - 1) % Q = 0
      · obtain ⟨B2, m2', d2', rfl, k2, b2, -⟩ := hy hz
        have hC : Cof P Q := ⟨D2.out, D3.out, hz⟩
        have HI := Lib.hid (wit_iff (A := A) H3.out hC)
        have b02 := B01.out.trans (b2.mono B01.out.size)
        have st2 := st1.below b2
        have r0 := st2.c0
        have r1 := st2.c1_
        have r2 := st2.c2_
        have md2 := md.below b2
        have HK : (P - 1) / Q ≤ P - 1 := Int.ediv_le_self _ (by have := H3.out; omega)
        have lk : dl ((P - 1) / Q) ≤ 64 := Nat.le_trans (dl_mono k2.pos HK) lp1
        have n1' := h1.below b02
        have n2' := h2.below b02
        have n3' := h3.below b02
        have K2 := Lib.hid k2
        have B02 := Lib.hid b02
        clear hy hn hz hC HK b2 q0 q1 st1 m1 m2 md b02 k2
        rcases Int.lt_or_le A 2 with d4 | d4
        · have HS := Lib.hid (sc_bad HL.out HE.out fun h : Wit P Q A => by have := h.2.2.2.1; omega)
          have D4 := Lib.hid d4
          clear d4
          go_wp2_with fail
          refine (witness_less md2 n3' D4.out).mono ?_
          rintro e w3 ⟨rfl, b3⟩
          have b03 := B02.out.trans (b3.mono B02.out.size)
          clear b3 r0 r1 r2 st2 md2 n1' n2' n3'
          go_wp2
          go_ret
          exact ⟨by rw [HS.out]; rfl, b03⟩
        · have D4 := Lib.hid d4
          clear d4
          rcases Int.lt_or_le A P with d5 | d5
          · have D5 := Lib.hid d5
            clear d5
            go_wp2_with fail
            refine (witness_mid md2 n1' n2' n3' K2.out.nm g2 g3 lk D4.out D5.out).mono ?_
            rintro e w3 ⟨hy, hn⟩
            by_cases hw : Wt P Q A ((P - 1) / Q)
            · obtain ⟨rfl, b3⟩ := hy hw
              have HS := Lib.hid (sc_good HL.out HE.out (HI.out.2 hw))
              have b03 := B02.out.trans (b3.mono B02.out.size)
              clear b3 r0 r1 r2 st2 md2 n1' n2' n3' hy hn hw
              go_wp2
              go_ret
              exact ⟨by rw [HS.out]; rfl, b03⟩
            · obtain ⟨rfl, b3⟩ := hn hw
              have HS := Lib.hid (sc_bad HL.out HE.out fun h => hw (HI.out.1 h))
              have b03 := B02.out.trans (b3.mono B02.out.size)
              clear b3 r0 r1 r2 st2 md2 n1' n2' n3' hy hn hw
              go_wp2
              go_ret
              exact ⟨by rw [HS.out]; rfl, b03⟩
          · have HS := Lib.hid (sc_bad HL.out HE.out fun h : Wit P Q A => by have := h.2.2.2.2.1; omega)
            have D5 := Lib.hid d5
            clear d5
            go_wp2_with fail
            refine (witness_great md2 n1' n3' D4.out D5.out).mono ?_
            rintro e w3 ⟨rfl, b3⟩
            have b03 := B02.out.trans (b3.mono B02.out.size)
            clear b3 r0 r1 r2 st2 md2 n1' n2' n3'
            go_wp2
            go_ret
            exact ⟨by rw [HS.out]; rfl, b03⟩
      · obtain ⟨rfl, b2⟩ := hn hz
        have HS := Lib.hid (sc_bad HL.out HE.out fun h : Wit P Q A => hz h.2.2.1)
        have b02 := B01.out.trans (b2.mono B01.out.size)
        clear b2 q0 q1 st1 md hz hy hn
        go_wp2
        go_ret
        exact ⟨by rw [HS.out]; rfl, b02⟩
    · have HS := Lib.hid (sc_bad HL.out HE.out fun h : Wit P Q A => by have := h.2.1; omega)
      have D3 := Lib.hid d3
      clear d3
      go_wp2_with fail
      refine (cofactor_small m1 m2 g2 D2.out D3.out).mono ?_
      rintro e w2 ⟨rfl, b2⟩
      have b02 := B01.out.trans (b2.mono B01.out.size)
      clear b2 q0 q1 st1 md
      go_wp2
      go_ret
      exact ⟨by rw [HS.out]; rfl, b02⟩
/-- What checkStep answers. -/
theorem step_any (h1 : Nm w A1 n1 c1 P) (h2 : Nm w A2 n2 c2 Q) (h3 : Nm w A3 n3 c3 A) :
    Calls Tryd.prog 26 #[.agg #[.slice A1 n1 c1, .slice A2 n2 c2, .slice A3 n3 c3]] w (AnsV (erv (sc P Q A)) w) := by
  by_cases hl : Lg P Q A
  · rw [sc_long hl, erv_code (by decide)]; exact step_long h1 h2 h3 hl
  · by_cases he : Ev P
    · rw [sc_even hl he, erv_code (by decide)]; exact step_even h1 h2 h3 hl he
    · exact step_rest h1 h2 h3 hl he
end
end Go.Proofs.YtjalncdllegfoaaDoor
/-
  What smallNumber and checkNext answer.
-/
namespace Go.Proofs.YtjalncdllegfoaaDoor
open Go.RowKit
set_option linter.unusedVariables false
theorem dl_not_one {Q : Int} (h0 : 0 ≤ Q) (h : ¬ (1 ≤ Q ∧ Q < W)) : dl Q ≠ 1 := by
  intro e
  have a := (dl_iff h0 1).1 (by omega)
  have b := (dl_zero h0)
  refine h ⟨?_, by simpa [Int.pow_succ] using a⟩
  rcases Int.lt_or_eq_of_le h0 with g | g
  · omega
  · have := b.2 g.symm; omega
set_option maxHeartbeats 1000000 in
theorem smallNumber_any {w : World} {A2 : Option Addr} {n2 c2 : Nat} {Q : Int} (h2 : Nm w A2 n2 c2 Q) :
    Calls Tryd.prog 47 #[.slice A2 n2 c2] w (AnsV (.bool (sm Q)) w) := by
  have q0 := h2.pos
  by_cases hq : 1 ≤ Q ∧ Q < W
  · obtain ⟨hq1, hq2⟩ := hq
    go_enter Tryd.func47, Tryd.ntmps47
    go_wp2_with fail
    refine (norm_any h2).mono ?_
    rintro e w1 ⟨B1, m1, d1, rfl, k1, b1, -⟩
    obtain ⟨rfl, bb, oo, rfl, hb, hc⟩ := cn_one k1 hq1 hq2
    clear k1
    go_wp2_with fail
    refine (small_any Q w1 q0 hq2).mono ?_
    rintro e w2 ⟨rfl, rfl⟩
    go_wp2
    go_ret
    exact ⟨rfl, b1⟩
  · have hw : (65536 : Int) < W := by decide
    have hs : sm Q = false := sm_no fun h => hq ⟨by have := h.2.1; omega, by have := h.1; omega⟩
    clear hw
    have hd := dl_not_one q0 hq
    clear hq
    go_enter Tryd.func47, Tryd.ntmps47
    go_wp2_with fail
    refine (norm_any h2).mono ?_
    rintro e w1 ⟨B1, m1, d1, rfl, k1, b1, -⟩
    have hm : m1 ≠ 1 := by rw [k1.len_]; exact hd
    have t1 : ((m1 : Int) == 1) = false := by simp; omega
    have t2 : (m1 == 1) = false := by simp; omega
    clear k1 hd
    go_wp2
    go_ret
    exact ⟨by rw [hs]; rfl, b1⟩
theorem smallNumber_yes {w : World} {A2 : Option Addr} {n2 c2 : Nat} {Q : Int} (h2 : Nm w A2 n2 c2 Q) (h : Sm Q) :
    Calls Tryd.prog 47 #[.slice A2 n2 c2] w (AnsV (.bool true) w) := by
  have := smallNumber_any h2
  rwa [sm_yes h] at this
theorem smallNumber_no {w : World} {A2 : Option Addr} {n2 c2 : Nat} {Q : Int} (h2 : Nm w A2 n2 c2 Q) (h : ¬ Sm Q) :
    Calls Tryd.prog 47 #[.slice A2 n2 c2] w (AnsV (.bool false) w) := by
  have := smallNumber_any h2
  rwa [sm_no h] at this
theorem next_last_yes {w : World} {A2 R : Option Addr} {n2 c2 cr : Nat} {Q : Int} (h2 : Nm w A2 n2 c2 Q) (h : Sm Q) :
    Calls Tryd.prog 27 #[.slice A2 n2 c2, .slice R 0 cr] w (AnsV .nilIface w) := by
  go_enter Tryd.func27, Tryd.ntmps27
  go_wp2_with fail
  refine (smallNumber_yes h2 h).mono ?_
  rintro e w1 ⟨rfl, b1⟩
  go_wp2
  go_ret
  exact ⟨rfl, b1⟩
theorem next_last_no {w : World} {A2 R : Option Addr} {n2 c2 cr : Nat} {Q : Int} (h2 : Nm w A2 n2 c2 Q) (h : ¬ Sm Q) :
    Calls Tryd.prog 27 #[.slice A2 n2 c2, .slice R 0 cr] w (AnsV (.iface 43 (.int .i64 7)) w) := by
  go_enter Tryd.func27, Tryd.ntmps27
  go_wp2_with fail
  refine (smallNumber_no h2 h).mono ?_
  rintro e w1 ⟨rfl, b1⟩
  go_wp2
  go_ret
  exact ⟨rfl, b1⟩
section
variable {w : World} {A2 A1 : Option Addr} {n2 c2 n1 c1 nr cr b off : Nat} {Q P : Int}
set_option maxHeartbeats 1000000 in
theorem next_more_yes (h2 : Nm w A2 n2 c2 Q) (h1 : Nm w A1 n1 c1 P) (hn : 0 < nr) (hc : w.cell? ⟨b, off, none⟩ = some (.slice A1 n1 c1)) (hq : Q = P) :
    Calls Tryd.prog 27 #[.slice A2 n2 c2, .slice (some ⟨b, off, none⟩) nr cr] w (AnsV .nilIface w) := by
  have t1 : ((cmpI Q P : Int) != 0) = false := by rw [hq, cmpI_eq]; rfl
  clear hq
  go_enter Tryd.func27, Tryd.ntmps27
  go_wp2_with fail
  refine (cmp_v h2 h1).mono ?_
  rintro e w1 ⟨rfl, b1⟩
  go_wp2
  go_ret
  exact ⟨rfl, b1⟩
set_option maxHeartbeats 1000000 in
theorem next_more_no (h2 : Nm w A2 n2 c2 Q) (h1 : Nm w A1 n1 c1 P) (hn : 0 < nr) (hc : w.cell? ⟨b, off, none⟩ = some (.slice A1 n1 c1)) (hq : Q ≠ P) :
    Calls Tryd.prog 27 #[.slice A2 n2 c2, .slice (some ⟨b, off, none⟩) nr cr] w (AnsV (.iface 43 (.int .i64 7)) w) := by
  have t1 : ((cmpI Q P : Int) != 0) = true := by
    simp
    rcases Int.lt_or_gt_of_ne hq with g | g
    · rw [cmpI_lt g]; decide
    · rw [cmpI_gt g]; decide
  clear hq
  go_enter Tryd.func27, Tryd.ntmps27
  go_wp2_with fail
  refine (cmp_v h2 h1).mono ?_
  rintro e w1 ⟨rfl, b1⟩
  go_wp2
  go_ret
  exact ⟨rfl, b1⟩
end
end Go.Proofs.YtjalncdllegfoaaDoor
/-
  A Spot in memory.
-/
namespace Go.Proofs.YtjalncdllegfoaaDoor
open Go.RowKit
set_option linter.unusedVariables false
/-- A Spot in memory. -/
structure Sp (w : World) (b : Nat) (a c : Int) : Prop where
  lt : b < w.heap.size
  c0 : w.cell? ⟨b, 0, none⟩ = some (.int .u64 a)
  c1 : w.cell? ⟨b, 1, none⟩ = some (.iface 43 (.int .i64 c))
theorem Sp.below {w w' : World} {b : Nat} {a c : Int} (h : Sp w b a c) (hb : Below w.heap.size w w') : Sp w' b a c :=
  ⟨Nat.lt_of_lt_of_le h.lt hb.size, (hb.cell (p := ⟨b, 0, none⟩) h.lt).trans h.c0, (hb.cell (p := ⟨b, 1, none⟩) h.lt).trans h.c1⟩
end Go.Proofs.YtjalncdllegfoaaDoor
/-
  What Check answers: the first step at fault, as a Spot; or the number that is proved.
-/
namespace Go.Proofs.YtjalncdllegfoaaDoor
open Go.RowKit
set_option linter.unusedVariables false
/-- A step as a chain has it: three slices and their numbers. -/
structure Stp where
  A1 : Option Addr
  n1 : Nat
  c1 : Nat
  A2 : Option Addr
  n2 : Nat
  c2 : Nat
  A3 : Option Addr
  n3 : Nat
  c3 : Nat
  P : Int
  Q : Int
  A : Int
/-- A step's numbers, in memory. -/
structure Stp.At (w : World) (s : Stp) : Prop where
  p : Nm w s.A1 s.n1 s.c1 s.P
  q : Nm w s.A2 s.n2 s.c2 s.Q
  a : Nm w s.A3 s.n3 s.c3 s.A
theorem Stp.At.below {w w' : World} {s : Stp} (h : s.At w) (hb : Below w.heap.size w w') : s.At w' := ⟨h.p.below hb, h.q.below hb, h.a.below hb⟩
/-- The three cells of step i behind ⟨b, off⟩. -/
structure Cells (w : World) (b off : Nat) (s : Stp) : Prop where
  c0 : w.cell? ⟨b, off, none⟩ = some (.slice s.A1 s.n1 s.c1)
  c1 : w.cell? ⟨b, off + 1, none⟩ = some (.slice s.A2 s.n2 s.c2)
  c2 : w.cell? ⟨b, off + 2, none⟩ = some (.slice s.A3 s.n3 s.c3)
/-- A chain of steps in memory. -/
structure Ch (w : World) (a : Option Addr) (n c : Nat) (S : Nat → Stp) : Prop where
  nc : n ≤ c
  c60 : n ≤ 17592186044416
  ex : 0 < n → ∃ b off, a = some ⟨b, off, none⟩ ∧ b < w.heap.size ∧ ∀ i, i < n → Cells w b (off + i * 3) (S i)
  at_ : ∀ i, i < n → (S i).At w
theorem Ch.below {w w' : World} {a : Option Addr} {n c : Nat} {S : Nat → Stp} (h : Ch w a n c S) (hb : Below w.heap.size w w') : Ch w' a n c S :=
  ⟨h.nc, h.c60, fun hn => by
    obtain ⟨b, off, e, hl, hc⟩ := h.ex hn
    exact ⟨b, off, e, Nat.lt_of_lt_of_le hl hb.size, fun i hi => ⟨(hb.cell (p := ⟨b, _, none⟩) hl).trans (hc i hi).c0, (hb.cell (p := ⟨b, _, none⟩) hl).trans (hc i hi).c1, (hb.cell (p := ⟨b, _, none⟩) hl).trans (hc i hi).c2⟩⟩, fun i hi => (h.at_ i hi).below hb⟩
/-- What is amiss with step i of a chain. -/
noncomputable def bdS (S : Nat → Stp) (n i : Nat) : Int := bd (fun j => (S j).P) (fun j => (S j).Q) (fun j => (S j).A) n i
noncomputable def scS (s : Stp) : Int := sc s.P s.Q s.A
/-- A Spot was answered. -/
def SpotP (k : Nat) (c : Int) (w : World) (e : Ending) (w' : World) : Prop :=
  ∃ b, e = .returned (.tuple #[.slice none 0 0, .iface 70 (.pointer (some ⟨b, 0, none⟩))]) ∧ Sp w' b k c ∧ Below w.heap.size w w'
theorem step_good {w : World} {s : Stp} (h : s.At w) (hs : scS s = 0) :
    Calls Tryd.prog 26 #[.agg #[.slice s.A1 s.n1 s.c1, .slice s.A2 s.n2 s.c2, .slice s.A3 s.n3 s.c3]] w (AnsV .nilIface w) := by
  have := step_any h.p h.q h.a
  rw [show sc s.P s.Q s.A = 0 from hs, erv_zero] at this
  exact this
theorem step_code {w : World} {s : Stp} {c : Int} (h : s.At w) (hs : scS s = c) (hc : c ≠ 0) :
    Calls Tryd.prog 26 #[.agg #[.slice s.A1 s.n1 s.c1, .slice s.A2 s.n2 s.c2, .slice s.A3 s.n3 s.c3]] w (AnsV (.iface 43 (.int .i64 c)) w) := by
  have := step_any h.p h.q h.a
  rw [show sc s.P s.Q s.A = c from hs, erv_code hc] at this
  exact this
def ChkR (S : Nat → Stp) (n : Nat) (w : World) (i : Value) (wr : World) : Prop := ∃ k : Nat, k ≤ n ∧ i = .int .i64 k ∧ (∀ j, j < k → bdS S n j = 0) ∧ Below w.heap.size w wr
/-- What Check answers of a chain of 1 to 64 steps. -/
def ChkP (S : Nat → Stp) (n : Nat) (w : World) (e : Ending) (w' : World) : Prop :=
  ((∀ i, i < n → bdS S n i = 0) ∧ Ans (S 0).P w e w') ∨ ∃ k c, k < n ∧ (∀ j, j < k → bdS S n j = 0) ∧ bdS S n k = c ∧ c ≠ 0 ∧ SpotP k c w e w'
theorem chk_arg {w : World} {a : Option Addr} {n c : Nat} (hn : n = 0 ∨ 64 < n) (h1 : n ≤ 9223372036854775807) :
    Calls Tryd.prog 10 #[.slice a n c] w (Err1 1 w) := by
  rcases hn with rfl | hn
  · go_enter Tryd.func10, Tryd.ntmps10
    go_wp2
    go_ret2
    exact ⟨rfl, Below.refl _ _⟩
  · have t1 : ((n : Int) == 0) = false := by simp; omega
    have t2 : (n == 0) = false := by simp; omega
    have t3 : decide ((64 : Int) < (n : Int)) = true := by simp; omega
    go_enter Tryd.func10, Tryd.ntmps10
    go_wp2
    go_ret2
    exact ⟨rfl, Below.refl _ _⟩
set_option maxHeartbeats 4000000 in
theorem chk_any {w : World} {b off n c : Nat} {S : Nat → Stp} (h : Ch w (some ⟨b, off, none⟩) n c S) (h1 : 1 ≤ n) (h2 : n ≤ 64) :
    Calls Tryd.prog 10 #[.slice (some ⟨b, off, none⟩) n c] w (ChkP S n w) := by
  have t1 : ((n : Int) == 0) = false := by simp; omega
  have t2 : (n == 0) = false := by simp; omega
  have hnc := h.nc
  obtain ⟨b', off', hbo, hb0, hcl⟩ := h.ex (by omega)
  simp only [Option.some.injEq, Addr.mk.injEq, and_true] at hbo
  obtain ⟨rfl, rfl⟩ := hbo
  have HC := Lib.hid hcl
  clear hcl
  go_enter Tryd.func10, Tryd.ntmps10
  go_wp2_with fail
  go_loopw [18] (fun i wr => ChkR S n w i wr) (fun i _ => n - (intOf i).toNat)
  case atStart => exact ⟨0, Nat.zero_le _, rfl, fun j h => absurd h (by omega), Below.refl _ _⟩
  case round =>
    obtain ⟨k, hk, rfl, hz, hb⟩ := hrel
    have HZ := Lib.hid hz
    clear hz
    have hr := h.below hb
    rcases Nat.lt_or_ge k n with hlt | hge
    · have cells := hr.ex (by omega)
      obtain ⟨b', off', hbo, hb1, hcl⟩ := cells
      simp only [Option.some.injEq, Addr.mk.injEq, and_true] at hbo
      obtain ⟨rfl, rfl⟩ := hbo
      have q0 := (hcl k hlt).c0
      have q1 := (hcl k hlt).c1
      have q2 := (hcl k hlt).c2
      have HC1 := Lib.hid hcl
      have sa := hr.at_ k hlt
      clear hcl
      have hkk : (k : Int) < 64 := by omega
      by_cases hs : scS (S k) = 0
      · have HS := Lib.hid hs
        clear hs
        have st := St3.new wr (S k).A1 (S k).n1 (S k).c1 (S k).A2 (S k).n2 (S k).c2 (S k).A3 (S k).n3 (S k).c3
        have ba := below_al wr (.cells #[.slice (S k).A1 (S k).n1 (S k).c1, .slice (S k).A2 (S k).n2 (S k).c2, .slice (S k).A3 (S k).n3 (S k).c3] 49)
        go_wp2_with fail
        refine (step_good (sa.below ba) HS.out).mono ?_
        rintro e w2 ⟨rfl, b2⟩
        have g2 := ba.trans (b2.mono ba.size)
        have gb := hb.trans (g2.mono hb.size)
        have st2 := st.below b2
        have r1 := st2.c1_
        have bd2 := below_dr w2
        have sa2 := (sa.below g2).below bd2
        have hr2 := (hr.below g2).below bd2
        have GB := Lib.hid gb
        have gd := gb.trans (bd2.mono gb.size)
        have GD := Lib.hid gd
        have hw : IntKind.i64.wrap ((k : Int) + 1) = (k : Int) + 1 := IntWalk.i64_in _ (by omega)
        have hle1 : (k : Int) + 1 ≤ (n : Int) := by omega
        have hle2 : (0 : Int) ≤ (k : Int) + 1 := by omega
        have hle3 : (n : Int) ≤ (c : Int) := by omega
        have hle4 : k + 1 ≤ n := hlt
        have hle5 : ((k : Int) + 1).toNat = k + 1 := by omega
        clear ba b2 st gb q0 q1 q2 bd2 gd
        rcases Nat.lt_or_ge (k + 1) n with hm | hm
        · have cells := hr2.ex (by omega)
          obtain ⟨b', off', hbo, hb2, hcl⟩ := cells
          simp only [Option.some.injEq, Addr.mk.injEq, and_true] at hbo
          obtain ⟨rfl, rfl⟩ := hbo
          have q0 := (hcl (k + 1) hm).c0
          have sn := hr2.at_ (k + 1) hm
          have hcne : ¬ c = k + 1 := by omega
          have hpos : 0 < n - (k + 1) := by omega
          clear hcl
          by_cases hq : (S k).Q = (S (k + 1)).P
          · have HBD : bdS S n k = 0 := bd_next (P := fun j => (S j).P) (Q := fun j => (S j).Q) (A := fun j => (S j).A) HS.out hm hq
            have HB := Lib.hid HBD
            have HQ := Lib.hid hq
            clear hq HBD
            go_wp2_with fail
            go_region_with (go_at_call 27; refine (next_more_yes sa2.q sn.p hpos q0 HQ.out).mono ?_; rintro e w3 ⟨rfl, b3⟩)
            all_goals
              have gb3 := GD.out.trans (b3.mono GD.out.size)
              have GB3 := Lib.hid gb3
              clear b3 gb3 q0 r1
              go_wp2
              go_roundw
              case rel => exact ⟨k + 1, hlt, by go_num, fun j hj => by
                rcases Nat.lt_or_ge j k with g | g
                · exact HZ.out j g
                · obtain rfl : j = k := by omega
                  exact HB.out, GB3.out⟩
              case measure => simp [intOf]; omega
          · have HBD : bdS S n k = 7 := bd_join (P := fun j => (S j).P) (Q := fun j => (S j).Q) (A := fun j => (S j).A) HS.out hm hq
            have HB := Lib.hid HBD
            have HQ := Lib.hid hq
            clear hq HBD
            go_wp2_with fail
            go_region_with (go_at_call 27; refine (next_more_no sa2.q sn.p hpos q0 HQ.out).mono ?_; rintro e w3 ⟨rfl, b3⟩)
            all_goals
              have gb3 := GD.out.trans (b3.mono GD.out.size)
              have GB3 := Lib.hid gb3
              clear b3 gb3 q0 r1
              go_wp2
              go_ret2
              refine .inr ⟨k, 7, hlt, HZ.out, HB.out, by decide, _, rfl, ⟨by simp, ?_, ?_⟩, GB3.out.alloc GB3.out.size _⟩
              · simp [World.cell?_alloc_new]
              · simp [World.cell?_alloc_new]
        · have hlen : n - (k + 1) = 0 := by omega
          have hnot : ¬ k + 1 < n := by omega
          by_cases hq : Sm (S k).Q
          · have HBD : bdS S n k = 0 := bd_last (P := fun j => (S j).P) (Q := fun j => (S j).Q) (A := fun j => (S j).A) HS.out hnot hq
            have HB := Lib.hid HBD
            have HQ := Lib.hid hq
            have HLEN := Lib.hid hlen
            clear hq HBD hlen
            have hcd : (c = k + 1) = True ∨ (c = k + 1) = False := by
              by_cases hcc : c = k + 1
              · exact .inl (eq_true hcc)
              · exact .inr (eq_false hcc)
            rcases hcd with hcc | hcc
            all_goals
              go_wp2_with fail
              go_region_with (go_at_call 27; refine (next_last_yes sa2.q HQ.out).mono ?_; rintro e w3 ⟨rfl, b3⟩)
              all_goals
                have gb3 := GD.out.trans (b3.mono GD.out.size)
                have GB3 := Lib.hid gb3
                clear b3 gb3 r1
                go_wp2
                go_roundw
                case rel => exact ⟨k + 1, hlt, by go_num, fun j hj => by
                  rcases Nat.lt_or_ge j k with g | g
                  · exact HZ.out j g
                  · obtain rfl : j = k := by omega
                    exact HB.out, GB3.out⟩
                case measure => simp [intOf]; omega
          · have HBD : bdS S n k = 7 := bd_end (P := fun j => (S j).P) (Q := fun j => (S j).Q) (A := fun j => (S j).A) HS.out hnot hq
            have HB := Lib.hid HBD
            have HQ := Lib.hid hq
            have HLEN := Lib.hid hlen
            clear hq HBD hlen
            have hcd : (c = k + 1) = True ∨ (c = k + 1) = False := by
              by_cases hcc : c = k + 1
              · exact .inl (eq_true hcc)
              · exact .inr (eq_false hcc)
            rcases hcd with hcc | hcc
            all_goals
              go_wp2_with fail
              go_region_with (go_at_call 27; refine (next_last_no sa2.q HQ.out).mono ?_; rintro e w3 ⟨rfl, b3⟩)
              all_goals
                have gb3 := GD.out.trans (b3.mono GD.out.size)
                have GB3 := Lib.hid gb3
                clear b3 gb3 r1
                go_wp2
                go_ret2
                refine .inr ⟨k, 7, hlt, HZ.out, HB.out, by decide, _, rfl, ⟨by simp, ?_, ?_⟩, GB3.out.alloc GB3.out.size _⟩
                · simp [World.cell?_alloc_new]
                · simp [World.cell?_alloc_new]
      · obtain ⟨cd, hcd⟩ : ∃ cd, scS (S k) = cd := ⟨_, rfl⟩
        have hc0 : cd ≠ 0 := hcd ▸ hs
        have HCD := Lib.hid hcd
        have HC0 := Lib.hid hc0
        have HBD : bdS S n k = cd := (bd_own (P := fun j => (S j).P) (Q := fun j => (S j).Q) (A := fun j => (S j).A) (n := n) hs).trans hcd
        have HB := Lib.hid HBD
        have ba := below_al wr (.cells #[.slice (S k).A1 (S k).n1 (S k).c1, .slice (S k).A2 (S k).n2 (S k).c2, .slice (S k).A3 (S k).n3 (S k).c3] 49)
        clear hs hcd hc0 HBD
        go_wp2_with fail
        refine (step_code (sa.below ba) HCD.out HC0.out).mono ?_
        rintro e w2 ⟨rfl, b2⟩
        have g2 := ba.trans (b2.mono ba.size)
        have gb := hb.trans (g2.mono hb.size)
        have GB := Lib.hid gb
        clear ba b2 g2 gb q0 q1 q2
        go_wp2
        go_ret2
        refine .inr ⟨k, cd, hlt, HZ.out, HB.out, HC0.out, _, rfl, ⟨by simp, ?_, ?_⟩, GB.out.alloc GB.out.size _⟩
        · simp [World.cell?_alloc_new]
        · simp [World.cell?_alloc_new]
    · obtain rfl : k = n := by omega
      have cells := hr.ex (by omega)
      obtain ⟨b', off', hbo, hb1, hcl⟩ := cells
      simp only [Option.some.injEq, Addr.mk.injEq, and_true] at hbo
      obtain ⟨rfl, rfl⟩ := hbo
      have q0 := (hcl 0 (by omega)).c0
      simp only [Nat.zero_mul, Nat.add_zero] at q0
      have sa := hr.at_ 0 (by omega)
      clear hcl
      go_wp2_with fail
      refine (norm_any sa.p).mono ?_
      rintro e w2 ⟨B2, m2, d2, rfl, k2, b2, n2⟩
      have gb := hb.trans (b2.mono hb.size)
      have N2 := Lib.hid n2
      have GB := Lib.hid gb
      clear b2 gb n2
      go_wp2
      go_ret2
      exact .inl ⟨HZ.out, _, _, _, rfl, k2, GB.out, fun a ha => Nat.le_trans hb.size (N2.out a ha)⟩
end Go.Proofs.YtjalncdllegfoaaDoor
/-
  A chain of one step, just laid; small primes and powers that are reckoned; the document's first example of a proof.
-/
namespace Go.Proofs.YtjalncdllegfoaaDoor
open Go.RowKit
set_option linter.unusedVariables false
/-- A chain of one step, just laid. -/
def one3 (A1 A2 A3 : Option Addr) (P Q A : Int) : Nat → Stp := fun _ => ⟨A1, 1, 1, A2, 1, 1, A3, 1, 1, P, Q, A⟩
theorem bds_one {P Q A : Int} {A1 A2 A3 : Option Addr} {c : Int} (h : bd (fun _ => P) (fun _ => Q) (fun _ => A) 1 0 = c) : bdS (one3 A1 A2 A3 P Q A) 1 0 = c := h
theorem sm_dec {n : Int} (h2 : 2 ≤ n) (h3 : n < 65536) (k : Nat) (hk : n < ((k : Int) + 2) * ((k : Int) + 2)) (h : ((List.range k).all fun d => n % ((d : Int) + 2) != 0) = true) : Sm n := by
  refine ⟨h3, pr_of_root h2 fun d d2 dd hz => ?_⟩
  have hdk : d < (k : Int) + 2 := by
    rcases Int.lt_or_le d ((k : Int) + 2) with g | g
    · exact g
    · have a := Int.mul_le_mul_of_nonneg_right g (show 0 ≤ (k : Int) + 2 by omega)
      have b := Int.mul_le_mul_of_nonneg_left g (show 0 ≤ d by omega)
      omega
  have := List.all_eq_true.1 h (d - 2).toNat (List.mem_range.2 (by omega))
  rw [show (((d - 2).toNat : Int) + 2) = d by omega, hz] at this
  simp at this
theorem sm_2 : Sm 2 := sm_dec (by decide) (by decide) 0 (by decide) (by decide)
theorem sm_65521 : Sm 65521 := sm_dec (by decide) (by decide) 254 (by decide) (by decide +kernel)
theorem sm_50273 : Sm 50273 := sm_dec (by decide) (by decide) 223 (by decide) (by decide +kernel)
theorem not_sm_65537 : ¬ Sm 65537 := fun h => by have := h.1; omega
theorem not_sm_1 : ¬ Sm 1 := fun h => by have := h.2.1; omega
/-- Powers by squares, for the two powers of the example. -/
def pw3 (P A : Int) : Nat → Nat → Int
  | 0, _ => 1 % P
  | f + 1, e => let h := pw3 P A f (e / 2); let s := h * h % P; if e % 2 = 1 then s * A % P else s
theorem pw3_eq {P A : Int} : ∀ (f e : Nat), e < 2 ^ f → pw3 P A f e = A ^ e % P := by
  intro f
  induction f with
  | zero => intro e h; obtain rfl : e = 0 := by simpa using h
            show 1 % P = A ^ 0 % P
            rw [Int.pow_zero]
  | succ f ih =>
    intro e h
    have hh := ih (e / 2) (by rw [Nat.pow_succ] at h; omega)
    have hs : (A ^ (e / 2) % P) * (A ^ (e / 2) % P) % P = A ^ (e / 2 + e / 2) % P := by
      rw [Int.pow_add]; exact Eqm.iff.1 ((Eqm.mod P _).mul (Eqm.mod P _))
    show (let h := pw3 P A f (e / 2); let s := h * h % P; if e % 2 = 1 then s * A % P else s) = _
    simp only [hh, hs]
    by_cases ho : e % 2 = 1
    · rw [if_pos ho]
      have e1 : A ^ e = A ^ (e / 2 + e / 2) * A := by rw [← Int.pow_succ]; congr 1; omega
      rw [e1]
      exact Eqm.iff.1 ((Eqm.mod P _).mul (Eqm.refl P A))
    · rw [if_neg ho]
      congr 2; omega
theorem dl_one {x : Int} (h0 : 0 ≤ x) (h1 : x < W) : dl x ≤ 1 := dl_le h0 (by simpa [Int.pow_succ] using h1)
theorem not_lg {P Q A : Int} (p0 : 0 ≤ P) (p1 : P < W) (q0 : 0 ≤ Q) (q1 : Q < W) (a0 : 0 ≤ A) (a1 : A < W) : ¬ Lg P Q A := by
  have := dl_one p0 p1; have := dl_one q0 q1; have := dl_one a0 a1
  rintro (h | h | h) <;> omega
theorem sc_ex1 : sc 100547 50273 2 = 0 := by
  refine sc_good (not_lg (by decide) (by decide) (by decide) (by decide) (by decide) (by decide)) (by unfold Ev; omega) ?_
  have e1 : (2 : Int) ^ (100547 - 1 : Int).toNat % 100547 = 1 := by
    rw [show (100547 - 1 : Int).toNat = 100546 by decide, ← pw3_eq 17 100546 (by decide)]; decide +kernel
  have e2 : ((100547 - 1) / 50273 : Int).toNat = 2 := by decide
  refine ⟨by decide, by decide, by decide, by decide, by decide, e1, ?_⟩
  rw [e2]
  decide +kernel
theorem bd_ex1 : bd (fun _ => 100547) (fun _ => 50273) (fun _ => 2) 1 0 = 0 := bd_last sc_ex1 (by decide) sm_50273
theorem sc_ex2 : sc 100549 50273 2 = 7 := by
  refine sc_bad (not_lg (by decide) (by decide) (by decide) (by decide) (by decide) (by decide)) (by unfold Ev; omega) fun h => ?_
  have := h.2.2.1
  revert this
  decide
theorem bd_ex2 : bd (fun _ => 100549) (fun _ => 50273) (fun _ => 2) 1 0 = 7 := (bd_own (by show sc 100549 50273 2 ≠ 0; rw [sc_ex2]; decide)).trans sc_ex2
/-- The chain that a literal of one step lays. -/
theorem lit_chain (w : World) (P Q A : Int) (p0 : 0 ≤ P) (p1 : P < W) (q0 : 0 ≤ Q) (q1 : Q < W) (a0 : 0 ≤ A) (a1 : A < W) :
    Ch ((((w.alloc (.cells #[.int .u64 P] 45)).alloc (.cells #[.int .u64 Q] 45)).alloc (.cells #[.int .u64 A] 45)).alloc (.cells #[.slice (some ⟨w.heap.size, 0, none⟩) 1 1, .slice (some ⟨w.heap.size + 1, 0, none⟩) 1 1, .slice (some ⟨w.heap.size + 1 + 1, 0, none⟩) 1 1] 49))
      (some ⟨w.heap.size + 1 + 1 + 1, 0, none⟩) 1 1 (one3 (some ⟨w.heap.size, 0, none⟩) (some ⟨w.heap.size + 1, 0, none⟩) (some ⟨w.heap.size + 1 + 1, 0, none⟩) P Q A) := by
  have sz : ∀ (v : World) o, (v.alloc o).heap.size = v.heap.size + 1 := fun v o => by simp
  refine ⟨Nat.le_refl _, by omega, fun _ => ⟨_, _, rfl, by simp [sz], fun i hi => ?_⟩, fun i hi => ?_⟩
  · obtain rfl : i = 0 := by omega
    exact ⟨by simp [World.cell?_alloc_at, one3], by simp [World.cell?_alloc_at, one3], by simp [World.cell?_alloc_at, one3]⟩
  · obtain rfl : i = 0 := by omega
    have l1 := lit_one w P p0 p1
    have l2 := lit_one (w.alloc (.cells #[.int .u64 P] 45)) Q q0 q1
    have l3 := lit_one ((w.alloc (.cells #[.int .u64 P] 45)).alloc (.cells #[.int .u64 Q] 45)) A a0 a1
    rw [sz] at l2
    rw [sz, sz] at l3
    exact ⟨((l1.alloc _).alloc _).alloc _, (l2.alloc _).alloc _, l3.alloc _⟩
theorem below_four {w w' : World} {o1 o2 o3 o4 : Obj} (h : Below ((((w.alloc o1).alloc o2).alloc o3).alloc o4).heap.size ((((w.alloc o1).alloc o2).alloc o3).alloc o4) w') : Below w.heap.size w w' := below_two (below_two h)
/-- The first example. -/
theorem chk_ex1 (w : World) : Calls Tryd.prog 10 #[.slice (some ⟨w.heap.size + 1 + 1 + 1, 0, none⟩) 1 1] ((((w.alloc (.cells #[.int .u64 100547] 45)).alloc (.cells #[.int .u64 50273] 45)).alloc (.cells #[.int .u64 2] 45)).alloc (.cells #[.slice (some ⟨w.heap.size, 0, none⟩) 1 1, .slice (some ⟨w.heap.size + 1, 0, none⟩) 1 1, .slice (some ⟨w.heap.size + 1 + 1, 0, none⟩) 1 1] 49))
    fun e w' => ∃ B m cap, e = .returned (.tuple #[.slice B m cap, .nilIface]) ∧ Cn w' B m cap 100547 ∧ Below w.heap.size w w' := by
  refine (chk_any (lit_chain w 100547 50273 2 (by decide) (by decide) (by decide) (by decide) (by decide) (by decide)) (by omega) (by omega)).mono fun e w' h => ?_
  rcases h with ⟨-, B, m, cap, he, hc, hb, -⟩ | ⟨k, c, hk, -, hbd, hc, -⟩
  · exact ⟨B, m, cap, he, hc, below_four hb⟩
  · obtain rfl : k = 0 := by omega
    rw [bds_one bd_ex1] at hbd
    exact absurd hbd.symm hc
end Go.Proofs.YtjalncdllegfoaaDoor
