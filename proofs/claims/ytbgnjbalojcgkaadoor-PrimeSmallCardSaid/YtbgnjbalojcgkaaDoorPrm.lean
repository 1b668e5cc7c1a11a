/-
  What layer 3 says of numbers: small primes, what a step of a proof says on its own, the first step at fault. No call is spoken of here.
-/
import Derived.Test.YtbgnjbalojcgkaaDoorPock
import Derived.Test.YtbgnjbalojcgkaaDoorMk
namespace Go.Proofs.YtbgnjbalojcgkaaDoor
set_option linter.unusedVariables false
/-- A small prime. -/
def Sm (n : Int) : Prop := n < 65536 ∧ Pr n
/-- What a step says of its witness. -/
def Wit (P Q A : Int) : Prop := 2 ≤ Q ∧ P < Q * Q ∧ (P - 1) % Q = 0 ∧ 2 ≤ A ∧ A < P ∧ A ^ (P - 1).toNat % P = 1 ∧ Int.gcd P ((A ^ ((P - 1) / Q).toNat - 1) % P) = 1
/-- A number of the step is too long. -/
def Lg (P Q A : Int) : Prop := 32 < dl P ∨ 64 < dl Q ∨ 64 < dl A
/-- P is even or too small. -/
def Ev (P : Int) : Prop := P % 2 = 0 ∨ P < 3
open Classical in
/-- What is amiss with a step on its own: 2, 5, 7, or 0. -/
noncomputable def sc (P Q A : Int) : Int := if Lg P Q A then 2 else if Ev P then 5 else if Wit P Q A then 0 else 7
section
variable {P Q A : Int}
theorem sc_long (h : Lg P Q A) : sc P Q A = 2 := if_pos h
theorem sc_even (h : ¬ Lg P Q A) (h2 : Ev P) : sc P Q A = 5 := by unfold sc; rw [if_neg h, if_pos h2]
theorem sc_good (h : ¬ Lg P Q A) (h2 : ¬ Ev P) (h3 : Wit P Q A) : sc P Q A = 0 := by unfold sc; rw [if_neg h, if_neg h2, if_pos h3]
theorem sc_bad (h : ¬ Lg P Q A) (h2 : ¬ Ev P) (h3 : ¬ Wit P Q A) : sc P Q A = 7 := by unfold sc; rw [if_neg h, if_neg h2, if_neg h3]
theorem sc_cases (P Q A : Int) : sc P Q A = 0 ∨ sc P Q A = 2 ∨ sc P Q A = 5 ∨ sc P Q A = 7 := by
  by_cases h : Lg P Q A
  · exact .inr (.inl (sc_long h))
  · by_cases h2 : Ev P
    · exact .inr (.inr (.inl (sc_even h h2)))
    · by_cases h3 : Wit P Q A
      · exact .inl (sc_good h h2 h3)
      · exact .inr (.inr (.inr (sc_bad h h2 h3)))
theorem sc_zero (h : sc P Q A = 0) : ¬ Lg P Q A ∧ ¬ Ev P ∧ Wit P Q A := by
  by_cases h1 : Lg P Q A
  · rw [sc_long h1] at h; cases h
  · by_cases h2 : Ev P
    · rw [sc_even h1 h2] at h; cases h
    · by_cases h3 : Wit P Q A
      · exact ⟨h1, h2, h3⟩
      · rw [sc_bad h1 h2 h3] at h; cases h
end
open Classical in
/-- What is amiss with step i among n: on its own, or with what follows. -/
noncomputable def bd (P Q A : Nat → Int) (n i : Nat) : Int :=
  if sc (P i) (Q i) (A i) ≠ 0 then sc (P i) (Q i) (A i) else if (if i + 1 < n then Q i = P (i + 1) else Sm (Q i)) then 0 else 7
section
variable {P Q A : Nat → Int} {n i : Nat}
theorem bd_own (h : sc (P i) (Q i) (A i) ≠ 0) : bd P Q A n i = sc (P i) (Q i) (A i) := if_pos h
theorem bd_next (h : sc (P i) (Q i) (A i) = 0) (hi : i + 1 < n) (hq : Q i = P (i + 1)) : bd P Q A n i = 0 := by
  unfold bd; rw [if_neg (by rw [h]; simp), if_pos (by rw [if_pos hi]; exact hq)]
theorem bd_join (h : sc (P i) (Q i) (A i) = 0) (hi : i + 1 < n) (hq : Q i ≠ P (i + 1)) : bd P Q A n i = 7 := by
  unfold bd; rw [if_neg (by rw [h]; simp), if_neg (by rw [if_pos hi]; exact hq)]
theorem bd_last (h : sc (P i) (Q i) (A i) = 0) (hi : ¬ i + 1 < n) (hq : Sm (Q i)) : bd P Q A n i = 0 := by
  unfold bd; rw [if_neg (by rw [h]; simp), if_pos (by rw [if_neg hi]; exact hq)]
theorem bd_end (h : sc (P i) (Q i) (A i) = 0) (hi : ¬ i + 1 < n) (hq : ¬ Sm (Q i)) : bd P Q A n i = 7 := by
  unfold bd; rw [if_neg (by rw [h]; simp), if_neg (by rw [if_neg hi]; exact hq)]
theorem bd_zero (h : bd P Q A n i = 0) : sc (P i) (Q i) (A i) = 0 ∧ (i + 1 < n → Q i = P (i + 1)) ∧ (¬ i + 1 < n → Sm (Q i)) := by
  by_cases h1 : sc (P i) (Q i) (A i) = 0
  · refine ⟨h1, fun hi => ?_, fun hi => ?_⟩
    · by_cases g : Q i = P (i + 1)
      · exact g
      · rw [bd_join h1 hi g] at h; cases h
    · by_cases g : Sm (Q i)
      · exact g
      · rw [bd_end h1 hi g] at h; cases h
  · rw [bd_own h1] at h; exact absurd h h1
theorem bd_cases (P Q A : Nat → Int) (n i : Nat) : bd P Q A n i = 0 ∨ bd P Q A n i = 2 ∨ bd P Q A n i = 5 ∨ bd P Q A n i = 7 := by
  by_cases h1 : sc (P i) (Q i) (A i) = 0
  · by_cases hi : i + 1 < n
    · by_cases g : Q i = P (i + 1)
      · exact .inl (bd_next h1 hi g)
      · exact .inr (.inr (.inr (bd_join h1 hi g)))
    · by_cases g : Sm (Q i)
      · exact .inl (bd_last h1 hi g)
      · exact .inr (.inr (.inr (bd_end h1 hi g)))
  · rw [bd_own h1]; exact sc_cases _ _ _
end
/-- No step is at fault. -/
def Good (P Q A : Nat → Int) (n : Nat) : Prop := ∀ i, i < n → bd P Q A n i = 0
/-- The first step at fault is step k, by number c. -/
def Bad (P Q A : Nat → Int) (n k : Nat) (c : Int) : Prop := k < n ∧ (∀ j, j < k → bd P Q A n j = 0) ∧ bd P Q A n k = c ∧ c ≠ 0
theorem good_or (P Q A : Nat → Int) (n : Nat) : Good P Q A n ∨ ∃ k c, Bad P Q A n k c := by
  have key : ∀ m, m ≤ n → (∀ i, i < m → bd P Q A n i = 0) ∨ ∃ k c, Bad P Q A n k c := by
    intro m
    induction m with
    | zero => intro _; exact .inl fun i h => absurd h (by omega)
    | succ m ih =>
      intro hm
      rcases ih (by omega) with h | h
      · by_cases g : bd P Q A n m = 0
        · refine .inl fun i hi => ?_
          rcases Nat.lt_or_ge i m with q | q
          · exact h i q
          · obtain rfl : i = m := by omega
            exact g
        · exact .inr ⟨m, _, by omega, h, rfl, g⟩
      · exact .inr h
  exact key n (Nat.le_refl n)
theorem toNat_mul_div {P Q : Int} (hP : 1 ≤ P) (hQ : 2 ≤ Q) (h : (P - 1) % Q = 0) : P - 1 = Q * (((P - 1) / Q).toNat : Int) := by
  have h1 := Int.mul_ediv_add_emod (P - 1) Q
  have h2 : 0 ≤ (P - 1) / Q := Int.ediv_nonneg (by omega) (by omega)
  rw [Int.toNat_of_nonneg h2]
  omega
/-- A step that says nothing amiss: if Q is a prime, so is P. -/
theorem step_prime {P Q A : Int} (h : sc P Q A = 0) (hQ : Pr Q) : Pr P := by
  obtain ⟨_, h2, q2, sq, hd, a2, aP, h1, hg⟩ := sc_zero h
  have hP : 3 ≤ P := by
    rcases Int.lt_or_le P 3 with g | g
    · exact absurd (Or.inr g) h2
    · exact g
  refine pock hP hQ sq (toNat_mul_div (by omega) q2 hd) ?_ hg
  refine Eqm.iff.2 ?_
  rw [h1, Int.emod_eq_of_lt (by omega) (by omega)]
theorem good_prime {P Q A : Nat → Int} {n : Nat} (h : Good P Q A n) : ∀ k, k < n → Pr (P (n - 1 - k)) := by
  intro k
  induction k with
  | zero =>
    intro hk
    obtain ⟨h1, -, h3⟩ := bd_zero (h (n - 1) (by omega))
    exact step_prime h1 (h3 (by omega)).2
  | succ k ih =>
    intro hk
    obtain ⟨h1, h2, -⟩ := bd_zero (h (n - 1 - (k + 1)) (by omega))
    refine step_prime h1 ?_
    rw [h2 (by omega), show n - 1 - (k + 1) + 1 = n - 1 - k by omega]
    exact ih (by omega)
/-- What a proof proves is a prime. -/
theorem good_first {P Q A : Nat → Int} {n : Nat} (h : Good P Q A n) (hn : 1 ≤ n) : Pr (P 0) := by
  have := good_prime h (n - 1) (by omega)
  rwa [show n - 1 - (n - 1) = 0 by omega] at this
/-- Trial division up to the root. -/
theorem pr_of_root {n : Int} (h2 : 2 ≤ n) (h : ∀ d : Int, 2 ≤ d → d * d ≤ n → n % d ≠ 0) : Pr n := by
  refine ⟨h2, fun d d2 dn hd => ?_⟩
  rcases Int.lt_or_le n (d * d) with g | g
  · have e : n = d * (n / d) := by have := Int.mul_ediv_add_emod n d; omega
    have q0 : 0 ≤ n / d := Int.ediv_nonneg (by omega) (by omega)
    have q2 : 2 ≤ n / d := by
      rcases Int.lt_or_le (n / d) 2 with k | k
      · have : n / d = 0 ∨ n / d = 1 := by omega
        rcases this with k | k <;> rw [k] at e <;> omega
      · exact k
    have qd : n / d < d := by
      rcases Int.lt_or_le (n / d) d with k | k
      · exact k
      · have := Int.mul_le_mul_of_nonneg_left k (show 0 ≤ d by omega); omega
    refine h (n / d) q2 ?_ ?_
    · have := Int.mul_le_mul_of_nonneg_right (Int.le_of_lt qd) q0; omega
    · exact Int.emod_eq_zero_of_dvd ⟨d, by rw [Int.mul_comm]; exact e⟩
  · exact h d d2 g hd
end Go.Proofs.YtbgnjbalojcgkaaDoor
