/-
  Several texts in one: Pock, Prm, Cof, Witn, Smal, Step, Next, Sp, Chk.
-/
import Derived.Test.YtcnekfpgoceblaaPkm
import Derived.Test.YtcnekfpgoceblaaPkf
import Derived.Test.YtcnekfpgoceblaaPka
import Derived.Test.YtcnekfpgoceblaaPkg
/-
  Pocklington's criterion; no call is spoken of here.
-/
namespace Go.Proofs.Ytcnekfpgoceblaa
set_option linter.unusedVariables false
/-- A prime: nothing from 2 on below it divides it. -/
def Pr (p : Int) : Prop := 2 ≤ p ∧ ∀ d : Int, 2 ≤ d → d < p → p % d ≠ 0
/-- As many things as have a place each of their own among r have at most r. -/
theorem pigeon : ∀ (r q : Nat) (f : Nat → Nat), (∀ i, i < q → f i < r) → (∀ i j, i < q → j < q → f i = f j → i = j) → q ≤ r := by
  intro r
  induction r with
  | zero =>
    intro q f h _
    rcases Nat.eq_zero_or_pos q with g | g
    · omega
    · have := h 0 g; omega
  | succ r ih =>
    intro q f h hi
    by_cases he : ∃ i, i < q ∧ f i = r
    · obtain ⟨i0, hi0, hr⟩ := he
      have := ih (q - 1) (fun i => if i < i0 then f i else f (i + 1)) (by
        intro i hq
        show (if i < i0 then f i else f (i + 1)) < r
        split
        · have h1 := h i (by omega)
          have h2 : f i ≠ r := fun e => by have := hi i i0 (by omega) hi0 (by omega); omega
          omega
        · have h1 := h (i + 1) (by omega)
          have h2 : f (i + 1) ≠ r := fun e => by have := hi (i + 1) i0 (by omega) hi0 (by omega); omega
          omega) (by
        intro i j hq hj e
        split at e <;> split at e
        · exact hi i j (by omega) (by omega) e
        · have := hi i (j + 1) (by omega) (by omega) e; omega
        · have := hi (i + 1) j (by omega) (by omega) e; omega
        · have := hi (i + 1) (j + 1) (by omega) (by omega) e; omega)
      omega
    · have := ih q f (fun i hq => by
        have h1 := h i hq
        have h2 : f i ≠ r := fun e => he ⟨i, hq, e⟩
        omega) hi
      omega
section
variable {r B : Int} {q : Nat}
/-- Where B to the q is 1, q a prime, and B isn't, no lesser power is. -/
theorem ord_prime (hq : Pr q) (h : Eqm r (B ^ q) 1) (hB : ¬ Eqm r B 1) : ∀ e : Nat, 0 < e → e < q → ¬ Eqm r (B ^ e) 1 := by
  intro e
  induction e using Nat.strongRecOn with
  | _ e ih =>
    intro e0 eq he
    have hs : Eqm r (B ^ (q % e)) 1 := by
      have e1 : B ^ q = (B ^ e) ^ (q / e) * B ^ (q % e) := by
        rw [← Int.pow_mul, ← Int.pow_add]; congr 1; exact (Nat.div_add_mod q e).symm
      have h2 := (he.pow (q / e)).mul (Eqm.refl r (B ^ (q % e)))
      rw [Int.one_pow, Int.one_mul, ← e1] at h2
      exact h2.symm.trans h
    rcases Nat.eq_zero_or_pos (q % e) with g | g
    · rcases Nat.lt_or_ge 1 e with g1 | g1
      · refine hq.2 e (by omega) (by omega) ?_
        rw [← Int.natCast_emod, g]; rfl
      · obtain rfl : e = 1 := by omega
        rw [Int.pow_one] at he
        exact hB he
    · exact ih (q % e) (Nat.mod_lt _ e0) g (Nat.lt_trans (Nat.mod_lt _ e0) eq) hs
/-- Then q is below r. -/
theorem ord_lt (hr : 2 ≤ r) (hq : Pr q) (h : Eqm r (B ^ q) 1) (hB : ¬ Eqm r B 1) : (q : Int) < r := by
  have ho := ord_prime hq h hB
  have q2 := hq.1
  have hpos : ∀ i, i < q → 1 ≤ B ^ i % r := by
    intro i hi
    have h0 := Int.emod_nonneg (B ^ i) (show r ≠ 0 by omega)
    rcases Int.lt_or_eq_of_le h0 with g | g
    · omega
    · exfalso
      have e1 : B ^ q = B ^ i * B ^ (q - i) := by rw [← Int.pow_add]; congr 1; omega
      have h1 : Eqm r (B ^ i) 0 := Eqm.iff.2 (by rw [← g]; rfl)
      have h2 := h1.mul (Eqm.refl r (B ^ (q - i)))
      rw [← e1, Int.zero_mul] at h2
      have h3 := (h2.symm.trans h).emod
      rw [Int.zero_emod, Int.emod_eq_of_lt (by omega) (by omega)] at h3
      omega
  have key : ∀ i j, i < j → j < q → B ^ i % r ≠ B ^ j % r := by
    intro i j hij hj e
    have h1 : Eqm r (B ^ j) (B ^ i) := Eqm.iff.2 e.symm
    have h2 := h1.mul (Eqm.refl r (B ^ (q - i)))
    have e1 : B ^ i * B ^ (q - i) = B ^ q := by rw [← Int.pow_add]; congr 1; omega
    have e2 : B ^ j * B ^ (q - i) = B ^ q * B ^ (j - i) := by rw [← Int.pow_add, ← Int.pow_add]; congr 1; omega
    rw [e1, e2] at h2
    have h3 := h.mul (Eqm.refl r (B ^ (j - i)))
    rw [Int.one_mul] at h3
    exact ho (j - i) (by omega) (by omega) (h3.symm.trans (h2.trans h))
  have hp := pigeon (r.toNat - 1) q (fun i => (B ^ i % r).toNat - 1) (by
    intro i hi
    have h1 := Int.emod_lt_of_pos (B ^ i) (show 0 < r by omega)
    have h2 := hpos i hi
    show (B ^ i % r).toNat - 1 < r.toNat - 1
    omega) (by
    intro i j hi hj e
    have h1 := hpos i hi
    have h2 := hpos j hj
    have e' : B ^ i % r = B ^ j % r := by
      have e0 : (B ^ i % r).toNat - 1 = (B ^ j % r).toNat - 1 := e
      omega
    rcases Nat.lt_trichotomy i j with g | g | g
    · exact absurd e' (key i j g hj)
    · exact g
    · exact absurd e'.symm (key j i g hi))
  omega
end
theorem dvd_eqm {r a : Int} (h : a % r = 0) : Eqm r a 0 := Eqm.iff.2 (by rw [h]; rfl)
/-- What divides P leaves what is the same modulo P the same. -/
theorem Eqm.down {r P a b : Int} (hr : P % r = 0) (h : Eqm P a b) : Eqm r a b := by
  obtain ⟨q, h⟩ := h
  obtain ⟨t, ht⟩ := dvd_eqm hr
  exact ⟨q * t, by rw [h, ht]; grind⟩
/-- Pocklington. -/
theorem pock {P Q A : Int} {k : Nat} (hP : 3 ≤ P) (hQ : Pr Q) (hsq : P < Q * Q) (hk : P - 1 = Q * k) (h1 : Eqm P (A ^ (P - 1).toNat) 1) (hg : Int.gcd P ((A ^ k - 1) % P) = 1) : Pr P := by
  have q2 := hQ.1
  obtain ⟨q, rfl⟩ := Int.eq_ofNat_of_zero_le (show 0 ≤ Q by omega)
  have e1 : (P - 1).toNat = k * q := by
    have : P - 1 = ((k * q : Nat) : Int) := by rw [hk, Int.natCast_mul, Int.mul_comm]
    omega
  rw [e1, Int.pow_mul] at h1
  have big : ∀ r : Int, 2 ≤ r → P % r = 0 → (q : Int) < r := by
    intro r hr hd
    refine ord_lt hr hQ (h1.down hd) (fun hB => ?_)
    -- r divides both P and A^k - 1
    have d1 : r ∣ P := Int.dvd_of_emod_eq_zero hd
    have d2 : r ∣ (A ^ k - 1) % P := by
      have h3 : Eqm r ((A ^ k - 1) % P) 0 := ((Eqm.mod P (A ^ k - 1)).down hd).trans ((hB.sub (Eqm.refl r 1)).trans (Eqm.of_eq (by omega)))
      obtain ⟨t, ht⟩ := h3
      exact ⟨t, by rw [ht]; grind⟩
    have d3 := Int.dvd_coe_gcd d1 d2
    rw [hg] at d3
    have := Int.le_of_dvd (by decide) d3
    omega
  refine ⟨by omega, fun d hd hlt h0 => ?_⟩
  obtain ⟨t, ht⟩ := Int.dvd_of_emod_eq_zero h0
  have b1 := big d hd h0
  have t2 : 2 ≤ t := by
    rcases Int.lt_or_le t 2 with g | g
    · exfalso
      rcases Int.lt_or_le t 1 with g1 | g1
      · have := Int.mul_le_mul_of_nonneg_left (show t ≤ 0 by omega) (show 0 ≤ d by omega)
        rw [Int.mul_zero] at this
        omega
      · obtain rfl : t = 1 := by omega
        omega
    · exact g
  have b2 := big t t2 (by rw [ht]; exact Int.mul_emod_left _ _)
  have h4 := Int.mul_le_mul (show (q : Int) ≤ d by omega) (show (q : Int) ≤ t by omega) (by omega) (by omega)
  omega
end Go.Proofs.Ytcnekfpgoceblaa
/-
  What layer 3 says of numbers: small primes, what a step of a proof says on its own, the first step at fault. No call is spoken of here.
-/
namespace Go.Proofs.Ytcnekfpgoceblaa
set_option linter.unusedVariables false
/-- A small prime. -/
def Sm (n : Int) : Prop := n < 65536 ∧ Pr n
/-- What a step says of its witness. -/
def Wit (P Q A : Int) : Prop := 2 ≤ Q ∧ P < Q * Q ∧ (P - 1) % Q = 0 ∧ 2 ≤ A ∧ A < P ∧ A ^ (P - 1).toNat % P = 1 ∧ Int.gcd P ((A ^ ((P - 1) / Q).toNat - 1) % P) = 1
/-- A number of the step is too long. -/
def Lg (P Q A : Int) : Prop := 32 < dl P ∨ 64 < dl Q ∨ 64 < dl A
/-- P is even or too small. -/
def Ev (P : Int) : Prop := P % 2 = 0 ∨ P < 3
open Classical in
/-- What is amiss with a step on its own: 2, 5, 7, or 0. -/
noncomputable def sc (P Q A : Int) : Int := if Lg P Q A then 2 else if Ev P then 5 else if Wit P Q A then 0 else 7
section
variable {P Q A : Int}
theorem sc_long (h : Lg P Q A) : sc P Q A = 2 := if_pos h
theorem sc_even (h : ¬ Lg P Q A) (h2 : Ev P) : sc P Q A = 5 := by unfold sc; rw [if_neg h, if_pos h2]
theorem sc_good (h : ¬ Lg P Q A) (h2 : ¬ Ev P) (h3 : Wit P Q A) : sc P Q A = 0 := by unfold sc; rw [if_neg h, if_neg h2, if_pos h3]
theorem sc_bad (h : ¬ Lg P Q A) (h2 : ¬ Ev P) (h3 : ¬ Wit P Q A) : sc P Q A = 7 := by unfold sc; rw [if_neg h, if_neg h2, if_neg h3]
theorem sc_cases (P Q A : Int) : sc P Q A = 0 ∨ sc P Q A = 2 ∨ sc P Q A = 5 ∨ sc P Q A = 7 := by
  by_cases h : Lg P Q A
  · exact .inr (.inl (sc_long h))
  · by_cases h2 : Ev P
    · exact .inr (.inr (.inl (sc_even h h2)))
    · by_cases h3 : Wit P Q A
      · exact .inl (sc_good h h2 h3)
      · exact .inr (.inr (.inr (sc_bad h h2 h3)))
theorem sc_zero (h : sc P Q A = 0) : ¬ Lg P Q A ∧ ¬ Ev P ∧ Wit P Q A := by
  by_cases h1 : Lg P Q A
  · rw [sc_long h1] at h; cases h
  · by_cases h2 : Ev P
    · rw [sc_even h1 h2] at h; cases h
    · by_cases h3 : Wit P Q A
      · exact ⟨h1, h2, h3⟩
      · rw [sc_bad h1 h2 h3] at h; cases h
end
open Classical in
/-- What is amiss with step i among n: on its own, or with what follows. -/
noncomputable def bd (P Q A : Nat → Int) (n i : Nat) : Int :=
  if sc (P i) (Q i) (A i) ≠ 0 then sc (P i) (Q i) (A i) else if (if i + 1 < n then Q i = P (i + 1) else Sm (Q i)) then 0 else 7
section
variable {P Q A : Nat → Int} {n i : Nat}
theorem bd_own (h : sc (P i) (Q i) (A i) ≠ 0) : bd P Q A n i = sc (P i) (Q i) (A i) := if_pos h
theorem bd_next (h : sc (P i) (Q i) (A i) = 0) (hi : i + 1 < n) (hq : Q i = P (i + 1)) : bd P Q A n i = 0 := by
  unfold bd; rw [if_neg (by rw [h]; simp), if_pos (by rw [if_pos hi]; exact hq)]
theorem bd_join (h : sc (P i) (Q i) (A i) = 0) (hi : i + 1 < n) (hq : Q i ≠ P (i + 1)) : bd P Q A n i = 7 := by
  unfold bd; rw [if_neg (by rw [h]; simp), if_neg (by rw [if_pos hi]; exact hq)]
theorem bd_last (h : sc (P i) (Q i) (A i) = 0) (hi : ¬ i + 1 < n) (hq : Sm (Q i)) : bd P Q A n i = 0 := by
  unfold bd; rw [if_neg (by rw [h]; simp), if_pos (by rw [if_neg hi]; exact hq)]
theorem bd_end (h : sc (P i) (Q i) (A i) = 0) (hi : ¬ i + 1 < n) (hq : ¬ Sm (Q i)) : bd P Q A n i = 7 := by
  unfold bd; rw [if_neg (by rw [h]; simp), if_neg (by rw [if_neg hi]; exact hq)]
theorem bd_zero (h : bd P Q A n i = 0) : sc (P i) (Q i) (A i) = 0 ∧ (i + 1 < n → Q i = P (i + 1)) ∧ (¬ i + 1 < n → Sm (Q i)) := by
  by_cases h1 : sc (P i) (Q i) (A i) = 0
  · refine ⟨h1, fun hi => ?_, fun hi => ?_⟩
    · by_cases g : Q i = P (i + 1)
      · exact g
      · rw [bd_join h1 hi g] at h; cases h
    · by_cases g : Sm (Q i)
      · exact g
      · rw [bd_end h1 hi g] at h; cases h
  · rw [bd_own h1] at h; exact absurd h h1
theorem bd_cases (P Q A : Nat → Int) (n i : Nat) : bd P Q A n i = 0 ∨ bd P Q A n i = 2 ∨ bd P Q A n i = 5 ∨ bd P Q A n i = 7 := by
  by_cases h1 : sc (P i) (Q i) (A i) = 0
  · by_cases hi : i + 1 < n
    · by_cases g : Q i = P (i + 1)
      · exact .inl (bd_next h1 hi g)
      · exact .inr (.inr (.inr (bd_join h1 hi g)))
    · by_cases g : Sm (Q i)
      · exact .inl (bd_last h1 hi g)
      · exact .inr (.inr (.inr (bd_end h1 hi g)))
  · rw [bd_own h1]; exact sc_cases _ _ _
end
/-- No step is at fault. -/
def Good (P Q A : Nat → Int) (n : Nat) : Prop := ∀ i, i < n → bd P Q A n i = 0
/-- The first step at fault is step k, by number c. -/
def Bad (P Q A : Nat → Int) (n k : Nat) (c : Int) : Prop := k < n ∧ (∀ j, j < k → bd P Q A n j = 0) ∧ bd P Q A n k = c ∧ c ≠ 0
theorem good_or (P Q A : Nat → Int) (n : Nat) : Good P Q A n ∨ ∃ k c, Bad P Q A n k c := by
  have key : ∀ m, m ≤ n → (∀ i, i < m → bd P Q A n i = 0) ∨ ∃ k c, Bad P Q A n k c := by
    intro m
    induction m with
    | zero => intro _; exact .inl fun i h => absurd h (by omega)
    | succ m ih =>
      intro hm
      rcases ih (by omega) with h | h
      · by_cases g : bd P Q A n m = 0
        · refine .inl fun i hi => ?_
          rcases Nat.lt_or_ge i m with q | q
          · exact h i q
          · obtain rfl : i = m := by omega
            exact g
        · exact .inr ⟨m, _, by omega, h, rfl, g⟩
      · exact .inr h
  exact key n (Nat.le_refl n)
theorem toNat_mul_div {P Q : Int} (hP : 1 ≤ P) (hQ : 2 ≤ Q) (h : (P - 1) % Q = 0) : P - 1 = Q * (((P - 1) / Q).toNat : Int) := by
  have h1 := Int.mul_ediv_add_emod (P - 1) Q
  have h2 : 0 ≤ (P - 1) / Q := Int.ediv_nonneg (by omega) (by omega)
  rw [Int.toNat_of_nonneg h2]
  omega
/-- A step that says nothing amiss: if Q is a prime, so is P. -/
theorem step_prime {P Q A : Int} (h : sc P Q A = 0) (hQ : Pr Q) : Pr P := by
  obtain ⟨_, h2, q2, sq, hd, a2, aP, h1, hg⟩ := sc_zero h
  have hP : 3 ≤ P := by
    rcases Int.lt_or_le P 3 with g | g
    · exact absurd (Or.inr g) h2
    · exact g
  refine pock hP hQ sq (toNat_mul_div (by omega) q2 hd) ?_ hg
  refine Eqm.iff.2 ?_
  rw [h1, Int.emod_eq_of_lt (by omega) (by omega)]
theorem good_prime {P Q A : Nat → Int} {n : Nat} (h : Good P Q A n) : ∀ k, k < n → Pr (P (n - 1 - k)) := by
  intro k
  induction k with
  | zero =>
    intro hk
    obtain ⟨h1, -, h3⟩ := bd_zero (h (n - 1) (by omega))
    exact step_prime h1 (h3 (by omega)).2
  | succ k ih =>
    intro hk
    obtain ⟨h1, h2, -⟩ := bd_zero (h (n - 1 - (k + 1)) (by omega))
    refine step_prime h1 ?_
    rw [h2 (by omega), show n - 1 - (k + 1) + 1 = n - 1 - k by omega]
    exact ih (by omega)
/-- What a proof proves is a prime. -/
theorem good_first {P Q A : Nat → Int} {n : Nat} (h : Good P Q A n) (hn : 1 ≤ n) : Pr (P 0) := by
  have := good_prime h (n - 1) (by omega)
  rwa [show n - 1 - (n - 1) = 0 by omega] at this
/-- Trial division up to the root. -/
theorem pr_of_root {n : Int} (h2 : 2 ≤ n) (h : ∀ d : Int, 2 ≤ d → d * d ≤ n → n % d ≠ 0) : Pr n := by
  refine ⟨h2, fun d d2 dn hd => ?_⟩
  rcases Int.lt_or_le n (d * d) with g | g
  · have e : n = d * (n / d) := by have := Int.mul_ediv_add_emod n d; omega
    have q0 : 0 ≤ n / d := Int.ediv_nonneg (by omega) (by omega)
    have q2 : 2 ≤ n / d := by
      rcases Int.lt_or_le (n / d) 2 with k | k
      · have : n / d = 0 ∨ n / d = 1 := by omega
        rcases this with k | k <;> rw [k] at e <;> omega
      · exact k
    have qd : n / d < d := by
      rcases Int.lt_or_le (n / d) d with k | k
      · exact k
      · have := Int.mul_le_mul_of_nonneg_left k (show 0 ≤ d by omega); omega
    refine h (n / d) q2 ?_ ?_
    · have := Int.mul_le_mul_of_nonneg_right (Int.le_of_lt qd) q0; omega
    · exact Int.emod_eq_zero_of_dvd ⟨d, by rw [Int.mul_comm]; exact e⟩
  · exact h d d2 g hd
end Go.Proofs.Ytcnekfpgoceblaa
/-
  What cofactor answers: (P - 1) / Q, where Q is great enough and divides P - 1.
-/
namespace Go.Proofs.Ytcnekfpgoceblaa
open Go.RowKit
set_option linter.unusedVariables false
/-- What the step says of Q alone. -/
def Cof (P Q : Int) : Prop := 2 ≤ Q ∧ P < Q * Q ∧ (P - 1) % Q = 0
section
variable {A1 A2 : Option Addr} {n1 c1 n2 c2 : Nat} {P Q : Int} {w : World}
end
end Go.Proofs.Ytcnekfpgoceblaa
/-
  What checkWitness answers: whether A is a witness.
-/
namespace Go.Proofs.Ytcnekfpgoceblaa
open Go.RowKit
set_option linter.unusedVariables false
/-- A struct of three slices in memory. -/
structure St3 (w : World) (b : Nat) (A1 : Option Addr) (n1 c1 : Nat) (A2 : Option Addr) (n2 c2 : Nat) (A3 : Option Addr) (n3 c3 : Nat) : Prop where
  lt : b < w.heap.size
  c0 : w.cell? ⟨b, 0, none⟩ = some (.slice A1 n1 c1)
  c1_ : w.cell? ⟨b, 1, none⟩ = some (.slice A2 n2 c2)
  c2_ : w.cell? ⟨b, 2, none⟩ = some (.slice A3 n3 c3)
section
variable {w w' : World} {b : Nat} {A1 A2 A3 : Option Addr} {n1 c1 n2 c2 n3 c3 : Nat}
theorem St3.below (h : St3 w b A1 n1 c1 A2 n2 c2 A3 n3 c3) (hb : Below w.heap.size w w') : St3 w' b A1 n1 c1 A2 n2 c2 A3 n3 c3 :=
  ⟨Nat.lt_of_lt_of_le h.lt hb.size, (hb.cell (p := ⟨b, 0, none⟩) h.lt).trans h.c0, (hb.cell (p := ⟨b, 1, none⟩) h.lt).trans h.c1_, (hb.cell (p := ⟨b, 2, none⟩) h.lt).trans h.c2_⟩
end
/-- What the witness says, with the power of A in the middle. -/
def Wt (P Q A K : Int) : Prop := 2 ≤ A ∧ A < P ∧ (A ^ K.toNat % P) ^ Q.toNat % P = 1 ∧ Int.gcd P ((A ^ K.toNat % P - 1) % P) = 1
/-- An error of one of the codes, or none. -/
def erv (c : Int) : Value := if c = 0 then .nilIface else .iface 57 (.int .i64 c)
section
variable {w : World} {b : Nat} {P : Int} {n : Nat} {A0 : Option Addr} {c0 : Nat} {low : Int} {B : Option Addr} {cB : Nat} {S : Option Addr} {cS : Nat}
variable {A1 A2 A3 A4 : Option Addr} {n1 c1 n2 c2 n3 c3 n4 c4 : Nat} {Q A K : Int}
end
end Go.Proofs.Ytcnekfpgoceblaa
/-
  What Small answers, the program's and the document's; smallNumber; tooLong.
-/
namespace Go.Proofs.Ytcnekfpgoceblaa
open Go.RowKit
set_option linter.unusedVariables false
open Classical in
/-- Whether a number is a small prime. -/
noncomputable def sm (n : Int) : Bool := decide (Sm n)
theorem sm_yes {n : Int} (h : Sm n) : sm n = true := by unfold sm; simp [h]
theorem sm_no {n : Int} (h : ¬ Sm n) : sm n = false := by unfold sm; simp [h]
/-- No number from 2 on below d, or whose square is at most n, divides n. -/
def SmR (n : Int) (t : Value) : Prop := ∃ d : Int, t = .int .u64 d ∧ 2 ≤ d ∧ d ≤ n + 2 ∧ ∀ k, 2 ≤ k → k < d → n % k ≠ 0
theorem mul_bd {d n : Int} (h0 : 0 ≤ d) (h : d ≤ n + 2) (hn : n < 65536) : 0 ≤ d * d ∧ d * d ≤ 4300000000 := by
  have h1 := Int.mul_nonneg h0 h0
  have h2 := Int.mul_le_mul (show d ≤ 65537 by omega) (show d ≤ 65537 by omega) h0 (by omega)
  omega
theorem root_lt {d n : Int} (h2 : 2 ≤ d) (h : d * d ≤ n) : d < n := by
  have := Int.mul_le_mul_of_nonneg_right h2 (show 0 ≤ d by omega)
  omega
end Go.Proofs.Ytcnekfpgoceblaa
/-
  What checkStep answers: what is amiss with a step on its own, or nothing.
-/
namespace Go.Proofs.Ytcnekfpgoceblaa
open Go.RowKit
set_option linter.unusedVariables false
theorem erv_zero : erv 0 = .nilIface := if_pos rfl
theorem erv_code {c : Int} (h : c ≠ 0) : erv c = .iface 57 (.int .i64 c) := if_neg h
theorem wit_iff {P Q A : Int} (hP : 3 ≤ P) (hc : Cof P Q) : Wit P Q A ↔ Wt P Q A ((P - 1) / Q) := by
  obtain ⟨q2, sq, hd⟩ := hc
  have e := toNat_mul_div (show 1 ≤ P by omega) q2 hd
  obtain ⟨k, hk⟩ : ∃ k : Nat, ((P - 1) / Q).toNat = k := ⟨_, rfl⟩
  have e2 : (P - 1).toNat = k * Q.toNat := by
    rw [hk] at e
    have : ((k * Q.toNat : Nat) : Int) = P - 1 := by
      rw [e, Int.natCast_mul, Int.toNat_of_nonneg (by omega), Int.mul_comm]
    omega
  have p1 : (A ^ k % P) ^ Q.toNat % P = A ^ (P - 1).toNat % P := by
    rw [e2, Int.pow_mul]
    exact Eqm.iff.1 ((Eqm.mod P (A ^ k)).pow Q.toNat)
  have p2 : (A ^ k % P - 1) % P = (A ^ k - 1) % P := Eqm.iff.1 ((Eqm.mod P (A ^ k)).sub (Eqm.refl P 1))
  unfold Wit Wt
  rw [hk, p1, p2]
  exact ⟨fun h => h.2.2.2, fun h => ⟨q2, sq, hd, h⟩⟩
section
variable {w : World} {A1 A2 A3 : Option Addr} {n1 c1 n2 c2 n3 c3 : Nat} {P Q A : Int}
end
end Go.Proofs.Ytcnekfpgoceblaa
/-
  What smallNumber and checkNext answer.
-/
namespace Go.Proofs.Ytcnekfpgoceblaa
open Go.RowKit
set_option linter.unusedVariables false
theorem dl_not_one {Q : Int} (h0 : 0 ≤ Q) (h : ¬ (1 ≤ Q ∧ Q < W)) : dl Q ≠ 1 := by
  intro e
  have a := (dl_iff h0 1).1 (by omega)
  have b := (dl_zero h0)
  refine h ⟨?_, by simpa [Int.pow_succ] using a⟩
  rcases Int.lt_or_eq_of_le h0 with g | g
  · omega
  · have := b.2 g.symm; omega
section
variable {w : World} {A2 A1 : Option Addr} {n2 c2 n1 c1 nr cr b off : Nat} {Q P : Int}
end
end Go.Proofs.Ytcnekfpgoceblaa
/-
  A Spot in memory.
-/
namespace Go.Proofs.Ytcnekfpgoceblaa
open Go.RowKit
set_option linter.unusedVariables false
/-- A Spot in memory. -/
structure Sp (w : World) (b : Nat) (a c : Int) : Prop where
  lt : b < w.heap.size
  c0 : w.cell? ⟨b, 0, none⟩ = some (.int .u64 a)
  c1 : w.cell? ⟨b, 1, none⟩ = some (.iface 57 (.int .i64 c))
theorem Sp.below {w w' : World} {b : Nat} {a c : Int} (h : Sp w b a c) (hb : Below w.heap.size w w') : Sp w' b a c :=
  ⟨Nat.lt_of_lt_of_le h.lt hb.size, (hb.cell (p := ⟨b, 0, none⟩) h.lt).trans h.c0, (hb.cell (p := ⟨b, 1, none⟩) h.lt).trans h.c1⟩
end Go.Proofs.Ytcnekfpgoceblaa
/-
  What Check answers: the first step at fault, as a Spot; or the number that is proved.
-/
namespace Go.Proofs.Ytcnekfpgoceblaa
open Go.RowKit
set_option linter.unusedVariables false
/-- A step as a chain has it: three slices and their numbers. -/
structure Stp where
  A1 : Option Addr
  n1 : Nat
  c1 : Nat
  A2 : Option Addr
  n2 : Nat
  c2 : Nat
  A3 : Option Addr
  n3 : Nat
  c3 : Nat
  P : Int
  Q : Int
  A : Int
/-- A step's numbers, in memory. -/
structure Stp.At (w : World) (s : Stp) : Prop where
  p : Nm w s.A1 s.n1 s.c1 s.P
  q : Nm w s.A2 s.n2 s.c2 s.Q
  a : Nm w s.A3 s.n3 s.c3 s.A
theorem Stp.At.below {w w' : World} {s : Stp} (h : s.At w) (hb : Below w.heap.size w w') : s.At w' := ⟨h.p.below hb, h.q.below hb, h.a.below hb⟩
/-- The three cells of step i behind ⟨b, off⟩. -/
structure Cells (w : World) (b off : Nat) (s : Stp) : Prop where
  c0 : w.cell? ⟨b, off, none⟩ = some (.slice s.A1 s.n1 s.c1)
  c1 : w.cell? ⟨b, off + 1, none⟩ = some (.slice s.A2 s.n2 s.c2)
  c2 : w.cell? ⟨b, off + 2, none⟩ = some (.slice s.A3 s.n3 s.c3)
/-- A chain of steps in memory. -/
structure Ch (w : World) (a : Option Addr) (n c : Nat) (S : Nat → Stp) : Prop where
  nc : n ≤ c
  c60 : n ≤ 17592186044416
  ex : 0 < n → ∃ b off, a = some ⟨b, off, none⟩ ∧ b < w.heap.size ∧ ∀ i, i < n → Cells w b (off + i * 3) (S i)
  at_ : ∀ i, i < n → (S i).At w
theorem Ch.below {w w' : World} {a : Option Addr} {n c : Nat} {S : Nat → Stp} (h : Ch w a n c S) (hb : Below w.heap.size w w') : Ch w' a n c S :=
  ⟨h.nc, h.c60, fun hn => by
    obtain ⟨b, off, e, hl, hc⟩ := h.ex hn
    exact ⟨b, off, e, Nat.lt_of_lt_of_le hl hb.size, fun i hi => ⟨(hb.cell (p := ⟨b, _, none⟩) hl).trans (hc i hi).c0, (hb.cell (p := ⟨b, _, none⟩) hl).trans (hc i hi).c1, (hb.cell (p := ⟨b, _, none⟩) hl).trans (hc i hi).c2⟩⟩, fun i hi => (h.at_ i hi).below hb⟩
/-- What is amiss with step i of a chain. -/
noncomputable def bdS (S : Nat → Stp) (n i : Nat) : Int := bd (fun j => (S j).P) (fun j => (S j).Q) (fun j => (S j).A) n i
noncomputable def scS (s : Stp) : Int := sc s.P s.Q s.A
def ChkR (S : Nat → Stp) (n : Nat) (w : World) (i : Value) (wr : World) : Prop := ∃ k : Nat, k ≤ n ∧ i = .int .i64 k ∧ (∀ j, j < k → bdS S n j = 0) ∧ Below w.heap.size w wr
end Go.Proofs.Ytcnekfpgoceblaa
