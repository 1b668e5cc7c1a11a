/-
  Several texts in one: Grp, El.
-/
import Derived.Test.YtcnekfpgoceblaaPri
/-
  The group of squares modulo P = 2 Q + 1: what layer 4 says of numbers. No call is spoken of here.
-/
namespace Go.Proofs.Ytcnekfpgoceblaa
set_option linter.unusedVariables false
section
variable {P g : Int} {q : Nat}
theorem not_eqm_neg (hP : 3 ≤ P) : ¬ Eqm P (-1) 1 := by
  intro h
  have := Eqm.iff.1 h
  rw [Int.emod_eq_of_lt (show (0 : Int) ≤ 1 by omega) (by omega)] at this
  have h2 : (-1 : Int) % P = P - 1 := by
    rw [← Int.add_mul_emod_self_left (-1) P 1, Int.mul_one, Int.emod_eq_of_lt (by omega) (by omega)]; omega
  omega
theorem neg_pow_odd (a : Int) {n : Nat} (h : n % 2 = 1) : (-a) ^ n = -(a ^ n) := by
  obtain ⟨k, rfl⟩ : ∃ k, n = 2 * k + 1 := ⟨n / 2, by omega⟩
  rw [Int.pow_succ, Int.pow_succ, Int.pow_mul, Int.pow_mul]
  have : (-a) ^ 2 = a ^ 2 := by simp only [Int.pow_succ, Int.pow_zero, Int.one_mul]; exact Int.neg_mul_neg a a
  rw [this, Int.mul_neg]
/-- Powers of g below the q-th are unlike. -/
theorem pow_inj (hq : Pr q) (h : Eqm P (g ^ q) 1) (hg : ¬ Eqm P g 1) {i j : Nat} (hi : i < q) (hj : j < q) (he : Eqm P (g ^ i) (g ^ j)) : i = j := by
  have key : ∀ {i j : Nat}, i < j → j < q → ¬ Eqm P (g ^ i) (g ^ j) := by
    intro i j hij hj he
    refine ord_prime hq h hg (j - i) (by omega) (by omega) ?_
    have h1 := he.mul (Eqm.refl P (g ^ (q - i)))
    rw [← Int.pow_add, ← Int.pow_add, show i + (q - i) = q by omega, show j + (q - i) = (j - i) + q by omega, Int.pow_add] at h1
    have h2 := (Eqm.refl P (g ^ (j - i))).mul h
    rw [Int.mul_one] at h2
    exact (h2.symm.trans h1.symm).trans h
  rcases Nat.lt_or_ge i j with a | a
  · exact absurd he (key a hj)
  · rcases Nat.lt_or_ge j i with b | b
    · exact absurd he.symm (key b hi)
    · omega
/-- What the i-th of the powers and their counterparts is. -/
def gp (g : Int) (q i : Nat) : Int := if i < q then g ^ i else -(g ^ (i - q))
theorem gp_q (h : Eqm P (g ^ q) 1) (hodd : q % 2 = 1) (i : Nat) : Eqm P (gp g q i ^ q) (if i < q then 1 else -1) := by
  have hp : ∀ k : Nat, Eqm P ((g ^ k) ^ q) 1 := fun k => by
    have h1 := h.pow k
    rw [Int.one_pow] at h1
    rwa [← Int.pow_mul, Nat.mul_comm, Int.pow_mul]
  unfold gp
  split
  · exact hp i
  · rw [neg_pow_odd _ hodd]
    have h1 := (Eqm.refl P 0).sub (hp (i - q))
    simpa using h1
theorem gp_inj (hP : 3 ≤ P) (hq : Pr q) (hodd : q % 2 = 1) (h : Eqm P (g ^ q) 1) (hg : ¬ Eqm P g 1) {i j : Nat} (hi : i < 2 * q) (hj : j < 2 * q) (he : Eqm P (gp g q i) (gp g q j)) : i = j := by
  have hp := (gp_q h hodd i).symm.trans ((he.pow q).trans (gp_q h hodd j))
  by_cases a : i < q
  · by_cases b : j < q
    · unfold gp at he
      rw [if_pos a, if_pos b] at he
      exact pow_inj hq h hg a b he
    · rw [if_pos a, if_neg b] at hp
      exact absurd hp.symm (not_eqm_neg hP)
  · by_cases b : j < q
    · rw [if_neg a, if_pos b] at hp
      exact absurd hp (not_eqm_neg hP)
    · unfold gp at he
      rw [if_neg a, if_neg b] at he
      have h1 := (Eqm.refl P 0).sub he
      simp at h1
      have := pow_inj hq h hg (show i - q < q by omega) (show j - q < q by omega) h1
      omega
theorem gp_ne (hP : 3 ≤ P) (hodd : q % 2 = 1) (hq0 : 0 < q) (h : Eqm P (g ^ q) 1) (i : Nat) : ¬ Eqm P (gp g q i) 0 := by
  intro h0
  have h1 := (gp_q h hodd i).symm.trans (h0.pow q)
  rw [Int.zero_pow (by omega)] at h1
  split at h1
  · have := Eqm.iff.1 h1
    rw [Int.emod_eq_of_lt (by omega) (by omega), Int.zero_emod] at this
    cases this
  · have h2 := (Eqm.refl P 0).sub h1
    have := Eqm.iff.1 h2
    simp at this
    rw [Int.emod_eq_of_lt (by omega) (by omega)] at this
    cases this
/-- Every number that P doesn't divide is a power of g, or the counterpart of one. -/
theorem cover (hP : P = 2 * (q : Int) + 1) (hq : Pr q) (hodd : q % 2 = 1) (h : Eqm P (g ^ q) 1) (hg : ¬ Eqm P g 1) {u : Int} (u1 : 1 ≤ u) (uP : u < P) : ∃ i, i < 2 * q ∧ Eqm P u (gp g q i) := by
  have q2 : 2 ≤ (q : Int) := hq.1
  have P3 : 3 ≤ P := by omega
  apply Classical.byContradiction
  intro hno
  have hno : ∀ i, i < 2 * q → ¬ Eqm P u (gp g q i) := fun i hi he => hno ⟨i, hi, he⟩
  have hr0 : ∀ i, i < 2 * q → 1 ≤ gp g q i % P ∧ gp g q i % P < P ∧ gp g q i % P ≠ u := by
    intro i hi
    have a := Int.emod_nonneg (gp g q i) (show P ≠ 0 by omega)
    have b := Int.emod_lt_of_pos (gp g q i) (show 0 < P by omega)
    have c : gp g q i % P ≠ 0 := fun e => gp_ne P3 hodd (by omega) h i (Eqm.iff.2 (by rw [e, Int.zero_emod]))
    have d : gp g q i % P ≠ u := fun e => hno i hi (Eqm.iff.2 (by rw [e, Int.emod_eq_of_lt (by omega) uP]))
    exact ⟨by omega, b, d⟩
  have := pigeon (2 * q - 1) (2 * q) (fun i => if gp g q i % P < u then (gp g q i % P - 1).toNat else (gp g q i % P - 2).toNat)
    (fun i hi => by
      obtain ⟨a, b, c⟩ := hr0 i hi
      show (if gp g q i % P < u then (gp g q i % P - 1).toNat else (gp g q i % P - 2).toNat) < 2 * q - 1
      split <;> omega)
    (fun i j hi hj e => by
      obtain ⟨a, b, c⟩ := hr0 i hi
      obtain ⟨a', b', c'⟩ := hr0 j hj
      have e' : gp g q i % P = gp g q j % P := by
        have e : (if gp g q i % P < u then (gp g q i % P - 1).toNat else (gp g q i % P - 2).toNat) = (if gp g q j % P < u then (gp g q j % P - 1).toNat else (gp g q j % P - 2).toNat) := e
        split at e <;> split at e <;> omega
      exact gp_inj P3 hq hodd h hg hi hj (Eqm.iff.2 e'))
  omega
/-- Of a number and its counterpart just one has 1 for its q-th power. -/
theorem halves (hP : P = 2 * (q : Int) + 1) (hq : Pr q) (hodd : q % 2 = 1) (h : Eqm P (g ^ q) 1) (hg : ¬ Eqm P g 1) {u : Int} (u1 : 1 ≤ u) (uP : u < P) : (u ^ q % P = 1 ∧ (P - u) ^ q % P ≠ 1) ∨ (u ^ q % P ≠ 1 ∧ (P - u) ^ q % P = 1) := by
  have q2 : 2 ≤ (q : Int) := hq.1
  have P3 : 3 ≤ P := by omega
  obtain ⟨i, hi, he⟩ := cover hP hq hodd h hg u1 uP
  have e1 := (he.pow q).trans (gp_q h hodd i)
  have e2 : Eqm P ((P - u) ^ q) (-(u ^ q)) := by
    rw [← neg_pow_odd u hodd]
    refine Eqm.pow (Eqm.iff.2 ?_) q
    rw [show P - u = -u + P * 1 by omega, Int.add_mul_emod_self_left]
  have one_ : ∀ a : Int, a % P = 1 ↔ Eqm P a 1 := fun a => ⟨fun e => Eqm.iff.2 (by rw [e, Int.emod_eq_of_lt (by omega) (by omega)]), fun e => by rw [Eqm.iff.1 e, Int.emod_eq_of_lt (by omega) (by omega)]⟩
  rw [one_, one_, Ne, Ne, one_, one_]
  split at e1
  · refine .inl ⟨e1, fun e3 => not_eqm_neg P3 ?_⟩
    have h1 := (Eqm.refl P 0).sub e1
    simp at h1
    exact h1.symm.trans (e2.symm.trans e3)
  · refine .inr ⟨fun e3 => not_eqm_neg P3 (e1.symm.trans e3), ?_⟩
    have h1 := (Eqm.refl P 0).sub e1
    simp at h1
    exact e2.trans h1
/-- An element's power is 1 just where the exponent is a multiple of q, or the element is 1. -/
theorem orders (hq : Pr q) (h : Eqm P (g ^ q) 1) (e : Nat) : Eqm P (g ^ e) 1 ↔ e % q = 0 ∨ Eqm P g 1 := by
  have hs : Eqm P (g ^ e) (g ^ (e % q)) := by
    have e1 : g ^ e = (g ^ q) ^ (e / q) * g ^ (e % q) := by
      rw [← Int.pow_mul, ← Int.pow_add]; congr 1; exact (Nat.div_add_mod e q).symm
    have h2 := (h.pow (e / q)).mul (Eqm.refl P (g ^ (e % q)))
    rwa [Int.one_pow, Int.one_mul, ← e1] at h2
  constructor
  · intro he
    by_cases hg : Eqm P g 1
    · exact .inr hg
    · refine .inl ?_
      rcases Nat.eq_zero_or_pos (e % q) with z | z
      · exact z
      · exact absurd (hs.symm.trans he) (ord_prime hq h hg _ z (Nat.mod_lt _ (by have := hq.1; omega)))
  · rintro (z | hg)
    · rw [z, Int.pow_zero] at hs; exact hs
    · have := hg.pow e
      rwa [Int.one_pow] at this
end
end Go.Proofs.Ytcnekfpgoceblaa
/-
  Elements of the group: what layer 4 says of numbers. No call is spoken of here.
-/
namespace Go.Proofs.Ytcnekfpgoceblaa
set_option linter.unusedVariables false
/-- An element. -/
def El (P Q a : Int) : Prop := 1 ≤ a ∧ a < P ∧ a ^ Q.toNat % P = 1
section
variable {P Q a b : Int}
theorem one_eqm (hP : 2 ≤ P) {x : Int} : x % P = 1 ↔ Eqm P x 1 := by
  rw [Eqm.iff, Int.emod_eq_of_lt (show (0 : Int) ≤ 1 by omega) (show (1 : Int) < P by omega)]
theorem El.eqm (hP : 2 ≤ P) (h : El P Q a) : Eqm P (a ^ Q.toNat) 1 := (one_eqm hP).1 h.2.2
theorem El.self (h : El P Q a) : a % P = a := Int.emod_eq_of_lt (by have := h.1; omega) h.2.1
theorem el_rest (hP : 2 ≤ P) (hQ : 1 ≤ Q) (h : Eqm P (a ^ Q.toNat) 1) : El P Q (a % P) := by
  have h1 : Eqm P ((a % P) ^ Q.toNat) 1 := ((Eqm.mod P a).pow _).trans h
  have r0 := Int.emod_nonneg a (show P ≠ 0 by omega)
  have r1 := Int.emod_lt_of_pos a (show 0 < P by omega)
  refine ⟨?_, r1, (one_eqm hP).2 h1⟩
  rcases Int.lt_or_eq_of_le r0 with g | g
  · omega
  · rw [← g, Int.zero_pow (by omega)] at h1
    have := Eqm.iff.1 h1
    rw [Int.zero_emod, Int.emod_eq_of_lt (by omega) (by omega)] at this
    omega
theorem el_one (hP : 2 ≤ P) : El P Q 1 := ⟨by omega, by omega, by rw [Int.one_pow, Int.emod_eq_of_lt (by omega) (by omega)]⟩
theorem El.mul (hP : 2 ≤ P) (hQ : 1 ≤ Q) (h : El P Q a) (k : El P Q b) : El P Q (a * b % P) := by
  refine el_rest hP hQ ?_
  rw [Int.mul_pow]
  have := (h.eqm hP).mul (k.eqm hP)
  rwa [Int.mul_one] at this
theorem El.pow (hP : 2 ≤ P) (hQ : 1 ≤ Q) (h : El P Q a) (e : Nat) : El P Q (a ^ e % P) := by
  refine el_rest hP hQ ?_
  rw [← Int.pow_mul, Nat.mul_comm, Int.pow_mul]
  have := (h.eqm hP).pow e
  rwa [Int.one_pow] at this
/-- What makes 1 of an element. -/
def iv (P Q b : Int) : Int := b ^ (Q - 1).toNat % P
theorem El.iv (hP : 2 ≤ P) (hQ : 1 ≤ Q) (h : El P Q b) : El P Q (iv P Q b) := h.pow hP hQ _
theorem El.inv (hP : 2 ≤ P) (hQ : 1 ≤ Q) (h : El P Q b) : Eqm P (b * Go.Proofs.Ytcnekfpgoceblaa.iv P Q b) 1 := by
  have e : b * b ^ (Q - 1).toNat = b ^ Q.toNat := by rw [show Q.toNat = (Q - 1).toNat + 1 by omega, Int.pow_succ, Int.mul_comm]
  have h1 := (Eqm.refl P b).mul (Eqm.mod P (b ^ (Q - 1).toNat))
  rw [e] at h1
  exact h1.trans (h.eqm hP)
theorem El.gcd (hP : 2 ≤ P) (hQ : 1 ≤ Q) (h : El P Q b) : Int.gcd P (b % P) = 1 := by
  rw [h.self]
  obtain ⟨k, hk⟩ := h.inv hP hQ
  have d1 := Int.gcd_dvd_left P b
  have d2 := Int.gcd_dvd_right P b
  have d3 : (Int.gcd P b : Int) ∣ 1 := by
    have e : (1 : Int) = b * Go.Proofs.Ytcnekfpgoceblaa.iv P Q b - k * P := by omega
    rw [e]
    exact Int.dvd_sub (Int.dvd_mul_of_dvd_left d2) (Int.dvd_mul_of_dvd_right d1)
  have := Int.eq_one_of_dvd_one (Int.natCast_nonneg _) d3
  omega
theorem El.uniq (hP : 2 ≤ P) (hQ : 1 ≤ Q) (h : El P Q b) {U : Int} (u0 : 1 ≤ U) (u1 : U < P) (hu : Eqm P (b * U) 1) : U = Go.Proofs.Ytcnekfpgoceblaa.iv P Q b :=
  inv_uniq (Eqm.refl P b) hu (h.inv hP hQ) (by omega) u1 (by have := (h.iv hP hQ).1; omega) (h.iv hP hQ).2.1
/-- What is divided comes back. -/
theorem El.back (hP : 2 ≤ P) (hQ : 1 ≤ Q) (h : El P Q a) (k : El P Q b) : a * b % P * Go.Proofs.Ytcnekfpgoceblaa.iv P Q b % P = a := by
  have h1 := (Eqm.mod P (a * b)).mul (Eqm.refl P (Go.Proofs.Ytcnekfpgoceblaa.iv P Q b))
  have h2 := (Eqm.refl P a).mul (k.inv hP hQ)
  rw [← Int.mul_assoc, Int.mul_one] at h2
  rw [Eqm.iff.1 (h1.trans h2), h.self]
/-- An exponent counts modulo Q alone. -/
theorem El.red (hP : 2 ≤ P) (hQ : 1 ≤ Q) (h : El P Q a) {s : Int} (hs : 0 ≤ s) : a ^ (s % Q).toNat % P = a ^ s.toNat % P := by
  have h1 := h.eqm hP
  obtain ⟨q, rfl⟩ : ∃ q : Nat, Q = q := ⟨Q.toNat, by omega⟩
  obtain ⟨t, rfl⟩ : ∃ t : Nat, s = t := ⟨s.toNat, by omega⟩
  have e : ((t : Int) % (q : Int)).toNat = t % q := by rw [← Int.natCast_emod, Int.toNat_natCast]
  rw [e, Int.toNat_natCast]
  rw [Int.toNat_natCast] at h1
  rw [← Eqm.iff]
  have e1 : a ^ t = (a ^ q) ^ (t / q) * a ^ (t % q) := by rw [← Int.pow_mul, ← Int.pow_add]; congr 1; exact (Nat.div_add_mod t q).symm
  have h2 := (h1.pow (t / q)).mul (Eqm.refl P (a ^ (t % q)))
  rw [Int.one_pow, Int.one_mul, ← e1] at h2
  exact h2.symm
/-- Sums of scalars are products. -/
theorem El.sum (hP : 2 ≤ P) (hQ : 1 ≤ Q) (h : El P Q a) {s t : Int} (hs : 0 ≤ s) (ht : 0 ≤ t) : a ^ ((s + t) % Q).toNat % P = a ^ s.toNat % P * (a ^ t.toNat % P) % P := by
  rw [h.red hP hQ (Int.add_nonneg hs ht), ← Int.mul_emod, ← Int.pow_add, Int.toNat_add hs ht]
end
/-- A safe prime. -/
structure Safe (P Q : Int) : Prop where
  pq : P = 2 * Q + 1
  q3 : 3 ≤ Q
  odd : Q % 2 = 1
  qr : Pr Q
section
variable {P Q G a : Int}
theorem Safe.p2 (h : Safe P Q) : 2 ≤ P := by have := h.pq; have := h.q3; omega
theorem Safe.q1 (h : Safe P Q) : 1 ≤ Q := by have := h.q3; omega
theorem Safe.nat (h : Safe P Q) : ∃ q : Nat, Q = q ∧ Q.toNat = q ∧ q % 2 = 1 := ⟨Q.toNat, by have := h.q3; omega, rfl, by have := h.odd; have := h.q3; omega⟩
theorem el_ne_one (hP : 2 ≤ P) (h : El P Q G) (h1 : G ≠ 1) : ¬ Eqm P G 1 := fun e => by
  have := (one_eqm hP).2 e
  rw [h.self] at this
  exact h1 this
/-- Of a number and its counterpart just one is an element. -/
theorem el_halves (h : Safe P Q) (hG : El P Q G) (hg : G ≠ 1) (a1 : 1 ≤ a) (aP : a < P) : (El P Q a ∧ ¬ El P Q (P - a)) ∨ (¬ El P Q a ∧ El P Q (P - a)) := by
  obtain ⟨q, hq, hq2, hodd⟩ := h.nat
  have hGe := hG.eqm h.p2
  rw [hq2] at hGe
  rcases halves (P := P) (g := G) (q := q) (by rw [← hq]; exact h.pq) (hq ▸ h.qr) hodd hGe (el_ne_one h.p2 hG hg) a1 aP with ⟨u, v⟩ | ⟨u, v⟩
  · exact .inl ⟨⟨a1, aP, by rw [hq2]; exact u⟩, fun e => v (by have := e.2.2; rwa [hq2] at this)⟩
  · exact .inr ⟨fun e => u (by have := e.2.2; rwa [hq2] at this), ⟨by omega, by omega, by rw [hq2]; exact v⟩⟩
/-- An element's power is 1 just where the scalar is a multiple of Q, or the element is 1. -/
theorem el_orders (h : Safe P Q) (ha : El P Q a) {s : Int} (hs : 0 ≤ s) : a ^ s.toNat % P = 1 ↔ s % Q = 0 ∨ a = 1 := by
  obtain ⟨q, hq, hq2, hodd⟩ := h.nat
  have he := ha.eqm h.p2
  rw [hq2] at he
  have := orders (P := P) (g := a) (q := q) (hq ▸ h.qr) he s.toNat
  rw [one_eqm h.p2, this]
  have e1 : s.toNat % q = 0 ↔ s % Q = 0 := by
    obtain ⟨t, rfl⟩ : ∃ t : Nat, s = t := ⟨s.toNat, by omega⟩
    rw [hq, Int.toNat_natCast, ← Int.natCast_emod]
    omega
  have e2 : Eqm P a 1 ↔ a = 1 := by
    rw [← one_eqm h.p2, ha.self]
  rw [e1, e2]
end
end Go.Proofs.Ytcnekfpgoceblaa
