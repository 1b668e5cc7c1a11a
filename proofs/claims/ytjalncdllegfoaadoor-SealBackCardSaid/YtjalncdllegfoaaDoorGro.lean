/-
  Several texts in one: Grp, El, G0, G1, Gno, Gex, Gpq, Gg, G2, G3, Kno.
-/
import Derived.Test.YtjalncdllegfoaaDoorPri
import Derived.Test.YtjalncdllegfoaaDoorPkm
import Derived.Test.YtjalncdllegfoaaDoorPkf
import Derived.Test.YtjalncdllegfoaaDoorPka
import Derived.Test.YtjalncdllegfoaaDoorPkg
/-
  The group of squares modulo P = 2 Q + 1: what layer 4 says of numbers. No call is spoken of here.
-/
namespace Go.Proofs.YtjalncdllegfoaaDoor
set_option linter.unusedVariables false
section
variable {P g : Int} {q : Nat}
theorem not_eqm_neg (hP : 3 ≤ P) : ¬ Eqm P (-1) 1 := by
  intro h
  have := Eqm.iff.1 h
  rw [Int.emod_eq_of_lt (show (0 : Int) ≤ 1 by omega) (by omega)] at this
  have h2 : (-1 : Int) % P = P - 1 := by
    rw [← Int.add_mul_emod_self_left (-1) P 1, Int.mul_one, Int.emod_eq_of_lt (by omega) (by omega)]; omega
  omega
theorem neg_pow_odd (a : Int) {n : Nat} (h : n % 2 = 1) : (-a) ^ n = -(a ^ n) := by
  obtain ⟨k, rfl⟩ : ∃ k, n = 2 * k + 1 := ⟨n / 2, by omega⟩
  rw [Int.pow_succ, Int.pow_succ, Int.pow_mul, Int.pow_mul]
  have : (-a) ^ 2 = a ^ 2 := by simp only [Int.pow_succ, Int.pow_zero, Int.one_mul]; exact Int.neg_mul_neg a a
  rw [this, Int.mul_neg]
/-- Powers of g below the q-th are unlike. -/
theorem pow_inj (hq : Pr q) (h : Eqm P (g ^ q) 1) (hg : ¬ Eqm P g 1) {i j : Nat} (hi : i < q) (hj : j < q) (he : Eqm P (g ^ i) (g ^ j)) : i = j := by
  have key : ∀ {i j : Nat}, i < j → j < q → ¬ Eqm P (g ^ i) (g ^ j) := by
    intro i j hij hj he
    refine ord_prime hq h hg (j - i) (by omega) (by omega) ?_
    have h1 := he.mul (Eqm.refl P (g ^ (q - i)))
    rw [← Int.pow_add, ← Int.pow_add, show i + (q - i) = q by omega, show j + (q - i) = (j - i) + q by omega, Int.pow_add] at h1
    have h2 := (Eqm.refl P (g ^ (j - i))).mul h
    rw [Int.mul_one] at h2
    exact (h2.symm.trans h1.symm).trans h
  rcases Nat.lt_or_ge i j with a | a
  · exact absurd he (key a hj)
  · rcases Nat.lt_or_ge j i with b | b
    · exact absurd he.symm (key b hi)
    · omega
/-- What the i-th of the powers and their counterparts is. -/
def gp (g : Int) (q i : Nat) : Int := if i < q then g ^ i else -(g ^ (i - q))
theorem gp_q (h : Eqm P (g ^ q) 1) (hodd : q % 2 = 1) (i : Nat) : Eqm P (gp g q i ^ q) (if i < q then 1 else -1) := by
  have hp : ∀ k : Nat, Eqm P ((g ^ k) ^ q) 1 := fun k => by
    have h1 := h.pow k
    rw [Int.one_pow] at h1
    rwa [← Int.pow_mul, Nat.mul_comm, Int.pow_mul]
  unfold gp
  split
  · exact hp i
  · rw [neg_pow_odd _ hodd]
    have h1 := (Eqm.refl P 0).sub (hp (i - q))
    simpa using h1
theorem gp_inj (hP : 3 ≤ P) (hq : Pr q) (hodd : q % 2 = 1) (h : Eqm P (g ^ q) 1) (hg : ¬ Eqm P g 1) {i j : Nat} (hi : i < 2 * q) (hj : j < 2 * q) (he : Eqm P (gp g q i) (gp g q j)) : i = j := by
  have hp := (gp_q h hodd i).symm.trans ((he.pow q).trans (gp_q h hodd j))
  by_cases a : i < q
  · by_cases b : j < q
    · unfold gp at he
      rw [if_pos a, if_pos b] at he
      exact pow_inj hq h hg a b he
    · rw [if_pos a, if_neg b] at hp
      exact absurd hp.symm (not_eqm_neg hP)
  · by_cases b : j < q
    · rw [if_neg a, if_pos b] at hp
      exact absurd hp (not_eqm_neg hP)
    · unfold gp at he
      rw [if_neg a, if_neg b] at he
      have h1 := (Eqm.refl P 0).sub he
      simp at h1
      have := pow_inj hq h hg (show i - q < q by omega) (show j - q < q by omega) h1
      omega
theorem gp_ne (hP : 3 ≤ P) (hodd : q % 2 = 1) (hq0 : 0 < q) (h : Eqm P (g ^ q) 1) (i : Nat) : ¬ Eqm P (gp g q i) 0 := by
  intro h0
  have h1 := (gp_q h hodd i).symm.trans (h0.pow q)
  rw [Int.zero_pow (by omega)] at h1
  split at h1
  · have := Eqm.iff.1 h1
    rw [Int.emod_eq_of_lt (by omega) (by omega), Int.zero_emod] at this
    cases this
  · have h2 := (Eqm.refl P 0).sub h1
    have := Eqm.iff.1 h2
    simp at this
    rw [Int.emod_eq_of_lt (by omega) (by omega)] at this
    cases this
/-- Every number that P doesn't divide is a power of g, or the counterpart of one. -/
theorem cover (hP : P = 2 * (q : Int) + 1) (hq : Pr q) (hodd : q % 2 = 1) (h : Eqm P (g ^ q) 1) (hg : ¬ Eqm P g 1) {u : Int} (u1 : 1 ≤ u) (uP : u < P) : ∃ i, i < 2 * q ∧ Eqm P u (gp g q i) := by
  have q2 : 2 ≤ (q : Int) := hq.1
  have P3 : 3 ≤ P := by omega
  apply Classical.byContradiction
  intro hno
  have hno : ∀ i, i < 2 * q → ¬ Eqm P u (gp g q i) := fun i hi he => hno ⟨i, hi, he⟩
  have hr0 : ∀ i, i < 2 * q → 1 ≤ gp g q i % P ∧ gp g q i % P < P ∧ gp g q i % P ≠ u := by
    intro i hi
    have a := Int.emod_nonneg (gp g q i) (show P ≠ 0 by omega)
    have b := Int.emod_lt_of_pos (gp g q i) (show 0 < P by omega)
    have c : gp g q i % P ≠ 0 := fun e => gp_ne P3 hodd (by omega) h i (Eqm.iff.2 (by rw [e, Int.zero_emod]))
    have d : gp g q i % P ≠ u := fun e => hno i hi (Eqm.iff.2 (by rw [e, Int.emod_eq_of_lt (by omega) uP]))
    exact ⟨by omega, b, d⟩
  have := pigeon (2 * q - 1) (2 * q) (fun i => if gp g q i % P < u then (gp g q i % P - 1).toNat else (gp g q i % P - 2).toNat)
    (fun i hi => by
      obtain ⟨a, b, c⟩ := hr0 i hi
      show (if gp g q i % P < u then (gp g q i % P - 1).toNat else (gp g q i % P - 2).toNat) < 2 * q - 1
      split <;> omega)
    (fun i j hi hj e => by
      obtain ⟨a, b, c⟩ := hr0 i hi
      obtain ⟨a', b', c'⟩ := hr0 j hj
      have e' : gp g q i % P = gp g q j % P := by
        have e : (if gp g q i % P < u then (gp g q i % P - 1).toNat else (gp g q i % P - 2).toNat) = (if gp g q j % P < u then (gp g q j % P - 1).toNat else (gp g q j % P - 2).toNat) := e
        split at e <;> split at e <;> omega
      exact gp_inj P3 hq hodd h hg hi hj (Eqm.iff.2 e'))
  omega
/-- Of a number and its counterpart just one has 1 for its q-th power. -/
theorem halves (hP : P = 2 * (q : Int) + 1) (hq : Pr q) (hodd : q % 2 = 1) (h : Eqm P (g ^ q) 1) (hg : ¬ Eqm P g 1) {u : Int} (u1 : 1 ≤ u) (uP : u < P) : (u ^ q % P = 1 ∧ (P - u) ^ q % P ≠ 1) ∨ (u ^ q % P ≠ 1 ∧ (P - u) ^ q % P = 1) := by
  have q2 : 2 ≤ (q : Int) := hq.1
  have P3 : 3 ≤ P := by omega
  obtain ⟨i, hi, he⟩ := cover hP hq hodd h hg u1 uP
  have e1 := (he.pow q).trans (gp_q h hodd i)
  have e2 : Eqm P ((P - u) ^ q) (-(u ^ q)) := by
    rw [← neg_pow_odd u hodd]
    refine Eqm.pow (Eqm.iff.2 ?_) q
    rw [show P - u = -u + P * 1 by omega, Int.add_mul_emod_self_left]
  have one_ : ∀ a : Int, a % P = 1 ↔ Eqm P a 1 := fun a => ⟨fun e => Eqm.iff.2 (by rw [e, Int.emod_eq_of_lt (by omega) (by omega)]), fun e => by rw [Eqm.iff.1 e, Int.emod_eq_of_lt (by omega) (by omega)]⟩
  rw [one_, one_, Ne, Ne, one_, one_]
  split at e1
  · refine .inl ⟨e1, fun e3 => not_eqm_neg P3 ?_⟩
    have h1 := (Eqm.refl P 0).sub e1
    simp at h1
    exact h1.symm.trans (e2.symm.trans e3)
  · refine .inr ⟨fun e3 => not_eqm_neg P3 (e1.symm.trans e3), ?_⟩
    have h1 := (Eqm.refl P 0).sub e1
    simp at h1
    exact e2.trans h1
/-- An element's power is 1 just where the exponent is a multiple of q, or the element is 1. -/
theorem orders (hq : Pr q) (h : Eqm P (g ^ q) 1) (e : Nat) : Eqm P (g ^ e) 1 ↔ e % q = 0 ∨ Eqm P g 1 := by
  have hs : Eqm P (g ^ e) (g ^ (e % q)) := by
    have e1 : g ^ e = (g ^ q) ^ (e / q) * g ^ (e % q) := by
      rw [← Int.pow_mul, ← Int.pow_add]; congr 1; exact (Nat.div_add_mod e q).symm
    have h2 := (h.pow (e / q)).mul (Eqm.refl P (g ^ (e % q)))
    rwa [Int.one_pow, Int.one_mul, ← e1] at h2
  constructor
  · intro he
    by_cases hg : Eqm P g 1
    · exact .inr hg
    · refine .inl ?_
      rcases Nat.eq_zero_or_pos (e % q) with z | z
      · exact z
      · exact absurd (hs.symm.trans he) (ord_prime hq h hg _ z (Nat.mod_lt _ (by have := hq.1; omega)))
  · rintro (z | hg)
    · rw [z, Int.pow_zero] at hs; exact hs
    · have := hg.pow e
      rwa [Int.one_pow] at this
end
end Go.Proofs.YtjalncdllegfoaaDoor
/-
  Elements of the group: what layer 4 says of numbers. No call is spoken of here.
-/
namespace Go.Proofs.YtjalncdllegfoaaDoor
set_option linter.unusedVariables false
/-- An element. -/
def El (P Q a : Int) : Prop := 1 ≤ a ∧ a < P ∧ a ^ Q.toNat % P = 1
section
variable {P Q a b : Int}
theorem one_eqm (hP : 2 ≤ P) {x : Int} : x % P = 1 ↔ Eqm P x 1 := by
  rw [Eqm.iff, Int.emod_eq_of_lt (show (0 : Int) ≤ 1 by omega) (show (1 : Int) < P by omega)]
theorem El.eqm (hP : 2 ≤ P) (h : El P Q a) : Eqm P (a ^ Q.toNat) 1 := (one_eqm hP).1 h.2.2
theorem El.self (h : El P Q a) : a % P = a := Int.emod_eq_of_lt (by have := h.1; omega) h.2.1
theorem el_rest (hP : 2 ≤ P) (hQ : 1 ≤ Q) (h : Eqm P (a ^ Q.toNat) 1) : El P Q (a % P) := by
  have h1 : Eqm P ((a % P) ^ Q.toNat) 1 := ((Eqm.mod P a).pow _).trans h
  have r0 := Int.emod_nonneg a (show P ≠ 0 by omega)
  have r1 := Int.emod_lt_of_pos a (show 0 < P by omega)
  refine ⟨?_, r1, (one_eqm hP).2 h1⟩
  rcases Int.lt_or_eq_of_le r0 with g | g
  · omega
  · rw [← g, Int.zero_pow (by omega)] at h1
    have := Eqm.iff.1 h1
    rw [Int.zero_emod, Int.emod_eq_of_lt (by omega) (by omega)] at this
    omega
theorem el_one (hP : 2 ≤ P) : El P Q 1 := ⟨by omega, by omega, by rw [Int.one_pow, Int.emod_eq_of_lt (by omega) (by omega)]⟩
theorem El.mul (hP : 2 ≤ P) (hQ : 1 ≤ Q) (h : El P Q a) (k : El P Q b) : El P Q (a * b % P) := by
  refine el_rest hP hQ ?_
  rw [Int.mul_pow]
  have := (h.eqm hP).mul (k.eqm hP)
  rwa [Int.mul_one] at this
theorem El.pow (hP : 2 ≤ P) (hQ : 1 ≤ Q) (h : El P Q a) (e : Nat) : El P Q (a ^ e % P) := by
  refine el_rest hP hQ ?_
  rw [← Int.pow_mul, Nat.mul_comm, Int.pow_mul]
  have := (h.eqm hP).pow e
  rwa [Int.one_pow] at this
/-- What makes 1 of an element. -/
def iv (P Q b : Int) : Int := b ^ (Q - 1).toNat % P
theorem El.iv (hP : 2 ≤ P) (hQ : 1 ≤ Q) (h : El P Q b) : El P Q (iv P Q b) := h.pow hP hQ _
theorem El.inv (hP : 2 ≤ P) (hQ : 1 ≤ Q) (h : El P Q b) : Eqm P (b * Go.Proofs.YtjalncdllegfoaaDoor.iv P Q b) 1 := by
  have e : b * b ^ (Q - 1).toNat = b ^ Q.toNat := by rw [show Q.toNat = (Q - 1).toNat + 1 by omega, Int.pow_succ, Int.mul_comm]
  have h1 := (Eqm.refl P b).mul (Eqm.mod P (b ^ (Q - 1).toNat))
  rw [e] at h1
  exact h1.trans (h.eqm hP)
theorem El.gcd (hP : 2 ≤ P) (hQ : 1 ≤ Q) (h : El P Q b) : Int.gcd P (b % P) = 1 := by
  rw [h.self]
  obtain ⟨k, hk⟩ := h.inv hP hQ
  have d1 := Int.gcd_dvd_left P b
  have d2 := Int.gcd_dvd_right P b
  have d3 : (Int.gcd P b : Int) ∣ 1 := by
    have e : (1 : Int) = b * Go.Proofs.YtjalncdllegfoaaDoor.iv P Q b - k * P := by omega
    rw [e]
    exact Int.dvd_sub (Int.dvd_mul_of_dvd_left d2) (Int.dvd_mul_of_dvd_right d1)
  have := Int.eq_one_of_dvd_one (Int.natCast_nonneg _) d3
  omega
theorem El.uniq (hP : 2 ≤ P) (hQ : 1 ≤ Q) (h : El P Q b) {U : Int} (u0 : 1 ≤ U) (u1 : U < P) (hu : Eqm P (b * U) 1) : U = Go.Proofs.YtjalncdllegfoaaDoor.iv P Q b :=
  inv_uniq (Eqm.refl P b) hu (h.inv hP hQ) (by omega) u1 (by have := (h.iv hP hQ).1; omega) (h.iv hP hQ).2.1
/-- What is divided comes back. -/
theorem El.back (hP : 2 ≤ P) (hQ : 1 ≤ Q) (h : El P Q a) (k : El P Q b) : a * b % P * Go.Proofs.YtjalncdllegfoaaDoor.iv P Q b % P = a := by
  have h1 := (Eqm.mod P (a * b)).mul (Eqm.refl P (Go.Proofs.YtjalncdllegfoaaDoor.iv P Q b))
  have h2 := (Eqm.refl P a).mul (k.inv hP hQ)
  rw [← Int.mul_assoc, Int.mul_one] at h2
  rw [Eqm.iff.1 (h1.trans h2), h.self]
/-- An exponent counts modulo Q alone. -/
theorem El.red (hP : 2 ≤ P) (hQ : 1 ≤ Q) (h : El P Q a) {s : Int} (hs : 0 ≤ s) : a ^ (s % Q).toNat % P = a ^ s.toNat % P := by
  have h1 := h.eqm hP
  obtain ⟨q, rfl⟩ : ∃ q : Nat, Q = q := ⟨Q.toNat, by omega⟩
  obtain ⟨t, rfl⟩ : ∃ t : Nat, s = t := ⟨s.toNat, by omega⟩
  have e : ((t : Int) % (q : Int)).toNat = t % q := by rw [← Int.natCast_emod, Int.toNat_natCast]
  rw [e, Int.toNat_natCast]
  rw [Int.toNat_natCast] at h1
  rw [← Eqm.iff]
  have e1 : a ^ t = (a ^ q) ^ (t / q) * a ^ (t % q) := by rw [← Int.pow_mul, ← Int.pow_add]; congr 1; exact (Nat.div_add_mod t q).symm
  have h2 := (h1.pow (t / q)).mul (Eqm.refl P (a ^ (t % q)))
  rw [Int.one_pow, Int.one_mul, ← e1] at h2
  exact h2.symm
/-- Sums of scalars are products. -/
theorem El.sum (hP : 2 ≤ P) (hQ : 1 ≤ Q) (h : El P Q a) {s t : Int} (hs : 0 ≤ s) (ht : 0 ≤ t) : a ^ ((s + t) % Q).toNat % P = a ^ s.toNat % P * (a ^ t.toNat % P) % P := by
  rw [h.red hP hQ (Int.add_nonneg hs ht), ← Int.mul_emod, ← Int.pow_add, Int.toNat_add hs ht]
end
/-- A safe prime. -/
structure Safe (P Q : Int) : Prop where
  pq : P = 2 * Q + 1
  q3 : 3 ≤ Q
  odd : Q % 2 = 1
  qr : Pr Q
section
variable {P Q G a : Int}
theorem Safe.p2 (h : Safe P Q) : 2 ≤ P := by have := h.pq; have := h.q3; omega
theorem Safe.q1 (h : Safe P Q) : 1 ≤ Q := by have := h.q3; omega
theorem Safe.nat (h : Safe P Q) : ∃ q : Nat, Q = q ∧ Q.toNat = q ∧ q % 2 = 1 := ⟨Q.toNat, by have := h.q3; omega, rfl, by have := h.odd; have := h.q3; omega⟩
theorem el_ne_one (hP : 2 ≤ P) (h : El P Q G) (h1 : G ≠ 1) : ¬ Eqm P G 1 := fun e => by
  have := (one_eqm hP).2 e
  rw [h.self] at this
  exact h1 this
/-- Of a number and its counterpart just one is an element. -/
theorem el_halves (h : Safe P Q) (hG : El P Q G) (hg : G ≠ 1) (a1 : 1 ≤ a) (aP : a < P) : (El P Q a ∧ ¬ El P Q (P - a)) ∨ (¬ El P Q a ∧ El P Q (P - a)) := by
  obtain ⟨q, hq, hq2, hodd⟩ := h.nat
  have hGe := hG.eqm h.p2
  rw [hq2] at hGe
  rcases halves (P := P) (g := G) (q := q) (by rw [← hq]; exact h.pq) (hq ▸ h.qr) hodd hGe (el_ne_one h.p2 hG hg) a1 aP with ⟨u, v⟩ | ⟨u, v⟩
  · exact .inl ⟨⟨a1, aP, by rw [hq2]; exact u⟩, fun e => v (by have := e.2.2; rwa [hq2] at this)⟩
  · exact .inr ⟨fun e => u (by have := e.2.2; rwa [hq2] at this), ⟨by omega, by omega, by rw [hq2]; exact v⟩⟩
/-- An element's power is 1 just where the scalar is a multiple of Q, or the element is 1. -/
theorem el_orders (h : Safe P Q) (ha : El P Q a) {s : Int} (hs : 0 ≤ s) : a ^ s.toNat % P = 1 ↔ s % Q = 0 ∨ a = 1 := by
  obtain ⟨q, hq, hq2, hodd⟩ := h.nat
  have he := ha.eqm h.p2
  rw [hq2] at he
  have := orders (P := P) (g := a) (q := q) (hq ▸ h.qr) he s.toNat
  rw [one_eqm h.p2, this]
  have e1 : s.toNat % q = 0 ↔ s % Q = 0 := by
    obtain ⟨t, rfl⟩ : ∃ t : Nat, s = t := ⟨s.toNat, by omega⟩
    rw [hq, Int.toNat_natCast, ← Int.natCast_emod]
    omega
  have e2 : Eqm P a 1 ↔ a = 1 := by
    rw [← one_eqm h.p2, ha.self]
  rw [e1, e2]
end
end Go.Proofs.YtjalncdllegfoaaDoor
/-
  A group in memory; what Is, P, Q and G answer.
-/
namespace Go.Proofs.YtjalncdllegfoaaDoor
open Go.RowKit
set_option linter.unusedVariables false
/-- Where a group's parts lie, and its numbers. -/
structure Gd where
  bm : Nat
  n : Nat
  A : Option Addr
  c : Nat
  low : Int
  B : Option Addr
  cB : Nat
  S : Option Addr
  cS : Nat
  Aq : Option Addr
  nq : Nat
  cq : Nat
  Ag : Option Addr
  ng : Nat
  cg : Nat
  P : Int
  Q : Int
  G : Int
/-- What New has laid ahead of its last questions. -/
structure Gr0 (w : World) (b : Nat) (d : Gd) : Prop where
  lt : b < w.heap.size
  c0 : w.cell? ⟨b, 0, none⟩ = some (.pointer (some ⟨d.bm, 0, none⟩))
  c1 : w.cell? ⟨b, 1, none⟩ = some (.slice d.Aq d.nq d.cq)
  c2 : w.cell? ⟨b, 2, none⟩ = some (.slice d.Ag d.ng d.cg)
  md : Md w d.bm d.P d.n d.A d.c d.low d.B d.cB d.S d.cS
  q : Cn w d.Aq d.nq d.cq d.Q
  g : Cn w d.Ag d.ng d.cg d.G
  safe : Safe d.P d.Q
/-- A group. -/
structure Gr (w : World) (b : Nat) (d : Gd) : Prop extends Gr0 w b d where
  el : El d.P d.Q d.G
  g1 : d.G ≠ 1
  big : 9 ≤ nb d.Q
section
variable {w w' : World} {b : Nat} {d : Gd}
theorem Gr0.below (h : Gr0 w b d) (hb : Below w.heap.size w w') : Gr0 w' b d :=
  ⟨Nat.lt_of_lt_of_le h.lt hb.size, (hb.cell (p := ⟨b, 0, none⟩) h.lt).trans h.c0, (hb.cell (p := ⟨b, 1, none⟩) h.lt).trans h.c1, (hb.cell (p := ⟨b, 2, none⟩) h.lt).trans h.c2, h.md.below hb, h.q.below hb, h.g.below hb, h.safe⟩
theorem Gr.below (h : Gr w b d) (hb : Below w.heap.size w w') : Gr w' b d := ⟨h.toGr0.below hb, h.el, h.g1, h.big⟩
theorem Gr0.lq (h : Gr0 w b d) : dl d.Q ≤ 32 := by
  have h1 := h.md.len
  have h2 := h.md.l32
  have h3 := dl_mono (N := d.Q) (M := d.P) (by have := h.safe.q3; omega) (by have := h.safe.pq; have := h.safe.q3; omega)
  omega
theorem Gr0.lp (h : Gr0 w b d) : dl d.P ≤ 32 := by
  have h1 := h.md.len
  have h2 := h.md.l32
  omega
/-- A number below P is no longer than P. -/
theorem Gr0.la (h : Gr0 w b d) {a : Int} (a0 : 0 ≤ a) (ha : a < d.P) : dl a ≤ 64 := by
  have h1 := h.lp
  have h3 := dl_mono a0 (Int.le_of_lt ha)
  omega
theorem nb_nil : nb 0 = 0 := by unfold nb; rw [dg_zero]; rfl
theorem gis_zero (h : Gr0 w b d) {A : Option Addr} {n c : Nat} (ha : Nm w A n c 0) :
    Calls Tryd.prog 14 #[.pointer (some ⟨b, 0, none⟩), .slice A n c] w (AnsV (.bool false) w) := by
  have t1 : ((nb 0 : Int) == 0) = true := by rw [nb_nil]; rfl
  go_enter Tryd.func14, Tryd.ntmps14
  go_wp2_with fail
  refine (bits_any ha).mono ?_
  rintro e w1 ⟨rfl, rfl⟩
  go_wp2
  go_ret
  exact ⟨rfl, Below.refl _ _⟩
theorem nb_some {X : Int} (h : 1 ≤ X) : ((nb X : Int) == 0) = false := by
  have := nb_pos (L := X) (by omega)
  simp; omega
theorem gis_great (h : Gr0 w b d) {A : Option Addr} {n c : Nat} {X : Int} (ha : Nm w A n c X) (hx : d.P ≤ X) :
    Calls Tryd.prog 14 #[.pointer (some ⟨b, 0, none⟩), .slice A n c] w (AnsV (.bool false) w) := by
  have t1 := nb_some (X := X) (by have := h.safe.p2; omega)
  have t2 : decide (0 ≤ cmpI X d.P) = true := by
    simp
    rcases Int.lt_or_eq_of_le hx with g | g
    · rw [cmpI_gt g]; decide
    · rw [g, cmpI_eq]; decide
  have q0 := h.c0
  clear hx
  go_enter Tryd.func14, Tryd.ntmps14
  go_wp2_with fail
  refine (bits_any ha).mono ?_
  rintro e w1 ⟨rfl, rfl⟩
  go_wp2_with fail
  refine (modulus_any h.md).mono ?_
  rintro e w1 ⟨B1, m1, d1, rfl, k1, b1, -⟩
  have ha1 := ha.below b1
  clear q0
  go_wp2_with fail
  refine (cmp_v ha1 k1.nm).mono ?_
  rintro e w2 ⟨rfl, b2⟩
  have b12 := b1.trans (b2.mono b1.size)
  have G := Lib.hid b12
  clear b12 b1 b2 ha1 k1
  go_wp2
  go_ret
  exact ⟨rfl, G.out⟩
set_option maxHeartbeats 1000000 in
theorem gis_mid (h : Gr0 w b d) {A : Option Addr} {n c : Nat} {X : Int} (ha : Nm w A n c X) (h1 : 1 ≤ X) (hx : X < d.P) (r : Bool) (hr : decide (X ^ d.Q.toNat % d.P = 1) = r) :
    Calls Tryd.prog 14 #[.pointer (some ⟨b, 0, none⟩), .slice A n c] w (AnsV (.bool r) w) := by
  have t1 := nb_some h1
  have t2 : decide (0 ≤ cmpI X d.P) = false := by simp; rw [cmpI_lt hx]; decide
  have t3 : ((cmpI (X ^ d.Q.toNat % d.P) 1 : Int) == 0) = r := by
    rw [← hr]
    by_cases g : X ^ d.Q.toNat % d.P = 1
    · rw [g, cmpI_eq]; rfl
    · rw [decide_eq_false g]
      rcases Int.lt_or_gt_of_ne g with k | k
      · rw [cmpI_lt k]; rfl
      · rw [cmpI_gt k]; rfl
  have lx := h.la (by omega) hx
  have lq : dl d.Q ≤ 64 := by have := h.lq; omega
  have q0 := h.c0
  clear hx hr h1
  go_enter Tryd.func14, Tryd.ntmps14
  go_wp2_with fail
  refine (bits_any ha).mono ?_
  rintro e w1 ⟨rfl, rfl⟩
  go_wp2_with fail
  refine (modulus_any h.md).mono ?_
  rintro e w1 ⟨B1, m1, d1, rfl, k1, b1, -⟩
  have ha1 := ha.below b1
  clear q0
  go_wp2_with fail
  refine (cmp_v ha1 k1.nm).mono ?_
  rintro e w2 ⟨rfl, b2⟩
  have b12 := b1.trans (b2.mono b1.size)
  have h2 := h.below b12
  have q0 := h2.c0
  have q1 := h2.c1
  have bd := below_dr w2
  have b2d := b12.trans (bd.mono b12.size)
  have hd := h.below b2d
  have had := ha.below b2d
  have HD := Lib.hid hd
  have HAD := Lib.hid had
  have B2D := Lib.hid b2d
  clear b1 b2 ha1 k1 h2 bd b2d hd had b12
  go_wp2_with fail
  go_region_with (go_at_call 34; refine (exp_any HD.out.md HAD.out HD.out.q.nm lx lq).mono ?_; rintro e w3 ⟨B3, m3, d3, rfl, k3, b3, -⟩)
  all_goals
    have b13 := B2D.out.trans (b3.mono B2D.out.size)
    clear b3 q0 q1
    have L1 := Lib.hid (lit_one w3 1 (by decide) (by decide))
    have K3 := Lib.hid (k3.below (below_al w3 (.cells #[.int .u64 1] 45)))
    clear k3
    go_wp2_with fail
    refine (cmp_v K3.out.nm L1.out).mono ?_
    rintro e w4 ⟨rfl, b4⟩
    have b34 := below_one b4
    have b14 := b13.trans (b34.mono b13.size)
    have G := Lib.hid b14
    clear b14 b13 b34 b4 L1 K3
    go_wp2
    go_ret
    exact ⟨rfl, G.out⟩
/-- Is, of an element. -/
theorem gis_yes (h : Gr0 w b d) {A : Option Addr} {n c : Nat} {X : Int} (ha : Nm w A n c X) (he : El d.P d.Q X) :
    Calls Tryd.prog 14 #[.pointer (some ⟨b, 0, none⟩), .slice A n c] w (AnsV (.bool true) w) :=
  gis_mid h ha he.1 he.2.1 true (by rw [he.2.2]; rfl)
/-- Is, of another number. -/
theorem gis_no (h : Gr0 w b d) {A : Option Addr} {n c : Nat} {X : Int} (ha : Nm w A n c X) (he : ¬ El d.P d.Q X) :
    Calls Tryd.prog 14 #[.pointer (some ⟨b, 0, none⟩), .slice A n c] w (AnsV (.bool false) w) := by
  rcases Int.lt_or_le X d.P with g | g
  · rcases Int.lt_or_eq_of_le ha.pos with k | k
    · exact gis_mid h ha (by omega) g false (decide_eq_false fun e => he ⟨by omega, g, e⟩)
    · subst k; exact gis_zero h ha
  · exact gis_great h ha g
end
end Go.Proofs.YtjalncdllegfoaaDoor
/-
  What Over, Base and Scalars answer.
-/
namespace Go.Proofs.YtjalncdllegfoaaDoor
open Go.RowKit
set_option linter.unusedVariables false
section
variable {w w' : World} {b : Nat} {d : Gd} {A A' : Option Addr} {n c n' c' : Nat} {X Y : Int}
set_option maxHeartbeats 1000000 in
theorem gpower_any (h : Gr0 w b d) (ha : Nm w A n c X) (ha' : Nm w A' n' c' Y) (hx : El d.P d.Q X) (ly : dl Y ≤ 64) :
    Calls Tryd.prog 17 #[.pointer (some ⟨b, 0, none⟩), .slice A n c, .slice A' n' c'] w (Ans (X ^ Y.toNat % d.P) w) := by
  have lx := h.la (by have := hx.1; omega) hx.2.1
  have lq : dl d.Q ≤ 64 := by have := h.lq; omega
  have hq0 : 0 < d.Q := by have := h.safe.q3; omega
  have r0 := Int.emod_nonneg Y (show d.Q ≠ 0 by omega)
  have r1 := Int.emod_lt_of_pos Y hq0
  have lr : dl (Y % d.Q) ≤ 64 := h.la r0 (by have := h.safe.pq; omega)
  have e1 := hx.red h.safe.p2 h.safe.q1 ha'.pos
  have q1 := h.c1
  have HX := Lib.hid hx
  have E1 := Lib.hid e1
  clear hx e1 r0 r1
  go_enter Tryd.func17, Tryd.ntmps17
  go_wp2_with fail
  refine (div_any ha' h.q.nm ly lq hq0).mono ?_
  rintro e w1 ⟨B1, m1, d1, B2, m2, d2, rfl, -, k2, b1, -, -⟩
  have h1 := h.below b1
  clear q1
  have q0 := h1.c0
  go_wp2_with fail
  refine (exp_any h1.md (ha.below b1) k2.nm lx lr).mono ?_
  rintro e w3 ⟨B3, m3, d3, rfl, k3, b3, hn3⟩
  rw [E1.out] at k3
  have b13 := b1.trans (b3.mono b1.size)
  have HN : ∀ a, B3 = some a → w.heap.size ≤ a.block := fun a ha => by have := hn3 a ha; have := b1.size; omega
  have G := Lib.hid b13
  have HN3 := Lib.hid HN
  clear b13 b1 b3 q0 h1 hn3 HN k2
  go_wp2
  go_ret2
  exact ⟨_, _, _, rfl, k3, G.out, HN3.out⟩
theorem gbase_any (h : Gr w b d) (ha' : Nm w A' n' c' Y) (ly : dl Y ≤ 64) :
    Calls Tryd.prog 7 #[.pointer (some ⟨b, 0, none⟩), .slice A' n' c'] w (Ans (d.G ^ Y.toNat % d.P) w) := by
  have q2 := h.c2
  go_enter Tryd.func7, Tryd.ntmps7
  go_wp2_with fail
  refine (gpower_any h.toGr0 h.g.nm ha' h.el ly).mono ?_
  rintro e w3 ⟨B3, m3, d3, rfl, k3, b3, hn3⟩
  go_wp2
  go_ret2
  exact ⟨_, _, _, rfl, k3, b3, hn3⟩
theorem gscalars_any (h : Gr0 w b d) :
    Calls Tryd.prog 23 #[.pointer (some ⟨b, 0, none⟩)] w
      (fun e w' => ∃ bs A c low B cB S cS, e = .returned (.pointer (some ⟨bs, 0, none⟩)) ∧ Md w' bs d.Q (dl d.Q) A c low B cB S cS ∧ Below w.heap.size w w' ∧ w.heap.size ≤ bs) := by
  have q1 := h.c1
  go_enter Tryd.func23, Tryd.ntmps23
  go_wp2_with fail
  refine (new_any h.q.nm h.lq h.safe.odd h.safe.q3).mono ?_
  rintro e w1 ⟨bs, A, c, low, B, cB, S, cS, rfl, md, b1, hbs, -, -, -⟩
  have MD := Lib.hid md
  clear md q1
  go_wp2
  go_ret
  exact ⟨_, _, _, _, _, _, _, _, rfl, MD.out, b1, hbs⟩
end
end Go.Proofs.YtjalncdllegfoaaDoor
/-
  What Mul, Over and Exp answer where something is no element.
-/
namespace Go.Proofs.YtjalncdllegfoaaDoor
open Go.RowKit
set_option linter.unusedVariables false
section
variable {w w' : World} {b : Nat} {d : Gd} {A A' : Option Addr} {n c n' c' : Nat} {X Y : Int}
theorem gexp_no (h : Gr0 w b d) (ha : Nm w A n c X) (s : Value) (hx : ¬ El d.P d.Q X) :
    Calls Tryd.prog 19 #[.pointer (some ⟨b, 0, none⟩), .slice A n c, s] w (Err1 8 w) := by
  have HX := Lib.hid hx
  clear hx
  go_enter Tryd.func19, Tryd.ntmps19
  go_wp2_with fail
  refine (gis_no h ha HX.out).mono ?_
  rintro e w1 ⟨rfl, b1⟩
  have G := Lib.hid b1
  clear b1
  go_wp2
  go_ret2
  exact ⟨rfl, G.out⟩
end
end Go.Proofs.YtjalncdllegfoaaDoor
/-
  What Exp answers.
-/
namespace Go.Proofs.YtjalncdllegfoaaDoor
open Go.RowKit
set_option linter.unusedVariables false
section
variable {w w' : World} {b : Nat} {d : Gd} {A A' : Option Addr} {n c n' c' : Nat} {X Y : Int}
theorem gexp_any (h : Gr0 w b d) (ha : Nm w A n c X) (ha' : Nm w A' n' c' Y) (hx : El d.P d.Q X) (ly : dl Y ≤ 64) :
    Calls Tryd.prog 19 #[.pointer (some ⟨b, 0, none⟩), .slice A n c, .slice A' n' c'] w (Ans (X ^ Y.toNat % d.P) w) := by
  have HX := Lib.hid hx
  clear hx
  go_enter Tryd.func19, Tryd.ntmps19
  go_wp2_with fail
  refine (gis_yes h ha HX.out).mono ?_
  rintro e w1 ⟨rfl, b1⟩
  go_wp2_with fail
  refine (gpower_any (h.below b1) (ha.below b1) (ha'.below b1) HX.out ly).mono ?_
  rintro e w3 ⟨B3, m3, d3, rfl, k3, b3, hn3⟩
  have b13 := b1.trans (b3.mono b1.size)
  have HN : ∀ a, B3 = some a → w.heap.size ≤ a.block := fun a ha => by have := hn3 a ha; have := b1.size; omega
  have G := Lib.hid b13
  have HN3 := Lib.hid HN
  clear b13 b1 b3 hn3 HN
  go_wp2
  go_ret2
  exact ⟨_, _, _, rfl, k3, G.out, HN3.out⟩
end
end Go.Proofs.YtjalncdllegfoaaDoor
/-
  What P and Q answer.
-/
namespace Go.Proofs.YtjalncdllegfoaaDoor
open Go.RowKit
set_option linter.unusedVariables false
section
variable {w w' : World} {b : Nat} {d : Gd}
theorem gp_any (h : Gr0 w b d) : Calls Tryd.prog 39 #[.pointer (some ⟨b, 0, none⟩)] w (Ans1 d.P w) := by
  have q0 := h.c0
  go_enter Tryd.func39, Tryd.ntmps39
  go_wp2_with fail
  refine (modulus_any h.md).mono ?_
  rintro e w1 ⟨B1, m1, d1, rfl, k1, b1, hn1⟩
  go_wp2
  go_ret
  exact ⟨_, _, _, rfl, k1, b1, hn1⟩
end
end Go.Proofs.YtjalncdllegfoaaDoor
/-
  What the group's G answers.
-/
namespace Go.Proofs.YtjalncdllegfoaaDoor
open Go.RowKit
set_option linter.unusedVariables false
end Go.Proofs.YtjalncdllegfoaaDoor
/-
  What Size, Encode and Decode answer.
-/
namespace Go.Proofs.YtjalncdllegfoaaDoor
open Go.RowKit
set_option linter.unusedVariables false
/-- How many bytes an element holds. -/
def sz (Q : Int) : Nat := (nb Q - 1) / 8
theorem nb_to_pow {x : Int} {n : Nat} (h0 : 0 ≤ x) : nb x ≤ 8 * n ↔ x < 256 ^ n := by
  rw [nb_iff h0, show (256 : Int) = 2 ^ 8 by decide, ← Int.pow_mul]
/-- A number of Size bytes, and one, is at most Q. -/
theorem sz_fit {Q x : Int} (hq : 1 ≤ Q) (h : x < 256 ^ sz Q) : x + 1 ≤ Q := by
  have h1 := (nb_ge (N := Q) (by omega)).2
  have h0 := (nb_ge (N := Q) (by omega)).1
  have h2 : (256 : Int) ^ sz Q ≤ 2 ^ (nb Q - 1) := by
    rw [show (256 : Int) = 2 ^ 8 by decide, ← Int.pow_mul]
    exact pow_mono (by decide) (by unfold sz; omega)
  omega
section
variable {w w' : World} {b : Nat} {d : Gd} {A A' : Option Addr} {n c n' c' : Nat} {X Y : Int}
theorem within_any (h : Nm w A n c X) (h1 : 1 ≤ X) (h2 : dl X ≤ 64) :
    Calls Tryd.prog 37 #[.slice A n c] w fun e w' => e = .returned (.int .i64 (sz X : Nat)) ∧ w = w' := by
  have h0 := (nb_ge (N := X) (by omega)).1
  have h3 := (nb_dl (N := X) (by omega) 64).2 h2
  have e1 : ((nb X : Int) - 1) = ((nb X - 1 : Nat) : Int) := by omega
  have e2 : ((nb X - 1 : Nat) : Int).tdiv 8 = (sz X : Nat) := by unfold sz; rw [Int.tdiv_eq_ediv_of_nonneg (by omega)]; omega
  have e3 : wrap64 (sz X : Int) = (sz X : Int) := by have : sz X ≤ 600 := (by unfold sz; omega); exact IntWalk.wrap64_in _ (by omega)
  go_enter Tryd.func37, Tryd.ntmps37
  go_wp2_with fail
  refine (bits_any h).mono ?_
  rintro e w1 ⟨rfl, rfl⟩
  go_wp2
  go_ret
  exact ⟨by rw [e3]; rfl, rfl⟩
theorem gsize_any (h : Gr0 w b d) :
    Calls Tryd.prog 16 #[.pointer (some ⟨b, 0, none⟩)] w fun e w' => e = .returned (.int .i64 (sz d.Q : Nat)) ∧ w = w' := by
  have q1 := h.c1
  go_enter Tryd.func16, Tryd.ntmps16
  go_wp2_with fail
  refine (within_any h.q.nm h.safe.q1 (by have := h.lq; omega)).mono ?_
  rintro e w1 ⟨rfl, rfl⟩
  go_wp2
  go_ret
  exact ⟨rfl, rfl⟩
/-- What Decode reckons with: a number or its counterpart, whichever is at most Q. -/
def lowr (P Q a : Int) : Int := if Q < a then P - a else a
theorem low_bd {bs : List Int} {l : Nat} (hd : Dig 256 bs) : ∀ k, 0 ≤ low bs l k ∧ low bs l k < 256 ^ k := fun k => vf_bd (b := 256) (by decide) (fun j => dig_bd (by decide) hd _) k
/-- What bytes are encoded as. -/
noncomputable def encN (P Q x : Int) : Int := by classical exact if El P Q (x + 1) then x + 1 else P - (x + 1)
theorem sz_small {Q : Int} (h : dl Q ≤ 32) (h0 : 0 ≤ Q) : sz Q ≤ 256 := by
  have := (nb_dl h0 32).2 h
  unfold sz; omega
theorem lowr_bd {P Q X : Int} (h : Safe P Q) (h1 : 1 ≤ X) (h2 : X < P) : 1 ≤ lowr P Q X ∧ lowr P Q X ≤ Q := by
  have := h.pq
  unfold lowr
  split <;> omega
/-- What Decode answers of an element: bytes. -/
def DecP (N : Int) (l : Nat) (w : World) (e : Ending) (w' : World) : Prop :=
  ∃ g, e = .returned (.tuple #[.slice (some ⟨g, 0, none⟩) l l, .nilIface]) ∧ Row w' g 5 .u8 (bytesL N l) ∧ Below w.heap.size w w' ∧ w.heap.size ≤ g
end
end Go.Proofs.YtjalncdllegfoaaDoor
/-
  What group.New answers: a group.
-/
namespace Go.Proofs.YtjalncdllegfoaaDoor
open Go.RowKit
set_option linter.unusedVariables false
section
variable {w w' : World} {A A' : Option Addr} {n c n' c' : Nat} {P Q : Int}
theorem order_ok (hp : Nm w A n c P) (hq : Nm w A' n' c' Q) (lp : dl P ≤ 64) (e : P = 2 * Q + 1) (q3 : 3 ≤ Q) :
    Calls Tryd.prog 11 #[.slice A n c, .slice A' n' c'] w (Ans Q w) := by
  have e1 : P / 2 = Q := by omega
  have t1 : ((cmpI Q Q : Int) != 0) = false := by rw [cmpI_eq]; rfl
  have t2 : decide (cmpI Q 2 ≤ 0) = false := by simp; rw [cmpI_gt (show 2 < Q by omega)]; decide
  have L2 := Lib.hid (lit_one w 2 (by decide) (by decide))
  have E1 := Lib.hid e1
  have HP := Lib.hid (hp.below (below_al w (.cells #[.int .u64 2] 45)))
  clear e e1 q3
  go_enter Tryd.func11, Tryd.ntmps11
  go_wp2_with fail
  refine (div_any HP.out L2.out lp (dl_small (by decide) (by decide)) (by decide)).mono ?_
  rintro e w1 ⟨B1, m1, d1, B2, m2, d2, rfl, k1, -, b1, hn1, -⟩
  rw [E1.out] at k1
  have b01 := below_one b1
  have hn : ∀ a, B1 = some a → w.heap.size ≤ a.block := fun a ha => by have := hn1 a ha; simp at this; omega
  have HN := Lib.hid hn
  clear b1 L2 HP hn1 hn
  go_wp2_with fail
  refine (cmp_v (hq.below b01) k1.nm).mono ?_
  rintro e w2 ⟨rfl, b2⟩
  have b02 := b01.trans (b2.mono b01.size)
  have k2 := k1.below b2
  clear b2 b01 k1
  have L2 := Lib.hid (lit_one w2 2 (by decide) (by decide))
  have HQ := Lib.hid ((hq.below b02).below (below_al w2 (.cells #[.int .u64 2] 45)))
  go_wp2_with fail
  refine (cmp_v HQ.out L2.out).mono ?_
  rintro e w3 ⟨rfl, b3⟩
  have b23 := below_one b3
  have G := Lib.hid (b02.trans (b23.mono b02.size))
  have k3 := k2.below b23
  clear b3 b23 b02 L2 HQ k2
  go_wp2
  go_ret2
  exact ⟨_, _, _, rfl, k3, G.out, HN.out⟩
end
/-- All of a group's parts are new. -/
structure Gd.New (d : Gd) (m : Nat) : Prop where
  bm : m ≤ d.bm
  A : ∀ a, d.A = some a → m ≤ a.block
  B : ∀ a, d.B = some a → m ≤ a.block
  S : ∀ a, d.S = some a → m ≤ a.block
  q : ∀ a, d.Aq = some a → m ≤ a.block
  g : ∀ a, d.Ag = some a → m ≤ a.block
/-- A struct of two slices in memory. -/
structure Bx (w : World) (b : Nat) (A1 : Option Addr) (n1 c1 : Nat) (A2 : Option Addr) (n2 c2 : Nat) : Prop where
  lt : b < w.heap.size
  c0 : w.cell? ⟨b, 0, none⟩ = some (.slice A1 n1 c1)
  c1_ : w.cell? ⟨b, 1, none⟩ = some (.slice A2 n2 c2)
theorem Bx.below {w w' : World} {b : Nat} {A1 : Option Addr} {n1 c1 : Nat} {A2 : Option Addr} {n2 c2 : Nat} (h : Bx w b A1 n1 c1 A2 n2 c2) (hb : Below w.heap.size w w') : Bx w' b A1 n1 c1 A2 n2 c2 :=
  ⟨Nat.lt_of_lt_of_le h.lt hb.size, (hb.cell (p := ⟨b, 0, none⟩) h.lt).trans h.c0, (hb.cell (p := ⟨b, 1, none⟩) h.lt).trans h.c1_⟩
theorem Bx.new (w : World) (A1 : Option Addr) (n1 c1 : Nat) (A2 : Option Addr) (n2 c2 : Nat) :
    Bx (w.alloc (.cells #[.slice A1 n1 c1, .slice A2 n2 c2] 33)) w.heap.size A1 n1 c1 A2 n2 c2 :=
  ⟨by simp, by simp [World.cell?_alloc_new], by simp [World.cell?_alloc_new]⟩
/-- A group was answered. -/
def NewP4 (P Q G : Int) (w : World) (e : Ending) (w' : World) : Prop :=
  ∃ b d, e = .returned (.tuple #[.pointer (some ⟨b, 0, none⟩), .nilIface]) ∧ Gr w' b d ∧ d.P = P ∧ d.Q = Q ∧ d.G = G ∧ Below w.heap.size w w' ∧ w.heap.size ≤ b ∧ d.New w.heap.size
theorem good_long {S : Nat → Stp} {n : Nat} (h : ∀ i, i < n → bdS S n i = 0) (hn : 1 ≤ n) : dl (S 0).P ≤ 32 ∧ 3 ≤ (S 0).P ∧ (S 0).P % 2 = 1 := by
  obtain ⟨h1, -, -⟩ := bd_zero (h 0 (by omega))
  obtain ⟨h2, h3, -⟩ := sc_zero h1
  refine ⟨Nat.not_lt.1 fun g => h2 (.inl g), Int.not_lt.1 fun g => h3 (.inr g), ?_⟩
  rcases Int.emod_two_eq (S 0).P with g | g
  · exact absurd (Or.inl g) h3
  · exact g
set_option maxHeartbeats 4000000 in
theorem gnew_any {w : World} {Ag : Option Addr} {ng cg : Nat} {G : Int} {bc off n c : Nat} {S : Nat → Stp} (hg : Nm w Ag ng cg G) (hch : Ch w (some ⟨bc, off, none⟩) n c S) (h1 : 1 ≤ n) (h64 : n ≤ 64)
    (good : ∀ i, i < n → bdS S n i = 0) (safe : Safe (S 0).P (S 0).Q) (el : El (S 0).P (S 0).Q G) (g1 : G ≠ 1) (big : 9 ≤ nb (S 0).Q) :
    Calls Tryd.prog 5 #[.agg #[.slice Ag ng cg, .slice (some ⟨bc, off, none⟩) n c]] w (NewP4 (S 0).P (S 0).Q G w) := by
  obtain ⟨lp, p3, odd⟩ := good_long good h1
  have lp64 : dl (S 0).P ≤ 64 := by omega
  have bx := Bx.new w Ag ng cg (some ⟨bc, off, none⟩) n c
  have ba := below_al w (.cells #[.slice Ag ng cg, .slice (some ⟨bc, off, none⟩) n c] 33)
  have t1 : ((cmpI G 1 : Int) == 0) = false := by
    rcases Int.lt_or_gt_of_ne g1 with k | k
    · rw [cmpI_lt k]; rfl
    · rw [cmpI_gt k]; rfl
  have t2 : ((sz (S 0).Q : Int) == 0) = false := by unfold sz; simp; omega
  have t2' : (sz (S 0).Q == 0) = false := by unfold sz; simp; omega
  have GOOD := Lib.hid good
  have SAFE := Lib.hid safe
  have EL := Lib.hid el
  have G1 := Lib.hid g1
  have BIG := Lib.hid big
  have ODD := Lib.hid odd
  have P3 := Lib.hid p3
  have HCH := Lib.hid (hch.below ba)
  have HG := Lib.hid hg
  have BA := Lib.hid ba
  have BX := Lib.hid bx
  clear good safe el g1 big odd p3 hg ba bx
  go_enter Tryd.func5, Tryd.ntmps5
  go_wp2_with fail
  refine (chk_any HCH.out h1 h64).mono ?_
  rintro e w1 (⟨-, B1, m1, d1, rfl, k1, b1, -⟩ | ⟨k, cd, hk, -, hbd, hc0, -⟩)
  · have bx1 := BX.out.below b1
    have ch1 := HCH.out.below b1
    have b01 := BA.out.trans (b1.mono BA.out.size)
    obtain ⟨b', off', hbo, hb0, hcl⟩ := ch1.ex (by omega)
    simp only [Option.some.injEq, Addr.mk.injEq, and_true] at hbo
    obtain ⟨rfl, rfl⟩ := hbo
    have cq := (hcl 0 (by omega)).c1
    rw [Nat.zero_mul, Nat.add_zero] at cq
    have q1 := bx1.c1_
    have sq := (ch1.at_ 0 (by omega)).q
    have n0 : 0 < n := by omega
    have BX1 := Lib.hid bx1
    clear hcl b1 ch1 BX HCH BA bx1
    go_wp2_with fail
    refine (order_ok k1.nm sq lp64 SAFE.out.pq SAFE.out.q3).mono ?_
    rintro e w2 ⟨B2, m2, d2, rfl, k2, b2, hn2⟩
    have b02 := b01.trans (b2.mono b01.size)
    have BX2 := Lib.hid (BX1.out.below b2)
    have k12 := k1.below b2
    have hn2' : ∀ a, B2 = some a → w.heap.size ≤ a.block := fun a ha => by have := hn2 a ha; have := b01.size; omega
    have HN2 := Lib.hid hn2'
    clear b01 b2 BX1 k1 hn2 hn2' q1 cq sq
    go_wp2_with fail
    refine (new_any k12.nm lp ODD.out P3.out).mono ?_
    rintro e w3 ⟨bm, Am, cm, low, Bm, cB, Sm, cS, rfl, md, b3, nbm, nA, nB, nS⟩
    have s02 := b02.size
    have b03 := b02.trans (b3.mono b02.size)
    have bx3 := BX2.out.below b3
    have k23 := k2.below b3
    have q0 := bx3.c0
    have MD := Lib.hid md
    have nb' : w.heap.size ≤ bm := by omega
    have nA' : ∀ a, Am = some a → w.heap.size ≤ a.block := fun a ha => by have := nA a ha; omega
    have nB' : ∀ a, Bm = some a → w.heap.size ≤ a.block := fun a ha => by have := nB a ha; omega
    have nS' : ∀ a, Sm = some a → w.heap.size ≤ a.block := fun a ha => by have := nS a ha; omega
    have NB := Lib.hid (And.intro nb' (And.intro nA' (And.intro nB' nS')))
    clear b02 b3 BX2 k12 k2 md nbm nA nB nS nb' nA' nB' nS' s02
    go_wp2_with fail
    refine (norm_any (HG.out.below b03)).mono ?_
    rintro e w4 ⟨B4, m4, d4, rfl, k4, b4, hn4⟩
    have s03 := b03.size
    have b04 := b03.trans (b4.mono b03.size)
    have k24 := k23.below b4
    have md4 := MD.out.below b4
    have hn4' : ∀ a, B4 = some a → w.heap.size ≤ a.block := fun a ha => by have := hn4 a ha; omega
    have HN4 := Lib.hid hn4'
    have bl := below_al w4 (.cells #[.pointer (some ⟨bm, 0, none⟩), .slice B2 m2 d2, .slice B4 m4 d4] 55)
    have gr0 : Gr0 (w4.alloc (.cells #[.pointer (some ⟨bm, 0, none⟩), .slice B2 m2 d2, .slice B4 m4 d4] 55)) w4.heap.size ⟨bm, _, Am, cm, low, Bm, cB, Sm, cS, B2, m2, d2, B4, m4, d4, (S 0).P, (S 0).Q, G⟩ :=
      ⟨by simp, by simp [World.cell?_alloc_new], by simp [World.cell?_alloc_new], by simp [World.cell?_alloc_new], md4.below bl, k24.below bl, k4.below bl, SAFE.out⟩
    have c2 := gr0.c2
    have GR0 := Lib.hid gr0
    have b05 := b04.trans (bl.mono b04.size)
    have s04 := b04.size
    clear q0 b03 b4 k23 k4 k24 md4 MD hn4 hn4' bx3 bl b04 s03
    go_wp2_with fail
    refine (gis_yes GR0.out GR0.out.g.nm EL.out).mono ?_
    rintro e w5 ⟨rfl, b5⟩
    have gr5 := GR0.out.below b5
    have b06 := b05.trans (b5.mono b05.size)
    have L1 := Lib.hid (lit_one w5 1 (by decide) (by decide))
    have c2 := gr5.c2
    have K5 := Lib.hid (gr5.g.below (below_al w5 (.cells #[.int .u64 1] 45)))
    have GR5 := Lib.hid gr5
    clear b05 b5 GR0 gr0 gr5
    go_wp2_with fail
    refine (cmp_v K5.out.nm L1.out).mono ?_
    rintro e w6 ⟨rfl, b6⟩
    have b56 := below_one b6
    have b07 := b06.trans (b56.mono b06.size)
    have gr6 := GR5.out.below b56
    clear b6 b56 b06 GR5 K5 L1 c2
    go_wp2_with fail
    refine (gsize_any gr6).mono ?_
    rintro e w7 ⟨rfl, rfl⟩
    have GR6 := Lib.hid gr6
    have B07 := Lib.hid b07
    clear gr6 b07
    go_wp2
    go_ret2
    exact ⟨_, _, rfl, ⟨GR6.out, EL.out, G1.out, BIG.out⟩, rfl, rfl, rfl, B07.out, s04, ⟨NB.out.1, NB.out.2.1, NB.out.2.2.1, NB.out.2.2.2, HN2.out, HN4.out⟩⟩
  · exact absurd (hbd.symm.trans (GOOD.out k hk)) hc0
end Go.Proofs.YtjalncdllegfoaaDoor
/-
  The known groups' numbers: each of their chains proves what it says. No call is spoken of here.
-/
namespace Go.Proofs.YtjalncdllegfoaaDoor
set_option linter.unusedVariables false
/-- What a step asks, in a form that is reckoned. -/
def goodB (f : Nat) (P Q A : Int) : Bool :=
  decide (0 ≤ P) && decide (P < 2 ^ 2048) && decide (0 ≤ Q) && decide (Q < 2 ^ 2048) && decide (0 ≤ A) && decide (A < 2 ^ 2048) && decide (P % 2 = 1) && decide (3 ≤ P) && decide (2 ≤ Q) && decide (P < Q * Q) && decide ((P - 1) % Q = 0) && decide (2 ≤ A) && decide (A < P) && decide ((P - 1).toNat < 2 ^ f) && decide (pw3 P A f (P - 1).toNat = 1) && decide (Int.gcd P ((pw3 P A f ((P - 1) / Q).toNat - 1) % P) = 1)
theorem dl_2048 {x : Int} (h0 : 0 ≤ x) (h : x < 2 ^ 2048) : dl x ≤ 32 := dl_le h0 (by rw [W_pow]; exact h)
theorem sc_of_good {f : Nat} {P Q A : Int} (h : goodB f P Q A = true) : sc P Q A = 0 := by
  simp only [goodB, Bool.and_eq_true, decide_eq_true_eq] at h
  obtain ⟨⟨⟨⟨⟨⟨⟨⟨⟨⟨⟨⟨⟨⟨⟨p0, p1⟩, q0⟩, q1⟩, a0⟩, a1⟩, od⟩, p3⟩, q2⟩, sq⟩, dv⟩, a2⟩, aP⟩, hf⟩, e1⟩, e2⟩ := h
  have k1 := dl_2048 p0 p1
  have k2 := dl_2048 q0 q1
  have k3 := dl_2048 a0 a1
  have kl : (P - 1) / Q ≤ P - 1 := Int.ediv_le_self _ (by omega)
  refine sc_good (by rintro (g | g | g) <;> omega) (by rintro (g | g) <;> omega) ⟨q2, sq, dv, a2, aP, ?_, ?_⟩
  · rw [← pw3_eq f _ hf]; exact e1
  · rw [pw3_eq f _ (Nat.lt_of_le_of_lt (Int.toNat_le_toNat kl) hf)] at e2
    have : (A ^ ((P - 1) / Q).toNat % P - 1) % P = (A ^ ((P - 1) / Q).toNat - 1) % P := Eqm.iff.1 ((Eqm.mod P _).sub (Eqm.refl P 1))
    rwa [this] at e2
/-- The known groups: G, and the steps. -/
def knG : List Int := [4, 4, 4, 4, 4, 4, 4, 4, 4, 4, 4]
def knS : List (List (Int × Int × Int)) := [
  [(100547, 50273, 2)],
  [(16384079, 8192039, 2), (8192039, 42227, 2)],
  [(895270319, 447635159, 2), (447635159, 45949, 2)],
  [(956960304107, 478480152053, 2), (478480152053, 589261271, 2), (589261271, 44879, 2)],
  [(51637240540054787, 25818620270027393, 2), (25818620270027393, 962912257, 2), (962912257, 39181, 2)],
  [(10783903794068798759, 5391951897034399379, 2), (5391951897034399379, 245088722592472699, 2), (245088722592472699, 540926329, 2), (540926329, 33791, 2)],
  [(2613414916021939020899, 1306707458010969510449, 2), (1306707458010969510449, 213235551241998941, 2), (213235551241998941, 869759953, 2), (869759953, 61843, 2)],
  [(55552479688485757854533454143, 27776239844242878927266727071, 2), (27776239844242878927266727071, 223751503623384853, 2), (223751503623384853, 998205391, 2), (998205391, 40627, 2)],
  [(294346032770963629115021612295688313579, 147173016385481814557510806147844156789, 2), (147173016385481814557510806147844156789, 15920923451480075136035353326248827, 2), (15920923451480075136035353326248827, 193128230530517629, 2), (193128230530517629, 588713921, 2), (588713921, 63439, 2)],
  [(5288028264425375924331143837851554665000536648901249581703, 2644014132212687962165571918925777332500268324450624790851, 2), (2644014132212687962165571918925777332500268324450624790851, 17448777177685998800207916726582067, 2), (17448777177685998800207916726582067, 230885128227773927, 2), (230885128227773927, 725375153, 2), (725375153, 34847, 2)],
  [(98840726623089566538132827080390358131446738208679300614933978093311771294443, 49420363311544783269066413540195179065723369104339650307466989046655885647221, 2), (49420363311544783269066413540195179065723369104339650307466989046655885647221, 71511446119451342619797234764730343874518634852101106178533378230947, 2), (71511446119451342619797234764730343874518634852101106178533378230947, 17487159372623203498255649676474247, 2), (17487159372623203498255649676474247, 238236089707193629, 2), (238236089707193629, 902893669, 2), (902893669, 36901, 2)]]
theorem sm_k33791 : Sm 33791 := sm_dec (by decide) (by decide) 183 (by decide) (by decide +kernel)
theorem sm_k34847 : Sm 34847 := sm_dec (by decide) (by decide) 186 (by decide) (by decide +kernel)
theorem sm_k36901 : Sm 36901 := sm_dec (by decide) (by decide) 192 (by decide) (by decide +kernel)
theorem sm_k39181 : Sm 39181 := sm_dec (by decide) (by decide) 197 (by decide) (by decide +kernel)
theorem sm_k40627 : Sm 40627 := sm_dec (by decide) (by decide) 201 (by decide) (by decide +kernel)
theorem sm_k42227 : Sm 42227 := sm_dec (by decide) (by decide) 205 (by decide) (by decide +kernel)
theorem sm_k44879 : Sm 44879 := sm_dec (by decide) (by decide) 211 (by decide) (by decide +kernel)
theorem sm_k45949 : Sm 45949 := sm_dec (by decide) (by decide) 214 (by decide) (by decide +kernel)
theorem sm_k50273 : Sm 50273 := sm_dec (by decide) (by decide) 224 (by decide) (by decide +kernel)
theorem sm_k61843 : Sm 61843 := sm_dec (by decide) (by decide) 248 (by decide) (by decide +kernel)
theorem sm_k63439 : Sm 63439 := sm_dec (by decide) (by decide) 251 (by decide) (by decide +kernel)
def stepP (l : List (Int × Int × Int)) (i : Nat) : Int := (l.getD i (0, 0, 0)).1
def stepQ (l : List (Int × Int × Int)) (i : Nat) : Int := (l.getD i (0, 0, 0)).2.1
def stepA (l : List (Int × Int × Int)) (i : Nat) : Int := (l.getD i (0, 0, 0)).2.2
/-- The steps hold, one by one, and join. -/
def chainB (f : Nat) : List (Int × Int × Int) → Bool
  | [] => true
  | [s] => goodB f s.1 s.2.1 s.2.2
  | s :: t :: r => goodB f s.1 s.2.1 s.2.2 && decide (s.2.1 = t.1) && chainB f (t :: r)
theorem chain_of {f : Nat} : ∀ (l : List (Int × Int × Int)), chainB f l = true → ∀ i, i < l.length → sc (stepP l i) (stepQ l i) (stepA l i) = 0 ∧ (i + 1 < l.length → stepQ l i = stepP l (i + 1))
  | [], _, i, hi => absurd hi (by simp)
  | [s], h, i, hi => by
    obtain rfl : i = 0 := by simpa using hi
    exact ⟨sc_of_good h, fun g => absurd g (by simp)⟩
  | s :: t :: r, h, i, hi => by
    simp only [chainB, Bool.and_eq_true, decide_eq_true_eq] at h
    match i with
    | 0 => exact ⟨sc_of_good h.1.1, fun _ => h.1.2⟩
    | i + 1 =>
      have := chain_of (t :: r) h.2 i (by simpa using hi)
      exact ⟨this.1, fun g => this.2 (by simpa using g)⟩
theorem good_of {f : Nat} {l : List (Int × Int × Int)} (h : chainB f l = true) (hs : Sm (stepQ l (l.length - 1))) : Good (stepP l) (stepQ l) (stepA l) l.length := by
  intro i hi
  obtain ⟨h1, h2⟩ := chain_of l h i hi
  by_cases g : i + 1 < l.length
  · exact bd_next h1 g (h2 g)
  · obtain rfl : i = l.length - 1 := by omega
    exact bd_last h1 g hs
theorem known_0 : Good (stepP (knS.getD 0 [])) (stepQ (knS.getD 0 [])) (stepA (knS.getD 0 [])) 1 := good_of (f := 256) (by decide +kernel) sm_k50273
theorem known_1 : Good (stepP (knS.getD 1 [])) (stepQ (knS.getD 1 [])) (stepA (knS.getD 1 [])) 2 := good_of (f := 256) (by decide +kernel) sm_k42227
theorem known_2 : Good (stepP (knS.getD 2 [])) (stepQ (knS.getD 2 [])) (stepA (knS.getD 2 [])) 2 := good_of (f := 256) (by decide +kernel) sm_k45949
theorem known_3 : Good (stepP (knS.getD 3 [])) (stepQ (knS.getD 3 [])) (stepA (knS.getD 3 [])) 3 := good_of (f := 256) (by decide +kernel) sm_k44879
theorem known_4 : Good (stepP (knS.getD 4 [])) (stepQ (knS.getD 4 [])) (stepA (knS.getD 4 [])) 3 := good_of (f := 256) (by decide +kernel) sm_k39181
theorem known_5 : Good (stepP (knS.getD 5 [])) (stepQ (knS.getD 5 [])) (stepA (knS.getD 5 [])) 4 := good_of (f := 256) (by decide +kernel) sm_k33791
theorem known_6 : Good (stepP (knS.getD 6 [])) (stepQ (knS.getD 6 [])) (stepA (knS.getD 6 [])) 4 := good_of (f := 256) (by decide +kernel) sm_k61843
theorem known_7 : Good (stepP (knS.getD 7 [])) (stepQ (knS.getD 7 [])) (stepA (knS.getD 7 [])) 4 := good_of (f := 256) (by decide +kernel) sm_k40627
theorem known_8 : Good (stepP (knS.getD 8 [])) (stepQ (knS.getD 8 [])) (stepA (knS.getD 8 [])) 5 := good_of (f := 256) (by decide +kernel) sm_k63439
theorem known_9 : Good (stepP (knS.getD 9 [])) (stepQ (knS.getD 9 [])) (stepA (knS.getD 9 [])) 5 := good_of (f := 256) (by decide +kernel) sm_k34847
theorem known_10 : Good (stepP (knS.getD 10 [])) (stepQ (knS.getD 10 [])) (stepA (knS.getD 10 [])) 6 := good_of (f := 256) (by decide +kernel) sm_k36901
/-- Each known group's chain holds; its first Q is half of P, G is 4, and 4 is an element, not 1. -/
theorem known_all (k : Nat) (hk : k < 11) : Good (stepP (knS.getD k [])) (stepQ (knS.getD k [])) (stepA (knS.getD k [])) (knS.getD k []).length := by
  match k, hk with
  | 0, _ => exact known_0
  | 1, _ => exact known_1
  | 2, _ => exact known_2
  | 3, _ => exact known_3
  | 4, _ => exact known_4
  | 5, _ => exact known_5
  | 6, _ => exact known_6
  | 7, _ => exact known_7
  | 8, _ => exact known_8
  | 9, _ => exact known_9
  | 10, _ => exact known_10
theorem good_q {P Q A : Nat → Int} {n : Nat} (h : Good P Q A n) (hn : 1 ≤ n) : Pr (Q 0) := by
  obtain ⟨_, h2, h3⟩ := bd_zero (h 0 (by omega))
  by_cases g : 0 + 1 < n
  · have := good_prime h (n - 2) (by omega)
    rw [h2 g]
    rwa [show n - 1 - (n - 2) = 0 + 1 by omega] at this
  · exact (h3 g).2
/-- P is 2 Q + 1, Q is odd and above 2, and 4 is an element. -/
def restB (P Q : Int) : Bool := decide (P = 2 * Q + 1) && decide (Q % 2 = 1) && decide (2 < Q) && decide (Q.toNat < 2 ^ 256) && decide (4 < P) && decide (pw3 P 4 256 Q.toNat = 1)
theorem rest_all : (List.range 11).all (fun k => restB (stepP (knS.getD k []) 0) (stepQ (knS.getD k []) 0) && decide (knG.getD k 0 = 4) && decide (1 ≤ (knS.getD k []).length) && decide ((knS.getD k []).length ≤ 64)) = true := by decide +kernel
theorem known_rest (k : Nat) (hk : k < 11) : ∃ P Q : Int, stepP (knS.getD k []) 0 = P ∧ stepQ (knS.getD k []) 0 = Q ∧ P = 2 * Q + 1 ∧ Q % 2 = 1 ∧ 2 < Q ∧ 4 < P ∧ (4 : Int) ^ Q.toNat % P = 1 ∧ Pr P ∧ Pr Q ∧ knG.getD k 0 = 4 ∧ 1 ≤ (knS.getD k []).length ∧ (knS.getD k []).length ≤ 64 := by
  have h := List.all_eq_true.1 rest_all k (List.mem_range.2 hk)
  simp only [restB, Bool.and_eq_true, decide_eq_true_eq] at h
  obtain ⟨⟨⟨⟨⟨⟨⟨⟨h1, h2⟩, h3⟩, h4⟩, h5⟩, h6⟩, h7⟩, h8⟩, h9⟩ := h
  have g := known_all k hk
  refine ⟨_, _, rfl, rfl, h1, h2, h3, h5, ?_, good_first g h8, good_q g h8, h7, h8, h9⟩
  rw [← pw3_eq 256 _ h4]
  exact h6
end Go.Proofs.YtjalncdllegfoaaDoor
