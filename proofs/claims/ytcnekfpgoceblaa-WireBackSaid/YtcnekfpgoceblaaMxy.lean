/-
  Several texts in one: Mxn, Mxc, Lv7.
-/
import Derived.Test.YtcnekfpgoceblaaGro
import Derived.Test.YtcnekfpgoceblaaMxx
import Derived.Test.YtcnekfpgoceblaaPkf
/-
  What a mix does, in numbers: pairs sealed, sealed anew, stripped, turned; and how these go together.
-/
namespace Go.Proofs.Ytcnekfpgoceblaa
set_option linter.unusedVariables false
/-- A pair's numbers. -/
structure Trp where
  a : Int
  b : Int
  c : Int
/-- A power in the group: the exponent counts modulo Q. -/
def gx (P Q g s : Int) : Int := g ^ (s % Q).toNat % P
def sealN (P Q G k m r : Int) : Trp := ⟨gx P Q G r, m * gx P Q k r % P, 1⟩
def anewN (P Q G k : Int) (p : Trp) (r : Int) : Trp := ⟨p.a * gx P Q G r % P, p.b * gx P Q k r % P, p.c⟩
def stripN (P Q G s nx : Int) (p : Trp) (v : Int) : Trp := ⟨p.a, p.b * iv P Q (gx P Q p.a s) % P * gx P Q nx v % P, p.c * gx P Q G v % P⟩
def turnN (p : Trp) : Trp := ⟨p.c, p.b, 1⟩
/-- A pair of elements. -/
structure ElT (P Q : Int) (p : Trp) : Prop where
  a : El P Q p.a
  b : El P Q p.b
  c : El P Q p.c
section
variable {P Q G k m r s : Int} {p : Trp}
theorem gx_el (hP : 2 ≤ P) (hQ : 1 ≤ Q) {g : Int} (h : El P Q g) (s : Int) : El P Q (gx P Q g s) := h.pow hP hQ _
theorem gx_mod (hQ : 1 ≤ Q) (g s : Int) : gx P Q g (s % Q) = gx P Q g s := by unfold gx; rw [Int.emod_emod_of_dvd _ (Int.dvd_refl Q)]
theorem sealN_el (hP : 2 ≤ P) (hQ : 1 ≤ Q) (hG : El P Q G) (hk : El P Q k) (hm : El P Q m) (r : Int) : ElT P Q (sealN P Q G k m r) :=
  ⟨gx_el hP hQ hG r, hm.mul hP hQ (gx_el hP hQ hk r), el_one hP⟩
theorem anewN_el (hP : 2 ≤ P) (hQ : 1 ≤ Q) (hG : El P Q G) (hk : El P Q k) (hp : ElT P Q p) (r : Int) : ElT P Q (anewN P Q G k p r) :=
  ⟨hp.a.mul hP hQ (gx_el hP hQ hG r), hp.b.mul hP hQ (gx_el hP hQ hk r), hp.c⟩
theorem stripN_el (hP : 2 ≤ P) (hQ : 1 ≤ Q) (hG : El P Q G) {nx : Int} (hn : El P Q nx) (hp : ElT P Q p) (s v : Int) : ElT P Q (stripN P Q G s nx p v) :=
  ⟨hp.a, ((hp.b.mul hP hQ ((gx_el hP hQ hp.a s).iv hP hQ))).mul hP hQ (gx_el hP hQ hn v), hp.c.mul hP hQ (gx_el hP hQ hG v)⟩
theorem turnN_el (hP : 2 ≤ P) (hp : ElT P Q p) : ElT P Q (turnN p) := ⟨hp.c, hp.b, el_one hP⟩
/-! ### Sums of scalars -/
theorem gx_eqm (hP : 2 ≤ P) (hQ : 1 ≤ Q) {g : Int} (h : El P Q g) {s : Int} (hs : 0 ≤ s) : Eqm P (gx P Q g s) (g ^ s.toNat) := by
  unfold gx
  rw [h.red hP hQ hs]
  exact Eqm.mod P _
theorem gx_add (hP : 2 ≤ P) (hQ : 1 ≤ Q) {g : Int} (h : El P Q g) {s t : Int} (hs : 0 ≤ s) (ht : 0 ≤ t) : gx P Q g s * gx P Q g t % P = gx P Q g (s + t) := by
  unfold gx
  rw [h.sum hP hQ hs ht, h.red hP hQ hs, h.red hP hQ ht]
theorem gx_zero (hP : 2 ≤ P) (hQ : 1 ≤ Q) (g : Int) : gx P Q g 0 = 1 := by
  unfold gx
  rw [Int.zero_emod, Int.toNat_zero, Int.pow_zero]
  exact Int.emod_eq_of_lt (show (0 : Int) ≤ 1 by decide) (by omega)
theorem one_gx (hP : 2 ≤ P) (s : Int) : gx P Q 1 s = 1 := by
  unfold gx
  rw [Int.one_pow]
  exact Int.emod_eq_of_lt (show (0 : Int) ≤ 1 by decide) (by omega)
theorem el_mul_one (h : El P Q m) : m * 1 % P = m := by rw [Int.mul_one, h.self]
theorem mul_rest (a b : Int) : a % P * b % P = a * b % P := by rw [Int.mul_emod, Int.emod_emod_of_dvd _ (Int.dvd_refl P), ← Int.mul_emod]
theorem rest_mul (a b : Int) : a * (b % P) % P = a * b % P := by rw [Int.mul_emod, Int.emod_emod_of_dvd _ (Int.dvd_refl P), ← Int.mul_emod]
theorem mul_assoc_rest (a b c : Int) : a * b % P * c % P = a * (b * c % P) % P := by rw [mul_rest, rest_mul, Int.mul_assoc]
theorem mul_swap_rest (a b c : Int) : a * b % P * c % P = a * c % P * b % P := by rw [mul_rest, mul_rest, Int.mul_assoc, Int.mul_comm b c, Int.mul_assoc]
/-- Sealed, and sealed anew: sealed with both scalars' sum. -/
theorem anew_seal (hP : 2 ≤ P) (hQ : 1 ≤ Q) (hG : El P Q G) (hk : El P Q k) (r0 : 0 ≤ r) (s0 : 0 ≤ s) : anewN P Q G k (sealN P Q G k m r) s = sealN P Q G k m (r + s) := by
  unfold anewN sealN
  rw [gx_add hP hQ hG r0 s0, mul_assoc_rest, gx_add hP hQ hk r0 s0]
/-- Sealed anew twice. -/
theorem anew_anew (hP : 2 ≤ P) (hQ : 1 ≤ Q) (hG : El P Q G) (hk : El P Q k) (r0 : 0 ≤ r) (s0 : 0 ≤ s) : anewN P Q G k (anewN P Q G k p r) s = anewN P Q G k p (r + s) := by
  unfold anewN
  rw [mul_assoc_rest, mul_assoc_rest, gx_add hP hQ hG r0 s0, gx_add hP hQ hk r0 s0]
theorem sealN_mod (hQ : 1 ≤ Q) : sealN P Q G k m (r % Q) = sealN P Q G k m r := by unfold sealN; rw [gx_mod hQ, gx_mod hQ]
theorem anewN_mod (hQ : 1 ≤ Q) : anewN P Q G k p (r % Q) = anewN P Q G k p r := by unfold anewN; rw [gx_mod hQ, gx_mod hQ]
/-! ### Shares -/
theorem iv_mul (hP : 2 ≤ P) (hQ : 1 ≤ Q) {a b : Int} (ha : El P Q a) (hb : El P Q b) : iv P Q (a * b % P) = iv P Q a * iv P Q b % P := by
  symm
  have ia := ha.iv hP hQ
  have ib := hb.iv hP hQ
  have h1 := ia.mul hP hQ ib
  refine (ha.mul hP hQ hb).uniq hP hQ h1.1 h1.2.1 ?_
  have e1 := (ha.inv hP hQ).mul (hb.inv hP hQ)
  rw [Int.one_mul] at e1
  refine Eqm.trans ?_ e1
  have e2 := (Eqm.mod P (a * b)).mul (Eqm.mod P (iv P Q a * iv P Q b))
  rw [show a * iv P Q a * (b * iv P Q b) = a * b * (iv P Q a * iv P Q b) by grind]
  exact e2
theorem iv_one (hP : 2 ≤ P) : iv P Q 1 = 1 := by
  unfold iv; rw [Int.one_pow]; exact Int.emod_eq_of_lt (show (0 : Int) ≤ 1 by decide) (by omega)
/-- Two shares, one behind the other, on to no key. -/
theorem strip_strip (hP : 2 ≤ P) (hQ : 1 ≤ Q) (hG : El P Q G) (hp : ElT P Q p) (r0 : 0 ≤ r) (s0 : 0 ≤ s) : stripN P Q G s 1 (stripN P Q G r 1 p 0) 0 = stripN P Q G (r + s) 1 p 0 := by
  have hr := gx_el hP hQ hp.a r
  have hs := gx_el hP hQ hp.a s
  have h1 := hp.b.mul hP hQ (hr.iv hP hQ)
  unfold stripN
  simp only
  rw [gx_zero hP hQ, gx_zero hP hQ, el_mul_one h1, el_mul_one (h1.mul hP hQ (hs.iv hP hQ)), mul_assoc_rest, ← iv_mul hP hQ hr hs, gx_add hP hQ hp.a r0 s0,
    el_mul_one (hp.b.mul hP hQ ((gx_el hP hQ hp.a (r + s)).iv hP hQ)), el_mul_one hp.c, el_mul_one hp.c]
/-- What was sealed is a share's: of the key's power. -/
theorem seal_out (hP : 2 ≤ P) (hQ : 1 ≤ Q) (hG : El P Q G) (hm : El P Q m) {x t : Int} (x0 : 0 ≤ x) (t0 : 0 ≤ t) : m * gx P Q (gx P Q G x) t % P * iv P Q (gx P Q (gx P Q G t) x) % P = m := by
  have e : gx P Q (gx P Q G t) x = gx P Q (gx P Q G x) t := by
    have h1 := (gx_eqm hP hQ hG x0).pow t.toNat
    have h2 := (gx_eqm hP hQ hG t0).pow x.toNat
    have h3 := gx_eqm hP hQ (gx_el hP hQ hG t) x0
    have h4 := gx_eqm hP hQ (gx_el hP hQ hG x) t0
    rw [← Int.pow_mul] at h1 h2
    rw [Nat.mul_comm] at h2
    have h5 := Eqm.iff.1 ((h3.trans h2).trans (h4.trans h1).symm)
    rw [(gx_el hP hQ (gx_el hP hQ hG t) x).self, (gx_el hP hQ (gx_el hP hQ hG x) t).self] at h5
    exact h5
  rw [e]
  exact hm.back hP hQ (gx_el hP hQ (gx_el hP hQ hG x) t)
end
end Go.Proofs.Ytcnekfpgoceblaa
/-
  What is amiss with what a mix is asked; letters and batches that were answered.
-/
namespace Go.Proofs.Ytcnekfpgoceblaa
open Go.RowKit
set_option linter.unusedVariables false
def Trp.of (s : Stp) : Trp := ⟨s.P, s.Q, s.A⟩
/-! ### What is amiss -/
open Classical in
/-- Shape, length, elements: 0 where nothing is amiss. -/
noncomputable def fitC (n m : Nat) (lg el : Prop) : Int := if 1 ≤ n ∧ n ≤ 32 ∧ n = m then (if lg then 2 else if el then 0 else 8) else 1
section
variable {n m : Nat} {lg el : Prop}
theorem fitC_arg (h : ¬ (1 ≤ n ∧ n ≤ 32 ∧ n = m)) : fitC n m lg el = 1 := if_neg h
theorem fitC_long (h : 1 ≤ n ∧ n ≤ 32 ∧ n = m) (hl : lg) : fitC n m lg el = 2 := by unfold fitC; rw [if_pos h, if_pos hl]
theorem fitC_ok (h : 1 ≤ n ∧ n ≤ 32 ∧ n = m) (hl : ¬ lg) (he : el) : fitC n m lg el = 0 := by unfold fitC; rw [if_pos h, if_neg hl, if_pos he]
theorem fitC_no (h : 1 ≤ n ∧ n ≤ 32 ∧ n = m) (hl : ¬ lg) (he : ¬ el) : fitC n m lg el = 8 := by unfold fitC; rw [if_pos h, if_neg hl, if_neg he]
theorem fitC_zero (h : fitC n m lg el = 0) : (1 ≤ n ∧ n ≤ 32 ∧ n = m) ∧ ¬ lg ∧ el := by
  by_cases h1 : 1 ≤ n ∧ n ≤ 32 ∧ n = m
  · by_cases h2 : lg
    · rw [fitC_long h1 h2] at h; exact absurd h (by decide)
    · by_cases h3 : el
      · exact ⟨h1, h2, h3⟩
      · rw [fitC_no h1 h2 h3] at h; exact absurd h (by decide)
  · rw [fitC_arg h1] at h; exact absurd h (by decide)
theorem fitC_is (n m : Nat) (lg el : Prop) : fitC n m lg el = 0 ∨ fitC n m lg el = 1 ∨ fitC n m lg el = 2 ∨ fitC n m lg el = 8 := by
  by_cases h1 : 1 ≤ n ∧ n ≤ 32 ∧ n = m
  · by_cases h2 : lg
    · exact .inr (.inr (.inl (fitC_long h1 h2)))
    · by_cases h3 : el
      · exact .inl (fitC_ok h1 h2 h3)
      · exact .inr (.inr (.inr (fitC_no h1 h2 h3)))
  · exact .inr (.inl (fitC_arg h1))
end
/-- One scalar is too long. -/
def LgS (R : Nat → Nsl) (n : Nat) : Prop := ∃ i, i < n ∧ 64 < dl (R i).N
def ElS (P Q : Int) (M : Nat → Nsl) (n : Nat) : Prop := ∀ i, i < n → El P Q (M i).N
def ElL (P Q : Int) (S : Nat → Stp) (n : Nat) : Prop := ∀ i, i < n → ElT P Q (Trp.of (S i))
noncomputable def sealC (P Q K : Int) (M : Nat → Nsl) (nm : Nat) (R : Nat → Nsl) (nr : Nat) : Int := fitC nm nr (LgS R nr) (El P Q K ∧ ElS P Q M nm)
noncomputable def anewC (P Q K : Int) (S : Nat → Stp) (n : Nat) (R : Nat → Nsl) (nr : Nat) : Int := fitC n nr (LgS R nr) (El P Q K ∧ ElL P Q S n)
noncomputable def stripC (P Q s K : Int) (S : Nat → Stp) (n : Nat) (R : Nat → Nsl) (nr : Nat) : Int := fitC n nr (64 < dl s ∨ LgS R nr) (El P Q K ∧ ElL P Q S n)
noncomputable def turnC (P Q : Int) (S : Nat → Stp) (n : Nat) : Int := fitC n n False (ElL P Q S n)
/-- The shape of a batch, its permutation and its scalars. -/
def MixF (B : Nat → Lsl) (nb : Nat) (perm : Nat → Int) (np : Nat) (R : Nat → Rsl) (nr : Nat) : Prop :=
  nb ≤ 256 ∧ np = nb ∧ nr = nb ∧ (∀ i, i < nb → 1 ≤ (B i).n ∧ (B i).n ≤ 32 ∧ (B i).n = (R i).n ∧ (B i).n = (B 0).n ∧ 0 ≤ perm i ∧ perm i < nb) ∧ ∀ i k, k < i → i < nb → perm k ≠ perm i
open Classical in
noncomputable def mixC (P Q K : Int) (B : Nat → Lsl) (nb : Nat) (perm : Nat → Int) (np : Nat) (R : Nat → Rsl) (nr : Nat) : Int :=
  if MixF B nb perm np R nr then (if ∃ i, i < nb ∧ LgS (R i).S (R i).n then 2 else if El P Q K ∧ ∀ i, i < nb → ElL P Q (B i).S (B i).n then 0 else 8) else 1
/-! ### What was answered -/
/-- A letter's numbers are told without noughts behind. -/
def CanL (S : Nat → Stp) (n : Nat) : Prop := ∀ i, i < n → (S i).n1 = dl (S i).P ∧ (S i).n2 = dl (S i).Q ∧ (S i).n3 = dl (S i).A
def CanS (S : Nat → Nsl) (n : Nat) : Prop := ∀ i, i < n → (S i).n = dl (S i).N
/-- A letter that was answered, all of it in memory newer than base. -/
structure Lo (w : World) (base : Nat) (A : Option Addr) (n c : Nat) (S : Nat → Stp) : Prop where
  ch : Ch w A n c S
  can : CanL S n
  newA : ∀ a, A = some a → base ≤ a.block
  newS : ∀ i, i < n → (∀ a, (S i).A1 = some a → base ≤ a.block) ∧ (∀ a, (S i).A2 = some a → base ≤ a.block) ∧ ∀ a, (S i).A3 = some a → base ≤ a.block
theorem Lo.below {w w' : World} {base : Nat} {A : Option Addr} {n c : Nat} {S : Nat → Stp} (h : Lo w base A n c S) (hb : Below w.heap.size w w') : Lo w' base A n c S := ⟨h.ch.below hb, h.can, h.newA, h.newS⟩
theorem Lo.base {w : World} {base base' : Nat} {A : Option Addr} {n c : Nat} {S : Nat → Stp} (h : Lo w base A n c S) (hb : base' ≤ base) : Lo w base' A n c S :=
  ⟨h.ch, h.can, fun a ha => Nat.le_trans hb (h.newA a ha), fun i hi => ⟨fun a ha => Nat.le_trans hb ((h.newS i hi).1 a ha), fun a ha => Nat.le_trans hb ((h.newS i hi).2.1 a ha), fun a ha => Nat.le_trans hb ((h.newS i hi).2.2 a ha)⟩⟩
def LetA (T : Nat → Trp) (n : Nat) (w : World) (e : Ending) (w' : World) : Prop :=
  ∃ A c S, e = .returned (.tuple #[.slice A n c, .nilIface]) ∧ Lo w' w.heap.size A n c S ∧ (∀ i, i < n → Trp.of (S i) = T i) ∧ Below w.heap.size w w'
/-- A letter, or a Code. -/
def LetP (code : Int) (T : Nat → Trp) (n : Nat) (w : World) (e : Ending) (w' : World) : Prop := (code = 0 ∧ LetA T n w e w') ∨ (code ≠ 0 ∧ Err1 code w e w')
/-- A letter of the document's, or a number. -/
def DetP (code : Int) (T : Nat → Trp) (n : Nat) (w : World) (e : Ending) (w' : World) : Prop :=
  (code = 0 ∧ ∃ A c S, e = .returned (.tuple #[.slice A n c, .int .i64 0]) ∧ Ch w' A n c S ∧ CanL S n ∧ (∀ i, i < n → Trp.of (S i) = T i) ∧ Below w.heap.size w w') ∨
  (code ≠ 0 ∧ e = .returned (.tuple #[.slice none 0 0, .int .i64 code]) ∧ Below w.heap.size w w')
/-- A list of numbers, or a Code. -/
def NumP (code : Int) (T : Nat → Int) (n : Nat) (w : World) (e : Ending) (w' : World) : Prop :=
  (code = 0 ∧ ∃ A c S, e = .returned (.tuple #[.slice A n c, .nilIface]) ∧ Ns w' A n c S ∧ CanS S n ∧ (∀ i, i < n → (S i).N = T i) ∧ (∀ a, A = some a → w.heap.size ≤ a.block) ∧ Below w.heap.size w w') ∨ (code ≠ 0 ∧ Err1 code w e w')
/-- A batch, or a Code. -/
def BatP (code : Int) (T : Nat → Nat → Trp) (n m : Nat) (w : World) (e : Ending) (w' : World) : Prop :=
  (code = 0 ∧ ∃ A c B, e = .returned (.tuple #[.slice A n c, .nilIface]) ∧ Bat w' A n c B ∧ (∀ i, i < n → (B i).n = m ∧ Lo w' w.heap.size (B i).A (B i).n (B i).c (B i).S ∧ ∀ j, j < m → Trp.of ((B i).S j) = T i j) ∧ (∀ a, A = some a → w.heap.size ≤ a.block) ∧ Below w.heap.size w w') ∨
  (code ≠ 0 ∧ Err1 code w e w')
end Go.Proofs.Ytcnekfpgoceblaa
/-
  Answers of layer 7's calls in one form, for the laws that hold the program against the document: a letter (none where something is amiss), and an error's number.
-/
namespace Go.Proofs.Ytcnekfpgoceblaa
open Go.RowKit
set_option linter.unusedVariables false
theorem code7_any (c : Int) (h1 : 1 ≤ c) (h2 : c ≤ 15) (w : World) : Calls Try.prog 13 #[.iface 57 (.int .i64 c)] w fun e w' => e = .returned (.int .i64 c) ∧ w = w' := by
  go_enter Try.func13, Try.ntmps13
  go_wp2_with fail
  go_loop [3] (fun t => ∃ k : Int, t = .int .i64 k ∧ 1 ≤ k ∧ k ≤ c) (fun t => (c - intOf t).toNat)
  case atStart => exact ⟨1, rfl, by omega, h1⟩
  case round =>
    obtain ⟨k, rfl, hk1, hk2⟩ := hrel
    have q1 := eql_code c k
    have hk15 : k ≤ 15 := by omega
    by_cases hck : k = c
    · subst hck
      go_wp2
      go_ret
      exact ⟨rfl, rfl⟩
    · have hb : (c == k) = false := by simp; omega
      rw [hb] at q1
      have hw : IntKind.i64.wrap (k + 1) = k + 1 := IntWalk.i64_in _ (by omega)
      go_wp2
      exact ⟨⟨k + 1, rfl, by omega, by omega⟩, by simp [intOf]; omega⟩
theorem code7_nil (w : World) : Calls Try.prog 13 #[.nilIface] w fun e w' => e = .returned (.int .i64 0) ∧ w = w' := by
  go_enter Try.func13, Try.ntmps13
  go_wp2
  go_ret
  exact ⟨rfl, rfl⟩
/-- An error of a number; none is 0. -/
def ErV (E : Value) (code : Int) : Prop := (code = 0 ∧ E = .nilIface) ∨ ((1 ≤ code ∧ code ≤ 15) ∧ E = .iface 57 (.int .i64 code))
theorem code_e {E : Value} {code : Int} (h : ErV E code) (w : World) : Calls Try.prog 13 #[E] w fun e w' => e = .returned (.int .i64 code) ∧ w = w' := by
  rcases h with ⟨rfl, rfl⟩ | ⟨⟨h1, h2⟩, rfl⟩
  · exact code7_nil w
  · exact code7_any code h1 h2 w
/-- How long the answer is. -/
def lenV (code : Int) (n : Nat) : Nat := if code = 0 then n else 0
/-- A letter, and an error. -/
def LetV (code : Int) (T : Nat → Trp) (n : Nat) (w : World) (e : Ending) (w' : World) : Prop :=
  ∃ A c S E, e = .returned (.tuple #[.slice A (lenV code n) c, E]) ∧ ErV E code ∧ Ch w' A (lenV code n) c S ∧ CanL S (lenV code n) ∧ (∀ i, i < lenV code n → Trp.of (S i) = T i) ∧ Below w.heap.size w w'
/-- The document's. -/
def DetV (code : Int) (T : Nat → Trp) (n : Nat) (w : World) (e : Ending) (w' : World) : Prop :=
  ∃ A c S, e = .returned (.tuple #[.slice A (lenV code n) c, .int .i64 code]) ∧ Ch w' A (lenV code n) c S ∧ CanL S (lenV code n) ∧ (∀ i, i < lenV code n → Trp.of (S i) = T i) ∧ Below w.heap.size w w'
theorem ch_nil (w : World) (S : Nat → Stp) : Ch w none 0 0 S := ⟨Nat.le_refl _, by omega, fun h => absurd h (by omega), fun i h => absurd h (by omega)⟩
def stp0 : Nat → Stp := fun _ => ⟨none, 0, 0, none, 0, 0, none, 0, 0, 0, 0, 0⟩
theorem lenV0 (n : Nat) : lenV 0 n = n := rfl
theorem lenVn {code : Int} (h : code ≠ 0) (n : Nat) : lenV code n = 0 := if_neg h
section
variable {code : Int} {T : Nat → Trp} {n : Nat} {w w' : World} {e : Ending}
theorem LetP.v (h : LetP code T n w e w') (hc : code ≠ 0 → 1 ≤ code ∧ code ≤ 15) : LetV code T n w e w' := by
  rcases h with ⟨rfl, A, c, S, rfl, h1, h2, h3⟩ | ⟨h0, rfl, h3⟩
  · exact ⟨A, c, S, .nilIface, rfl, .inl ⟨rfl, rfl⟩, h1.ch, h1.can, h2, h3⟩
  · unfold LetV
    rw [lenVn h0]
    exact ⟨none, 0, stp0, _, rfl, .inr ⟨hc h0, rfl⟩, ch_nil _ _, fun i hi => absurd hi (Nat.not_lt_zero i), fun i hi => absurd hi (Nat.not_lt_zero i), h3⟩
theorem DetP.v (h : DetP code T n w e w') : DetV code T n w e w' := by
  rcases h with ⟨rfl, A, c, S, rfl, h1, h2, h3, h4⟩ | ⟨h0, rfl, h3⟩
  · exact ⟨A, c, S, rfl, h1, h2, h3, h4⟩
  · unfold DetV
    rw [lenVn h0]
    exact ⟨none, 0, stp0, rfl, ch_nil _ _, fun i hi => absurd hi (Nat.not_lt_zero i), fun i hi => absurd hi (Nat.not_lt_zero i), h3⟩
/-- A list of numbers, and an error. -/
def NumV (code : Int) (T : Nat → Int) (n : Nat) (w : World) (e : Ending) (w' : World) : Prop :=
  ∃ A c S E, e = .returned (.tuple #[.slice A (lenV code n) c, E]) ∧ ErV E code ∧ Ns w' A (lenV code n) c S ∧ CanS S (lenV code n) ∧ (∀ i, i < lenV code n → (S i).N = T i) ∧ Below w.heap.size w w'
theorem NumP.v {T : Nat → Int} (h : NumP code T n w e w') (hc : code ≠ 0 → 1 ≤ code ∧ code ≤ 15) : NumV code T n w e w' := by
  rcases h with ⟨rfl, A, c, S, rfl, h1, h2, h3, -, h4⟩ | ⟨h0, rfl, h3⟩
  · exact ⟨A, c, S, .nilIface, rfl, .inl ⟨rfl, rfl⟩, h1, h2, h3, h4⟩
  · unfold NumV
    rw [lenVn h0]
    exact ⟨none, 0, fun _ => ⟨none, 0, 0, 0⟩, _, rfl, .inr ⟨hc h0, rfl⟩, Ns.nil _ _, fun i hi => absurd hi (Nat.not_lt_zero i), fun i hi => absurd hi (Nat.not_lt_zero i), h3⟩
theorem fitC_rng {n m : Nat} {lg el : Prop} : fitC n m lg el ≠ 0 → 1 ≤ fitC n m lg el ∧ fitC n m lg el ≤ 15 := fun h => by
  rcases fitC_is n m lg el with g | g | g | g
  · exact absurd g h
  · rw [g]; decide
  · rw [g]; decide
  · rw [g]; decide
end
end Go.Proofs.Ytcnekfpgoceblaa
