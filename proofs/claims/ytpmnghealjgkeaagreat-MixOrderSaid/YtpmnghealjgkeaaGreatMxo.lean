/-
  Shares taken off one by one, and sealed on to a next key: in numbers.
-/
import Derived.Test.YtpmnghealjgkeaaGreatMxx
namespace Go.Proofs.YtpmnghealjgkeaaGreat
set_option linter.unusedVariables false
/-- A letter's pair behind shares of sum X, sealed on with scalars of sum V. -/
def opT (P Q G A B nx X V : Int) : Trp := ⟨A, B * iv P Q (gx P Q A X) % P * gx P Q nx V % P, gx P Q G V⟩
/-- The first i of these, put together. -/
def sumN (f : Nat → Int) : Nat → Int
  | 0 => 0
  | i + 1 => sumN f i + f i
theorem sumN_pos {f : Nat → Int} (h : ∀ i, 0 ≤ f i) : ∀ i, 0 ≤ sumN f i
  | 0 => Int.le_refl _
  | i + 1 => Int.add_nonneg (sumN_pos h i) (h i)
section
variable {P Q G A B nx X V m k t x v : Int}
theorem opT_el (hP : 2 ≤ P) (hQ : 1 ≤ Q) (hG : El P Q G) (hA : El P Q A) (hB : El P Q B) (hn : El P Q nx) : ElT P Q (opT P Q G A B nx X V) :=
  ⟨hA, ((hB.mul hP hQ ((gx_el hP hQ hA X).iv hP hQ))).mul hP hQ (gx_el hP hQ hn V), gx_el hP hQ hG V⟩
theorem opT_start (hP : 2 ≤ P) (hQ : 1 ≤ Q) (hG : El P Q G) (hk : El P Q k) (hm : El P Q m) : sealN P Q G k m t = opT P Q G (gx P Q G t) (m * gx P Q k t % P) nx 0 0 := by
  have hB := hm.mul hP hQ (gx_el hP hQ hk t)
  unfold sealN opT
  rw [gx_zero hP hQ, gx_zero hP hQ, gx_zero hP hQ, iv_one hP, el_mul_one hB, el_mul_one hB]
theorem opT_step (hP : 2 ≤ P) (hQ : 1 ≤ Q) (hG : El P Q G) (hA : El P Q A) (hn : El P Q nx) (X0 : 0 ≤ X) (V0 : 0 ≤ V) (x0 : 0 ≤ x) (v0 : 0 ≤ v) :
    stripN P Q G x nx (opT P Q G A B nx X V) v = opT P Q G A B nx (X + x) (V + v) := by
  unfold stripN opT
  simp only
  rw [gx_add hP hQ hG V0 v0, ← gx_add hP hQ hA X0 x0, iv_mul hP hQ (gx_el hP hQ hA X) (gx_el hP hQ hA x), ← gx_add hP hQ hn V0 v0]
  congr 1
  generalize iv P Q (gx P Q A X) = p
  generalize iv P Q (gx P Q A x) = q
  generalize gx P Q nx V = r
  generalize gx P Q nx v = s
  have h1 : Eqm P (B * p % P * r % P * q % P * s) (B * p * r * q * s) := ((Eqm.mod P _).trans (((Eqm.mod P _).trans ((Eqm.mod P _).mul (Eqm.refl P r))).mul (Eqm.refl P q))).mul (Eqm.refl P s)
  have h2 : Eqm P (B * (p * q % P) % P * (r * s % P)) (B * (p * q) * (r * s)) := ((Eqm.mod P _).trans ((Eqm.refl P B).mul (Eqm.mod P _))).mul (Eqm.mod P _)
  exact Eqm.iff.1 (h1.trans ((Eqm.of_eq (by grind)).trans h2.symm))
/-- All shares off, turned, and the next key's share off: what was sealed. -/
theorem opT_end (hP : 2 ≤ P) (hQ : 1 ≤ Q) (hG : El P Q G) (hm : El P Q m) {a l : Int} (a0 : 0 ≤ a) (t0 : 0 ≤ t) (l0 : 0 ≤ l) (V0 : 0 ≤ V) (hX : X % Q = a) (hn : nx = gx P Q G l) (hk : k = gx P Q G a) (v : Int) :
    (stripN P Q G l 1 (turnN (opT P Q G (gx P Q G t) (m * gx P Q k t % P) nx X V)) v).b = m := by
  subst hn hk
  unfold stripN turnN opT
  simp only
  rw [one_gx hP, ← gx_mod hQ (gx P Q G t) X, hX, seal_out hP hQ hG hm a0 t0, seal_out hP hQ hG hm l0 V0, el_mul_one hm]
end
end Go.Proofs.YtpmnghealjgkeaaGreat
