/-
  ShareHides: a polynomial that is 'off' at 0 and 0 at the places below its length, and how it grows by a factor.
-/
import Derived.Test.YtkecfdeepmhggaaNin
namespace Go.Proofs.Ytkecfdeepmhggaa
set_option linter.unusedVariables false
/-- At length t: 'off' at 0, nought at 1 .. t - 1. -/
structure HidV (Q off : Int) (t : Nat) (V : Nat → Int) : Prop where
  rng : ∀ j, j < t → 0 ≤ V j ∧ V j < Q
  head : Eqm Q (V 0) off
  zero : ∀ y : Nat, 1 ≤ y → y < t → Eqm Q (pvl V t (y : Int)) 0
theorem HidV.one {Q off : Int} (V : Nat → Int) (h0 : 0 ≤ V 0) (h1 : V 0 < Q) (h : Eqm Q (V 0) off) : HidV Q off 1 V :=
  ⟨fun j hj => by obtain rfl : j = 0 := by omega
                  exact ⟨h0, h1⟩, h, fun y hy hy1 => by omega⟩
/-- V below t, nought from there on. -/
def cutV (t : Nat) (V : Nat → Int) : Nat → Int := fun j => if j < t then V j else 0
theorem pvl_cut (t : Nat) (V : Nat → Int) (y : Int) : pvl (cutV t V) t y = pvl V t y := smI_eq fun i hi => by
  show cutV t V i * y ^ i = V i * y ^ i
  unfold cutV
  rw [if_pos hi]
theorem HidV.next {Q off v : Int} {t : Nat} {V Z : Nat → Int} (h : HidV Q off t V) (ht : 1 ≤ t) (hv : Eqm Q ((t : Int) * v) 1) (hr : ∀ j, j < t + 1 → 0 ≤ Z j ∧ Z j < Q) (hZ : ∀ j, j < t + 1 → Eqm Q (Z j) (fac v (cutV t V) j)) : HidV Q off (t + 1) Z := by
  have c0 : cutV t V t = 0 := if_neg (Nat.lt_irrefl t)
  refine ⟨hr, (hZ 0 (by omega)).trans ?_, fun y hy hyt => ?_⟩
  · show Eqm Q (cutV t V 0) off
    unfold cutV
    rw [if_pos (by omega)]
    exact h.head
  · have e1 : Eqm Q (pvl Z (t + 1) (y : Int)) (pvl (fac v (cutV t V)) (t + 1) (y : Int)) := pvl_congr hZ (Eqm.refl _ _)
    rw [pvl_fac c0, pvl_cut] at e1
    refine e1.trans ?_
    rcases Nat.lt_or_ge y t with g | g
    · exact fac_keeps (h.zero y hy g)
    · obtain rfl : y = t := by omega
      exact fac_kills hv rfl
/-- The inner loop's numbers: up to kk made, at kk the half of it, nought above. -/
structure HzV (Q v : Int) (C : Nat → Int) (t kk : Nat) (Z : Nat → Int) : Prop where
  rng : ∀ j, j < t + 1 → 0 ≤ Z j ∧ Z j < Q
  done : ∀ j, j < kk → Eqm Q (Z j) (fac v C j)
  half : Eqm Q (Z kk) (fac v C kk - C kk)
  nil : ∀ j, kk < j → j < t + 1 → Z j = 0
theorem HzV.start {Q v : Int} (C : Nat → Int) (t : Nat) (hQ : 0 < Q) : HzV Q v C t 0 (fun _ => 0) :=
  ⟨fun j _ => ⟨Int.le_refl _, hQ⟩, fun j hj => absurd hj (Nat.not_lt_zero j), Eqm.of_eq (by show (0 : Int) = C 0 - C 0; omega), fun _ _ _ => rfl⟩
theorem HzV.step {Q v : Int} {C : Nat → Int} {t kk : Nat} {Z Z' : Nat → Int} (h : HzV Q v C t kk Z) (hQ : 0 < Q) (hk : kk < t) (ha : Z' kk = (Z kk + C kk) % Q) (hb : Z' (kk + 1) = (Z (kk + 1) - C kk * v % Q) % Q)
    (ho : ∀ j, j < t + 1 → j ≠ kk → j ≠ kk + 1 → Z' j = Z j) : HzV Q v C t (kk + 1) Z' := by
  refine ⟨fun j hj => ?_, fun j hj => ?_, ?_, fun j hj hjt => ?_⟩
  · by_cases g : j = kk
    · subst g; rw [ha]; exact ⟨Int.emod_nonneg _ (by omega), Int.emod_lt_of_pos _ hQ⟩
    · by_cases g1 : j = kk + 1
      · subst g1; rw [hb]; exact ⟨Int.emod_nonneg _ (by omega), Int.emod_lt_of_pos _ hQ⟩
      · rw [ho j hj g g1]; exact h.rng j hj
  · by_cases g : j = kk
    · subst g
      rw [ha]
      refine (Eqm.mod _ _).trans ((h.half.add (Eqm.refl _ (C j))).trans (Eqm.of_eq (by omega)))
    · rw [ho j (by omega) g (by omega)]; exact h.done j (by omega)
  · rw [hb, h.nil (kk + 1) (by omega) (by omega)]
    refine (Eqm.mod _ _).trans (((Eqm.refl _ 0).sub (Eqm.mod _ (C kk * v))).trans (Eqm.of_eq ?_))
    show 0 - C kk * v = C (kk + 1) - v * C kk - C (kk + 1)
    rw [Int.mul_comm (C kk) v]
    omega
  · rw [ho j hjt (by omega) (by omega)]; exact h.nil j (by omega) hjt
theorem HzV.last {Q off v : Int} {t : Nat} {V Z : Nat → Int} (h : HzV Q v (cutV t V) t t Z) (hV : HidV Q off t V) (ht : 1 ≤ t) (hv : Eqm Q ((t : Int) * v) 1) : HidV Q off (t + 1) Z :=
  hV.next ht hv h.rng fun j hj => by
    rcases Nat.lt_or_ge j t with g | g
    · exact h.done j g
    · obtain rfl : j = t := by omega
      have c0 : cutV j V j = 0 := if_neg (Nat.lt_irrefl j)
      have := h.half
      rw [c0] at this
      exact this.trans (Eqm.of_eq (by omega))
/-- What is added says nothing at the places. -/
theorem hid_same {Q off : Int} {k : Nat} {a V O : Nat → Int} (h : HidV Q off k V) (hO : ∀ j, j < k → O j = (a j + V j) % Q) {y : Nat} (h1 : 1 ≤ y) (h2 : y < k) : pvl O k (y : Int) % Q = pvl a k (y : Int) % Q := by
  have e1 : Eqm Q (pvl O k (y : Int)) (pvl (fun t => a t + V t) k (y : Int)) := pvl_congr (fun j hj => by rw [hO j hj]; exact Eqm.mod _ _) (Eqm.refl _ _)
  rw [pvl_add] at e1
  have e2 := e1.trans ((Eqm.refl Q (pvl a k (y : Int))).add (h.zero y h1 h2))
  rw [Int.add_zero] at e2
  exact e2.emod
theorem hid_first {Q s : Int} {k : Nat} {a V O : Nat → Int} (h : HidV Q (s - a 0) k V) (k0 : 0 < k) (hO : ∀ j, j < k → O j = (a j + V j) % Q) : O 0 = s % Q := by
  rw [hO 0 k0]
  exact ((Eqm.refl Q (a 0)).add h.head).trans (Eqm.of_eq (by omega)) |>.emod
end Go.Proofs.Ytkecfdeepmhggaa
