/-
  The number that a list of digits is, and a number's digits; no program is spoken of here.
-/
namespace Go.Proofs.YtnfncaaclpddkaaDoor
/-- The number that digits are, the lowest first. -/
def val (b : Int) : List Int → Int
  | [] => 0
  | x :: xs => x + b * val b xs
def Dig (b : Int) (xs : List Int) : Prop := ∀ x ∈ xs, 0 ≤ x ∧ x < b
def dgN (b : Nat) (n : Nat) : List Int :=
  if _h : n = 0 ∨ b ≤ 1 then [] else ((n % b : Nat) : Int) :: dgN b (n / b)
termination_by n
decreasing_by exact Nat.div_lt_self (by omega) (by omega)
/-- A number's digits, the lowest first, no nought at the end. -/
def dg (b n : Int) : List Int := dgN b.toNat n.toNat
theorem dg_zero (b : Int) : dg b 0 = [] := by unfold dg dgN; simp
theorem dg_pos {b n : Int} (hb : 2 ≤ b) (hn : 0 < n) : dg b n = n % b :: dg b (n / b) := by
  obtain ⟨c, rfl⟩ := Int.eq_ofNat_of_zero_le (show 0 ≤ b by omega)
  obtain ⟨m, rfl⟩ := Int.eq_ofNat_of_zero_le (show 0 ≤ n by omega)
  unfold dg
  rw [dgN, dif_neg (by simp; omega)]
  simp
  congr 1
theorem dg_ind {P : Int → Prop} {b : Int} (hb : 2 ≤ b) (h0 : P 0) (hs : ∀ n, 0 < n → P (n / b) → P n) : ∀ n, 0 ≤ n → P n := by
  intro n hn
  obtain ⟨m, rfl⟩ := Int.eq_ofNat_of_zero_le hn
  obtain ⟨c, rfl⟩ := Int.eq_ofNat_of_zero_le (show 0 ≤ b by omega)
  induction m using Nat.strongRecOn with
  | _ m ih =>
    rcases Nat.eq_zero_or_pos m with h | h
    · subst h; exact h0
    · refine hs m (by omega) ?_
      have := ih (m / c) (Nat.div_lt_self h (by omega)) (Int.natCast_nonneg _)
      simpa using this
theorem val_dg {b n : Int} (hb : 2 ≤ b) (hn : 0 ≤ n) : val b (dg b n) = n := by
  refine dg_ind (P := fun n => val b (dg b n) = n) hb ?_ ?_ n hn
  · rw [dg_zero]; rfl
  · intro n h ih; rw [dg_pos hb h]; simp only [val]; rw [ih]; exact Int.emod_add_mul_ediv n b
theorem dig_nil (b : Int) : Dig b [] := fun _ h => by cases h
theorem dig_cons {b x : Int} {xs : List Int} : Dig b (x :: xs) ↔ (0 ≤ x ∧ x < b) ∧ Dig b xs := by simp [Dig]
theorem dig_dg {b n : Int} (hb : 2 ≤ b) (hn : 0 ≤ n) : Dig b (dg b n) := by
  refine dg_ind (P := fun n => Dig b (dg b n)) hb ?_ ?_ n hn
  · rw [dg_zero]; exact dig_nil b
  · intro n h ih; rw [dg_pos hb h, dig_cons]; exact ⟨⟨Int.emod_nonneg _ (by omega), Int.emod_lt_of_pos _ (by omega)⟩, ih⟩
theorem val_nonneg {b : Int} (hb : 0 ≤ b) {xs : List Int} (h : Dig b xs) : 0 ≤ val b xs := by
  induction xs with
  | nil => exact Int.le_refl 0
  | cons x xs ih => rw [dig_cons] at h; simp only [val]; have := Int.mul_nonneg hb (ih h.2); omega
theorem val_lt {b : Int} (hb : 0 ≤ b) {xs : List Int} (h : Dig b xs) : val b xs < b ^ xs.length := by
  induction xs with
  | nil => simp [val]
  | cons x xs ih =>
    rw [dig_cons] at h; simp only [val, List.length_cons]
    have h1 := ih h.2
    have h2 : b * (val b xs + 1) ≤ b * b ^ xs.length := Int.mul_le_mul_of_nonneg_left (by omega) hb
    rw [Int.pow_succ, Int.mul_comm (b ^ xs.length)]
    rw [Int.mul_add] at h2; omega
theorem val_append (b : Int) (xs ys : List Int) : val b (xs ++ ys) = val b xs + b ^ xs.length * val b ys := by
  induction xs with
  | nil => simp [val]
  | cons x xs ih => simp only [List.cons_append, val, ih, List.length_cons, Int.pow_succ]; grind
theorem val_zeros (b : Int) {xs : List Int} (h : ∀ x ∈ xs, x = 0) : val b xs = 0 := by
  induction xs with
  | nil => rfl
  | cons x xs ih => simp only [val]; rw [ih (fun y hy => h y (by simp [hy])), h x (by simp)]; simp
/-- Digits without a nought at the end are their number's. -/
theorem dg_uniq {b : Int} (hb : 2 ≤ b) {xs : List Int} (h : Dig b xs) (hl : ∀ x, xs.getLast? = some x → x ≠ 0) : dg b (val b xs) = xs ∧ (xs ≠ [] → 0 < val b xs) := by
  induction xs with
  | nil => exact ⟨by simp [val, dg_zero], fun h => absurd rfl h⟩
  | cons x xs ih =>
    rw [dig_cons] at h
    have hx := h.1
    have hp : 0 < val b (x :: xs) ∧ dg b (val b xs) = xs := by
      cases xs with
      | nil => have := hl x (by simp); simp [val, dg_zero]; omega
      | cons y ys =>
        have hi := ih h.2 (fun z hz => hl z (by simpa using hz))
        refine ⟨?_, hi.1⟩
        have h1 := hi.2 (by simp)
        have h2 := Int.mul_pos (show 0 < b by omega) h1
        rw [val]; omega
    refine ⟨?_, fun _ => hp.1⟩
    rw [dg_pos hb hp.1]
    have e1 : val b (x :: xs) % b = x := by
      simp only [val]; rw [Int.add_mul_emod_self_left]; exact Int.emod_eq_of_lt hx.1 hx.2
    have e2 : val b (x :: xs) / b = val b xs := by
      simp only [val]; rw [Int.add_mul_ediv_left _ _ (by omega), Int.ediv_eq_zero_of_lt hx.1 hx.2]; simp
    rw [e1, e2, hp.2]
/-- What is left of digits when the noughts at their end are struck. -/
theorem strip {b : Int} (hb : 2 ≤ b) {xs : List Int} (h : Dig b xs) {n : Nat} (hn : n ≤ xs.length) (hz : ∀ j, n ≤ j → j < xs.length → xs.getD j 0 = 0) (hl : 0 < n → xs.getD (n - 1) 0 ≠ 0) :
    xs.take n = dg b (val b xs) ∧ n = (dg b (val b xs)).length := by
  have e : val b xs = val b (xs.take n) := by
    conv => lhs; rw [← List.take_append_drop n xs, val_append]
    rw [val_zeros b (xs := xs.drop n)]; · simp
    intro x hx
    obtain ⟨j, hj, rfl⟩ := List.mem_iff_getElem.1 hx
    simp at hj
    have := hz (n + j) (by omega) (by omega)
    rw [List.getElem_drop]
    rw [List.getD_eq_getElem?_getD, List.getElem?_eq_getElem (by omega), Option.getD_some] at this
    exact this
  have hd : Dig b (xs.take n) := fun x hx => h x (List.mem_of_mem_take hx)
  have hu := dg_uniq hb hd (by
    intro x hx
    rw [List.getLast?_eq_getElem?] at hx
    simp only [List.length_take] at hx
    rw [Nat.min_eq_left hn] at hx
    rcases Nat.eq_zero_or_pos n with h0 | h0
    · subst h0; simp at hx
    · have := hl h0
      rw [List.getElem?_take_of_lt (by omega)] at hx
      rw [List.getD_eq_getElem?_getD, hx] at this
      simpa using this)
  rw [e, hu.1]
  exact ⟨rfl, by simp; omega⟩
end Go.Proofs.YtnfncaaclpddkaaDoor
