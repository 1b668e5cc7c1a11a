/-
  Sums of digits' powers, for loops that go digit by digit; no program is spoken of here.
-/
import Derived.Test.YtnfncaaclpddkaaDoorNum
namespace Go.Proofs.YtnfncaaclpddkaaDoor
/-- A digit, 0 above all. -/
def dig (xs : List Int) (i : Nat) : Int := xs.getD i 0
theorem dig_lt {xs : List Int} {i : Nat} {x : Int} (h : xs[i]? = some x) : dig xs i = x := by simp [dig, h]
theorem dig_ge {xs : List Int} {i : Nat} (h : xs.length ≤ i) : dig xs i = 0 := by simp [dig, List.getElem?_eq_none h]
theorem dig_bd {b : Int} (hb : 0 < b) {xs : List Int} (h : Dig b xs) (i : Nat) : 0 ≤ dig xs i ∧ dig xs i < b := by
  rcases Nat.lt_or_ge i xs.length with hi | hi
  · rw [dig_lt (List.getElem?_eq_getElem hi)]; exact h _ (List.getElem_mem hi)
  · rw [dig_ge hi]; exact ⟨Int.le_refl 0, hb⟩
theorem dig_set {xs : List Int} {i : Nat} {x : Int} (hi : i < xs.length) (j : Nat) : dig (xs.set i x) j = if j = i then x else dig xs j := by
  unfold dig
  rw [List.getD_eq_getElem?_getD, List.getD_eq_getElem?_getD, List.getElem?_set]
  by_cases h : j = i
  · subst h; simp [hi]
  · rw [if_neg (by omega), if_neg h]
theorem dig_set_same {xs : List Int} {i : Nat} {x : Int} (hi : i < xs.length) : dig (xs.set i x) i = x := by rw [dig_set hi, if_pos rfl]
theorem dig_set_ne {xs : List Int} {i j : Nat} {x : Int} (h : j ≠ i) : dig (xs.set i x) j = dig xs j := by
  unfold dig
  rw [List.getD_eq_getElem?_getD, List.getD_eq_getElem?_getD, List.getElem?_set, if_neg (by omega)]
theorem Dig.set {b x : Int} {xs : List Int} (h : Dig b xs) (h0 : 0 ≤ x) (h1 : x < b) (i : Nat) : Dig b (xs.set i x) := by
  intro y hy
  rcases List.mem_or_eq_of_mem_set hy with hy | rfl
  · exact h y hy
  · exact ⟨h0, h1⟩
theorem dig_take {xs : List Int} {n j : Nat} (h : j < n) : dig (xs.take n) j = dig xs j := by
  unfold dig; rw [List.getD_eq_getElem?_getD, List.getD_eq_getElem?_getD, List.getElem?_take_of_lt h]
theorem dig_drop {xs : List Int} {n j : Nat} : dig (xs.drop n) j = dig xs (n + j) := by
  unfold dig; rw [List.getD_eq_getElem?_getD, List.getD_eq_getElem?_getD, List.getElem?_drop]
theorem dig_replicate (n j : Nat) : dig (List.replicate n 0) j = 0 := by
  unfold dig; rw [List.getD_eq_getElem?_getD, List.getElem?_replicate]; split <;> rfl
theorem getElem?_dig {xs : List Int} {i : Nat} (h : i < xs.length) : xs[i]? = some (dig xs i) := by
  rw [List.getElem?_eq_getElem h, dig_lt (List.getElem?_eq_getElem h)]
theorem ext_dig {xs ys : List Int} (h : xs.length = ys.length) (k : ∀ j, j < xs.length → dig xs j = dig ys j) : xs = ys := by
  apply List.ext_getElem? 
  intro j
  rcases Nat.lt_or_ge j xs.length with hj | hj
  · rw [getElem?_dig hj, getElem?_dig (by omega), k j hj]
  · rw [List.getElem?_eq_none hj, List.getElem?_eq_none (by omega)]

/-- The sum of f j times b to the j, j below k. -/
def vf (b : Int) (f : Nat → Int) : Nat → Int
  | 0 => 0
  | k + 1 => vf b f k + f k * b ^ k
theorem vf_congr (b : Int) {f g : Nat → Int} {k : Nat} (h : ∀ j, j < k → f j = g j) : vf b f k = vf b g k := by
  induction k with
  | zero => rfl
  | succ k ih => simp only [vf]; rw [ih (fun j hj => h j (by omega)), h k (by omega)]
theorem vf_zero (b : Int) {f : Nat → Int} {k m : Nat} (hm : k ≤ m) (h : ∀ j, k ≤ j → f j = 0) : vf b f m = vf b f k := by
  induction m with
  | zero => have : k = 0 := by omega
            subst this; rfl
  | succ m ih =>
    rcases Nat.lt_or_ge m k with h1 | h1
    · have : k = m + 1 := by omega
      subst this; rfl
    · simp only [vf]; rw [ih h1, h m h1]; simp
theorem val_take (b : Int) (xs : List Int) {k : Nat} (hk : k ≤ xs.length) : val b (xs.take k) = vf b (dig xs) k := by
  induction k with
  | zero => rfl
  | succ k ih =>
    rw [List.take_succ_eq_append_getElem (by omega), val_append, ih (by omega)]
    have : (xs.take k).length = k := by rw [List.length_take]; omega
    rw [this]
    simp only [vf, val]
    rw [dig_lt (List.getElem?_eq_getElem (show k < xs.length by omega))]
    simp [Int.mul_comm]
theorem val_vf (b : Int) (xs : List Int) {m : Nat} (hm : xs.length ≤ m) : val b xs = vf b (dig xs) m := by
  have h := val_take b xs (Nat.le_refl _)
  rw [List.take_length] at h
  rw [h]
  exact (vf_zero b hm (fun j hj => dig_ge hj)).symm
theorem dg_len_le {b n : Int} (hb : 2 ≤ b) (hn : 0 ≤ n) {k : Nat} (h : n < b ^ k) : (dg b n).length ≤ k := by
  induction k generalizing n with
  | zero => have : n = 0 := by simp at h; omega
            subst this; simp [dg_zero]
  | succ k ih =>
    rcases Int.lt_or_eq_of_le hn with h0 | h0
    · rw [dg_pos hb h0, List.length_cons]
      have := ih (n := n / b) (Int.ediv_nonneg hn (by omega)) (Int.ediv_lt_of_lt_mul (by omega) (by rwa [Int.pow_succ] at h))
      omega
    · subst h0; simp [dg_zero]
theorem pow_mono {b : Int} (hb : 1 ≤ b) {k m : Nat} (h : k ≤ m) : b ^ k ≤ b ^ m := by
  obtain ⟨c, rfl⟩ := Int.eq_ofNat_of_zero_le (show 0 ≤ b by omega)
  have := Nat.pow_le_pow_right (show 0 < c by omega) h
  have h2 : ((c ^ k : Nat) : Int) ≤ ((c ^ m : Nat) : Int) := by omega
  simpa using h2
theorem dg_lt_pow {b n : Int} (hb : 2 ≤ b) (hn : 0 ≤ n) {k : Nat} (h : (dg b n).length ≤ k) : n < b ^ k := by
  have h1 := val_lt (b := b) (by omega) (dig_dg hb hn)
  rw [val_dg hb hn] at h1
  exact Int.lt_of_lt_of_le h1 (pow_mono (by omega) h)
theorem pow_pos' {b : Int} (hb : 2 ≤ b) (k : Nat) : 0 < b ^ k := Int.pow_pos (by omega)
theorem dg_len_mono {b n m : Int} (hb : 2 ≤ b) (hn : 0 ≤ n) (h : n ≤ m) : (dg b n).length ≤ (dg b m).length :=
  dg_len_le hb hn (Int.lt_of_le_of_lt h (dg_lt_pow hb (by omega) (Nat.le_refl _)))
theorem dg_nil_iff {b n : Int} (hb : 2 ≤ b) (hn : 0 ≤ n) : (dg b n).length = 0 ↔ n = 0 := by
  constructor
  · intro h
    have := dg_lt_pow hb hn (k := 0) (by omega)
    simp at this; omega
  · rintro rfl; simp [dg_zero]
/-- The highest digit isn't 0. -/
theorem dg_top {b n : Int} (hb : 2 ≤ b) (hn : 0 < n) : 1 ≤ dig (dg b n) ((dg b n).length - 1) := by
  have hd := dig_dg hb (show 0 ≤ n by omega)
  have hl : 0 < (dg b n).length := by
    rcases Nat.eq_zero_or_pos (dg b n).length with h | h
    · have := (dg_nil_iff hb (by omega)).1 h; omega
    · exact h
  have h0 := dig_bd (b := b) (by omega) hd ((dg b n).length - 1)
  rcases Int.lt_or_eq_of_le h0.1 with h | h
  · omega
  · exfalso
    have hv : val b (dg b n) = vf b (dig (dg b n)) ((dg b n).length - 1) := by
      rw [val_vf b (dg b n) (Nat.le_refl _)]
      obtain ⟨m, hm⟩ : ∃ m, (dg b n).length = m + 1 := ⟨(dg b n).length - 1, by omega⟩
      rw [hm] at h ⊢
      simp only [Nat.add_sub_cancel] at h ⊢
      simp only [vf]; rw [← h]; simp
    have h1 : vf b (dig (dg b n)) ((dg b n).length - 1) < b ^ ((dg b n).length - 1) := by
      rw [← val_take b (dg b n) (by omega)]
      have := val_lt (b := b) (by omega) (xs := (dg b n).take ((dg b n).length - 1)) (fun x hx => hd x (List.mem_of_mem_take hx))
      rwa [List.length_take, Nat.min_eq_left (by omega)] at this
    rw [val_dg hb (by omega)] at hv
    rw [← hv] at h1
    have := dg_len_le hb (by omega) h1
    omega
end Go.Proofs.YtnfncaaclpddkaaDoor
