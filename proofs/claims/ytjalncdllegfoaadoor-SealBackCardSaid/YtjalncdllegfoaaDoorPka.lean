/-
  Several texts in one: Num, Val, Mem, Lim, Bits, Nm, Add, Cmp, Times, Mul, Shift, Div64, Take, Divide, Norm, Sub.
-/
import Derived.Test.YtjalncdllegfoaaDoorProg
import Derived.WalkKit
import Derived.WalkSpells
import Derived.WalkLawsBesides
import Derived.Lib.Hide
import Derived.Deep.Draws
import Derived.Laws.OwnMore
import Derived.Shelf.Small.Bits
import Derived.Shelf.Strconv.Itoa0
import Derived.Shelf.Bits.Mul64
import Derived.Shelf.Spec.BitsCarry
import Derived.Deep.QuietTactic
import Derived.BigQuiet
import Derived.Deep.RegionWith
import Derived.Laws.BitsLemmas
import Derived.Laws.Bits64b
import Derived.Deep.DeepCutAuto
import Derived.Deep.CutBlock
import Derived.Lib.ItoaNum
import Derived.Laws.CopyOwn
import Derived.StillTailTactics
/-
  The number that a list of digits is, and a number's digits; no program is spoken of here.
-/
namespace Go.Proofs.YtjalncdllegfoaaDoor
/-- The number that digits are, the lowest first. -/
def val (b : Int) : List Int → Int
  | [] => 0
  | x :: xs => x + b * val b xs
def Dig (b : Int) (xs : List Int) : Prop := ∀ x ∈ xs, 0 ≤ x ∧ x < b
def dgN (b : Nat) (n : Nat) : List Int :=
  if _h : n = 0 ∨ b ≤ 1 then [] else ((n % b : Nat) : Int) :: dgN b (n / b)
termination_by n
decreasing_by exact Nat.div_lt_self (by omega) (by omega)
/-- A number's digits, the lowest first, no nought at the end. -/
def dg (b n : Int) : List Int := dgN b.toNat n.toNat
theorem dg_zero (b : Int) : dg b 0 = [] := by unfold dg dgN; simp
theorem dg_pos {b n : Int} (hb : 2 ≤ b) (hn : 0 < n) : dg b n = n % b :: dg b (n / b) := by
  obtain ⟨c, rfl⟩ := Int.eq_ofNat_of_zero_le (show 0 ≤ b by omega)
  obtain ⟨m, rfl⟩ := Int.eq_ofNat_of_zero_le (show 0 ≤ n by omega)
  unfold dg
  rw [dgN, dif_neg (by simp; omega)]
  simp
  congr 1
theorem dg_ind {P : Int → Prop} {b : Int} (hb : 2 ≤ b) (h0 : P 0) (hs : ∀ n, 0 < n → P (n / b) → P n) : ∀ n, 0 ≤ n → P n := by
  intro n hn
  obtain ⟨m, rfl⟩ := Int.eq_ofNat_of_zero_le hn
  obtain ⟨c, rfl⟩ := Int.eq_ofNat_of_zero_le (show 0 ≤ b by omega)
  induction m using Nat.strongRecOn with
  | _ m ih =>
    rcases Nat.eq_zero_or_pos m with h | h
    · subst h; exact h0
    · refine hs m (by omega) ?_
      have := ih (m / c) (Nat.div_lt_self h (by omega)) (Int.natCast_nonneg _)
      simpa using this
theorem val_dg {b n : Int} (hb : 2 ≤ b) (hn : 0 ≤ n) : val b (dg b n) = n := by
  refine dg_ind (P := fun n => val b (dg b n) = n) hb ?_ ?_ n hn
  · rw [dg_zero]; rfl
  · intro n h ih; rw [dg_pos hb h]; simp only [val]; rw [ih]; exact Int.emod_add_mul_ediv n b
theorem dig_nil (b : Int) : Dig b [] := fun _ h => by cases h
theorem dig_cons {b x : Int} {xs : List Int} : Dig b (x :: xs) ↔ (0 ≤ x ∧ x < b) ∧ Dig b xs := by simp [Dig]
theorem dig_dg {b n : Int} (hb : 2 ≤ b) (hn : 0 ≤ n) : Dig b (dg b n) := by
  refine dg_ind (P := fun n => Dig b (dg b n)) hb ?_ ?_ n hn
  · rw [dg_zero]; exact dig_nil b
  · intro n h ih; rw [dg_pos hb h, dig_cons]; exact ⟨⟨Int.emod_nonneg _ (by omega), Int.emod_lt_of_pos _ (by omega)⟩, ih⟩
theorem val_nonneg {b : Int} (hb : 0 ≤ b) {xs : List Int} (h : Dig b xs) : 0 ≤ val b xs := by
  induction xs with
  | nil => exact Int.le_refl 0
  | cons x xs ih => rw [dig_cons] at h; simp only [val]; have := Int.mul_nonneg hb (ih h.2); omega
theorem val_lt {b : Int} (hb : 0 ≤ b) {xs : List Int} (h : Dig b xs) : val b xs < b ^ xs.length := by
  induction xs with
  | nil => simp [val]
  | cons x xs ih =>
    rw [dig_cons] at h; simp only [val, List.length_cons]
    have h1 := ih h.2
    have h2 : b * (val b xs + 1) ≤ b * b ^ xs.length := Int.mul_le_mul_of_nonneg_left (by omega) hb
    rw [Int.pow_succ, Int.mul_comm (b ^ xs.length)]
    rw [Int.mul_add] at h2; omega
theorem val_append (b : Int) (xs ys : List Int) : val b (xs ++ ys) = val b xs + b ^ xs.length * val b ys := by
  induction xs with
  | nil => simp [val]
  | cons x xs ih => simp only [List.cons_append, val, ih, List.length_cons, Int.pow_succ]; grind
theorem val_zeros (b : Int) {xs : List Int} (h : ∀ x ∈ xs, x = 0) : val b xs = 0 := by
  induction xs with
  | nil => rfl
  | cons x xs ih => simp only [val]; rw [ih (fun y hy => h y (by simp [hy])), h x (by simp)]; simp
/-- Digits without a nought at the end are their number's. -/
theorem dg_uniq {b : Int} (hb : 2 ≤ b) {xs : List Int} (h : Dig b xs) (hl : ∀ x, xs.getLast? = some x → x ≠ 0) : dg b (val b xs) = xs ∧ (xs ≠ [] → 0 < val b xs) := by
  induction xs with
  | nil => exact ⟨by simp [val, dg_zero], fun h => absurd rfl h⟩
  | cons x xs ih =>
    rw [dig_cons] at h
    have hx := h.1
    have hp : 0 < val b (x :: xs) ∧ dg b (val b xs) = xs := by
      cases xs with
      | nil => have := hl x (by simp); simp [val, dg_zero]; omega
      | cons y ys =>
        have hi := ih h.2 (fun z hz => hl z (by simpa using hz))
        refine ⟨?_, hi.1⟩
        have h1 := hi.2 (by simp)
        have h2 := Int.mul_pos (show 0 < b by omega) h1
        rw [val]; omega
    refine ⟨?_, fun _ => hp.1⟩
    rw [dg_pos hb hp.1]
    have e1 : val b (x :: xs) % b = x := by
      simp only [val]; rw [Int.add_mul_emod_self_left]; exact Int.emod_eq_of_lt hx.1 hx.2
    have e2 : val b (x :: xs) / b = val b xs := by
      simp only [val]; rw [Int.add_mul_ediv_left _ _ (by omega), Int.ediv_eq_zero_of_lt hx.1 hx.2]; simp
    rw [e1, e2, hp.2]
/-- What is left of digits when the noughts at their end are struck. -/
theorem strip {b : Int} (hb : 2 ≤ b) {xs : List Int} (h : Dig b xs) {n : Nat} (hn : n ≤ xs.length) (hz : ∀ j, n ≤ j → j < xs.length → xs.getD j 0 = 0) (hl : 0 < n → xs.getD (n - 1) 0 ≠ 0) :
    xs.take n = dg b (val b xs) ∧ n = (dg b (val b xs)).length := by
  have e : val b xs = val b (xs.take n) := by
    conv => lhs; rw [← List.take_append_drop n xs, val_append]
    rw [val_zeros b (xs := xs.drop n)]; · simp
    intro x hx
    obtain ⟨j, hj, rfl⟩ := List.mem_iff_getElem.1 hx
    simp at hj
    have := hz (n + j) (by omega) (by omega)
    rw [List.getElem_drop]
    rw [List.getD_eq_getElem?_getD, List.getElem?_eq_getElem (by omega), Option.getD_some] at this
    exact this
  have hd : Dig b (xs.take n) := fun x hx => h x (List.mem_of_mem_take hx)
  have hu := dg_uniq hb hd (by
    intro x hx
    rw [List.getLast?_eq_getElem?] at hx
    simp only [List.length_take] at hx
    rw [Nat.min_eq_left hn] at hx
    rcases Nat.eq_zero_or_pos n with h0 | h0
    · subst h0; simp at hx
    · have := hl h0
      rw [List.getElem?_take_of_lt (by omega)] at hx
      rw [List.getD_eq_getElem?_getD, hx] at this
      simpa using this)
  rw [e, hu.1]
  exact ⟨rfl, by simp; omega⟩
end Go.Proofs.YtjalncdllegfoaaDoor
/-
  Sums of digits' powers, for loops that go digit by digit; no program is spoken of here.
-/
namespace Go.Proofs.YtjalncdllegfoaaDoor
/-- A digit, 0 above all. -/
def dig (xs : List Int) (i : Nat) : Int := xs.getD i 0
theorem dig_lt {xs : List Int} {i : Nat} {x : Int} (h : xs[i]? = some x) : dig xs i = x := by simp [dig, h]
theorem dig_ge {xs : List Int} {i : Nat} (h : xs.length ≤ i) : dig xs i = 0 := by simp [dig, List.getElem?_eq_none h]
theorem dig_bd {b : Int} (hb : 0 < b) {xs : List Int} (h : Dig b xs) (i : Nat) : 0 ≤ dig xs i ∧ dig xs i < b := by
  rcases Nat.lt_or_ge i xs.length with hi | hi
  · rw [dig_lt (List.getElem?_eq_getElem hi)]; exact h _ (List.getElem_mem hi)
  · rw [dig_ge hi]; exact ⟨Int.le_refl 0, hb⟩
theorem dig_set {xs : List Int} {i : Nat} {x : Int} (hi : i < xs.length) (j : Nat) : dig (xs.set i x) j = if j = i then x else dig xs j := by
  unfold dig
  rw [List.getD_eq_getElem?_getD, List.getD_eq_getElem?_getD, List.getElem?_set]
  by_cases h : j = i
  · subst h; simp [hi]
  · rw [if_neg (by omega), if_neg h]
theorem dig_set_same {xs : List Int} {i : Nat} {x : Int} (hi : i < xs.length) : dig (xs.set i x) i = x := by rw [dig_set hi, if_pos rfl]
theorem dig_set_ne {xs : List Int} {i j : Nat} {x : Int} (h : j ≠ i) : dig (xs.set i x) j = dig xs j := by
  unfold dig
  rw [List.getD_eq_getElem?_getD, List.getD_eq_getElem?_getD, List.getElem?_set, if_neg (by omega)]
theorem Dig.set {b x : Int} {xs : List Int} (h : Dig b xs) (h0 : 0 ≤ x) (h1 : x < b) (i : Nat) : Dig b (xs.set i x) := by
  intro y hy
  rcases List.mem_or_eq_of_mem_set hy with hy | rfl
  · exact h y hy
  · exact ⟨h0, h1⟩
theorem dig_take {xs : List Int} {n j : Nat} (h : j < n) : dig (xs.take n) j = dig xs j := by
  unfold dig; rw [List.getD_eq_getElem?_getD, List.getD_eq_getElem?_getD, List.getElem?_take_of_lt h]
theorem dig_drop {xs : List Int} {n j : Nat} : dig (xs.drop n) j = dig xs (n + j) := by
  unfold dig; rw [List.getD_eq_getElem?_getD, List.getD_eq_getElem?_getD, List.getElem?_drop]
theorem dig_replicate (n j : Nat) : dig (List.replicate n 0) j = 0 := by
  unfold dig; rw [List.getD_eq_getElem?_getD, List.getElem?_replicate]; split <;> rfl
theorem getElem?_dig {xs : List Int} {i : Nat} (h : i < xs.length) : xs[i]? = some (dig xs i) := by
  rw [List.getElem?_eq_getElem h, dig_lt (List.getElem?_eq_getElem h)]
theorem ext_dig {xs ys : List Int} (h : xs.length = ys.length) (k : ∀ j, j < xs.length → dig xs j = dig ys j) : xs = ys := by
  apply List.ext_getElem? 
  intro j
  rcases Nat.lt_or_ge j xs.length with hj | hj
  · rw [getElem?_dig hj, getElem?_dig (by omega), k j hj]
  · rw [List.getElem?_eq_none hj, List.getElem?_eq_none (by omega)]

/-- The sum of f j times b to the j, j below k. -/
def vf (b : Int) (f : Nat → Int) : Nat → Int
  | 0 => 0
  | k + 1 => vf b f k + f k * b ^ k
theorem vf_congr (b : Int) {f g : Nat → Int} {k : Nat} (h : ∀ j, j < k → f j = g j) : vf b f k = vf b g k := by
  induction k with
  | zero => rfl
  | succ k ih => simp only [vf]; rw [ih (fun j hj => h j (by omega)), h k (by omega)]
theorem vf_zero (b : Int) {f : Nat → Int} {k m : Nat} (hm : k ≤ m) (h : ∀ j, k ≤ j → f j = 0) : vf b f m = vf b f k := by
  induction m with
  | zero => have : k = 0 := by omega
            subst this; rfl
  | succ m ih =>
    rcases Nat.lt_or_ge m k with h1 | h1
    · have : k = m + 1 := by omega
      subst this; rfl
    · simp only [vf]; rw [ih h1, h m h1]; simp
theorem val_take (b : Int) (xs : List Int) {k : Nat} (hk : k ≤ xs.length) : val b (xs.take k) = vf b (dig xs) k := by
  induction k with
  | zero => rfl
  | succ k ih =>
    rw [List.take_succ_eq_append_getElem (by omega), val_append, ih (by omega)]
    have : (xs.take k).length = k := by rw [List.length_take]; omega
    rw [this]
    simp only [vf, val]
    rw [dig_lt (List.getElem?_eq_getElem (show k < xs.length by omega))]
    simp [Int.mul_comm]
theorem val_vf (b : Int) (xs : List Int) {m : Nat} (hm : xs.length ≤ m) : val b xs = vf b (dig xs) m := by
  have h := val_take b xs (Nat.le_refl _)
  rw [List.take_length] at h
  rw [h]
  exact (vf_zero b hm (fun j hj => dig_ge hj)).symm
theorem dg_len_le {b n : Int} (hb : 2 ≤ b) (hn : 0 ≤ n) {k : Nat} (h : n < b ^ k) : (dg b n).length ≤ k := by
  induction k generalizing n with
  | zero => have : n = 0 := by simp at h; omega
            subst this; simp [dg_zero]
  | succ k ih =>
    rcases Int.lt_or_eq_of_le hn with h0 | h0
    · rw [dg_pos hb h0, List.length_cons]
      have := ih (n := n / b) (Int.ediv_nonneg hn (by omega)) (Int.ediv_lt_of_lt_mul (by omega) (by rwa [Int.pow_succ] at h))
      omega
    · subst h0; simp [dg_zero]
theorem pow_mono {b : Int} (hb : 1 ≤ b) {k m : Nat} (h : k ≤ m) : b ^ k ≤ b ^ m := by
  obtain ⟨c, rfl⟩ := Int.eq_ofNat_of_zero_le (show 0 ≤ b by omega)
  have := Nat.pow_le_pow_right (show 0 < c by omega) h
  have h2 : ((c ^ k : Nat) : Int) ≤ ((c ^ m : Nat) : Int) := by omega
  simpa using h2
theorem dg_lt_pow {b n : Int} (hb : 2 ≤ b) (hn : 0 ≤ n) {k : Nat} (h : (dg b n).length ≤ k) : n < b ^ k := by
  have h1 := val_lt (b := b) (by omega) (dig_dg hb hn)
  rw [val_dg hb hn] at h1
  exact Int.lt_of_lt_of_le h1 (pow_mono (by omega) h)
theorem pow_pos' {b : Int} (hb : 2 ≤ b) (k : Nat) : 0 < b ^ k := Int.pow_pos (by omega)
theorem dg_len_mono {b n m : Int} (hb : 2 ≤ b) (hn : 0 ≤ n) (h : n ≤ m) : (dg b n).length ≤ (dg b m).length :=
  dg_len_le hb hn (Int.lt_of_le_of_lt h (dg_lt_pow hb (by omega) (Nat.le_refl _)))
theorem dg_nil_iff {b n : Int} (hb : 2 ≤ b) (hn : 0 ≤ n) : (dg b n).length = 0 ↔ n = 0 := by
  constructor
  · intro h
    have := dg_lt_pow hb hn (k := 0) (by omega)
    simp at this; omega
  · rintro rfl; simp [dg_zero]
/-- The highest digit isn't 0. -/
theorem dg_top {b n : Int} (hb : 2 ≤ b) (hn : 0 < n) : 1 ≤ dig (dg b n) ((dg b n).length - 1) := by
  have hd := dig_dg hb (show 0 ≤ n by omega)
  have hl : 0 < (dg b n).length := by
    rcases Nat.eq_zero_or_pos (dg b n).length with h | h
    · have := (dg_nil_iff hb (by omega)).1 h; omega
    · exact h
  have h0 := dig_bd (b := b) (by omega) hd ((dg b n).length - 1)
  rcases Int.lt_or_eq_of_le h0.1 with h | h
  · omega
  · exfalso
    have hv : val b (dg b n) = vf b (dig (dg b n)) ((dg b n).length - 1) := by
      rw [val_vf b (dg b n) (Nat.le_refl _)]
      obtain ⟨m, hm⟩ : ∃ m, (dg b n).length = m + 1 := ⟨(dg b n).length - 1, by omega⟩
      rw [hm] at h ⊢
      simp only [Nat.add_sub_cancel] at h ⊢
      simp only [vf]; rw [← h]; simp
    have h1 : vf b (dig (dg b n)) ((dg b n).length - 1) < b ^ ((dg b n).length - 1) := by
      rw [← val_take b (dg b n) (by omega)]
      have := val_lt (b := b) (by omega) (xs := (dg b n).take ((dg b n).length - 1)) (fun x hx => hd x (List.mem_of_mem_take hx))
      rwa [List.length_take, Nat.min_eq_left (by omega)] at this
    rw [val_dg hb (by omega)] at hv
    rw [← hv] at h1
    have := dg_len_le hb (by omega) h1
    omega
end Go.Proofs.YtjalncdllegfoaaDoor
/-
  A slice of integers that reads as a list, nil let in; a block that is known whole; what becomes of both behind draws, new blocks, stores elsewhere.
-/
namespace Go.Proofs.YtjalncdllegfoaaDoor
open Go.RowKit

/-- The slice '.slice A n c' reads as the numbers xs. -/
structure Rd (k : IntKind) (w : World) (A : Option Addr) (n : Nat) (xs : List Int) : Prop where
  len : xs.length = n
  cells : 0 < n → ∃ b off, A = some ⟨b, off, none⟩ ∧ b < w.heap.size ∧ ∀ j x, xs[j]? = some x → w.cell? ⟨b, off + j, none⟩ = some (.int k x)

section
variable {k : IntKind} {w w' : World} {A : Option Addr} {n : Nat} {xs : List Int}
theorem Rd.nil (k : IntKind) (w : World) (A : Option Addr) : Rd k w A 0 [] := ⟨rfl, fun h => absurd h (by omega)⟩
theorem Rd.at_ (h : Rd k w A n xs) {j : Nat} (hj : j < n) : ∃ b off x, A = some ⟨b, off, none⟩ ∧ b < w.heap.size ∧ xs[j]? = some x ∧ w.cell? ⟨b, off + j, none⟩ = some (.int k x) := by
  obtain ⟨b, off, e, hb, hc⟩ := h.cells (by omega)
  have hl : j < xs.length := by have := h.len; omega
  exact ⟨b, off, xs[j], e, hb, List.getElem?_eq_getElem hl, hc j _ (List.getElem?_eq_getElem hl)⟩
theorem Rd.keep (h : Rd k w A n xs) (hs : w.heap.size ≤ w'.heap.size) (hk : ∀ p : Addr, p.block < w.heap.size → w'.cell? p = w.cell? p) : Rd k w' A n xs :=
  ⟨h.len, fun hn => by
    obtain ⟨b, off, e, hb, hc⟩ := h.cells hn
    exact ⟨b, off, e, by omega, fun j x hx => (hk _ hb).trans (hc j x hx)⟩⟩
theorem Rd.below (h : Rd k w A n xs) (hb : Below w.heap.size w w') : Rd k w' A n xs := h.keep hb.size fun _ hp => hb.cell hp
theorem Rd.drewN (h : Rd k w A n xs) (m : Nat) : Rd k (w.drewN m) A n xs := ⟨h.len, h.cells⟩
theorem Rd.drew (h : Rd k w A n xs) : Rd k w.drew A n xs := ⟨h.len, h.cells⟩
theorem Rd.alloc (h : Rd k w A n xs) (o : Obj) : Rd k (w.alloc o) A n xs := h.keep (by simp) fun p hp => World.cell?_alloc_lt w o p hp
/-- Only block g may have turned, and it isn't one that is read here. -/
theorem Rd.grown (h : Rd k w A n xs) {g : Nat} (hg : w.grownBy w' (some g)) (hne : ∀ a, A = some a → a.block ≠ g) : Rd k w' A n xs :=
  ⟨h.len, fun hn => by
    obtain ⟨b, off, e, hb, hc⟩ := h.cells hn
    have hb' := hg.size
    exact ⟨b, off, e, by omega, fun j x hx => (World.cell?_of_block (hg.block b hb (fun he => hne _ e (by injection he)))).trans (hc j x hx)⟩⟩
theorem Rd.take (h : Rd k w A n xs) {m : Nat} (hm : m ≤ n) : Rd k w A m (xs.take m) :=
  ⟨by rw [List.length_take, h.len]; omega, fun hn => by
    obtain ⟨b, off, e, hb, hc⟩ := h.cells (by omega)
    refine ⟨b, off, e, hb, fun j x hx => hc j x ?_⟩
    rcases Nat.lt_or_ge j m with hj | hj
    · rwa [List.getElem?_take_of_lt hj] at hx
    · rw [List.getElem?_eq_none (by rw [List.length_take]; omega)] at hx; cases hx⟩
end

/-- Block g is just the numbers xs, none frozen. -/
def Row (w : World) (g : Nat) (t : TypeId) (k : IntKind) (xs : List Int) : Prop := w.heap[g]? = some (.cells (xs.map (Value.int k)).toArray t (0, 0))

section
variable {w w' : World} {g : Nat} {t : TypeId} {k : IntKind} {xs : List Int}
theorem Row.lt (h : Row w g t k xs) : g < w.heap.size := by
  rcases Nat.lt_or_ge g w.heap.size with hlt | hge
  · exact hlt
  · unfold Row at h; rw [Array.getElem?_eq_none hge] at h; cases h
theorem Row.cell (h : Row w g t k xs) {i : Nat} {x : Int} (hx : xs[i]? = some x) : w.cell? ⟨g, i, none⟩ = some (.int k x) := by
  rw [cell_of_row w g i _ t (0, 0) h]; simp [hx]
theorem Row.frozen (h : Row w g t k xs) (i : Nat) : w.frozen? ⟨g, i, none⟩ = false := frozen_of_row w g i _ t h
theorem Row.new (w : World) (t : TypeId) (k : IntKind) (xs : List Int) : Row (w.alloc (.cells (xs.map (Value.int k)).toArray t)) w.heap.size t k xs := heap_alloc_new w _
theorem Row.drew (h : Row w g t k xs) : Row w.drew g t k xs := h
theorem Row.drewN (h : Row w g t k xs) (n : Nat) : Row (w.drewN n) g t k xs := h
theorem Row.alloc (h : Row w g t k xs) (o : Obj) : Row (w.alloc o) g t k xs := (Below.heap_alloc w o g h.lt).trans h
theorem Row.set (h : Row w g t k xs) (i : Nat) (x : Int) : Row (w.setCell ⟨g, i, none⟩ (.int k x)) g t k (xs.set i x) := by
  unfold Row at h ⊢
  simp [World.setCell, Array.getElem?_modify, h, List.map_set]
theorem Row.below {B : Nat} (h : Row w g t k xs) (hb : Below B w w') (hg : g < B) : Row w' g t k xs := (hb.block g hg).trans h
theorem Row.grown {row : Option Nat} (h : Row w g t k xs) (hb : w.grownBy w' row) (hg : some g ≠ row) : Row w' g t k xs := (hb.block g h.lt hg).trans h
/-- A part of the block, as a slice reads. -/
theorem Row.rd (h : Row w g t k xs) {off n : Nat} {ys : List Int} (hn : ys.length = n) (hy : ∀ j x, ys[j]? = some x → xs[off + j]? = some x) : Rd k w (some ⟨g, off, none⟩) n ys :=
  ⟨hn, fun _ => ⟨g, off, rfl, h.lt, fun j x hx => h.cell (hy j x hx)⟩⟩
theorem Row.rd0 (h : Row w g t k xs) {n : Nat} (hn : n ≤ xs.length) : Rd k w (some ⟨g, 0, none⟩) n (xs.take n) :=
  h.rd (by simp; omega) fun j x hx => by
    rcases Nat.lt_or_ge j n with hj | hj
    · rw [List.getElem?_take_of_lt hj] at hx; rwa [Nat.zero_add]
    · rw [List.getElem?_eq_none (by rw [List.length_take]; omega)] at hx; cases hx
end

theorem grown_of_below {a w : World} (h : Below a.heap.size a w) (row : Option Nat) : a.grownBy w row := ⟨h.os, h.tape, h.output, h.size, fun i hi _ => h.block i hi⟩
theorem grown_trans {a b c : World} {row : Option Nat} (h : a.grownBy b row) (k : b.grownBy c row) : a.grownBy c row :=
  ⟨k.os.trans h.os, k.tape.trans h.tape, k.output.trans h.output, Nat.le_trans h.size k.size, fun i hi hn => (k.block i (Nat.lt_of_lt_of_le hi h.size) hn).trans (h.block i hi hn)⟩
theorem grown_drewN {a w : World} {row : Option Nat} (h : a.grownBy w row) (n : Nat) : a.grownBy (w.drewN n) row := ⟨h.os, h.tape, h.output, h.size, h.block⟩
theorem grown_drew {a w : World} {row : Option Nat} (h : a.grownBy w row) : a.grownBy w.drew row := ⟨h.os, h.tape, h.output, h.size, h.block⟩
theorem grown_setCell {a w : World} {g : Nat} (h : a.grownBy w (some g)) (i : Nat) (u : Value) : a.grownBy (w.setCell ⟨g, i, none⟩ u) (some g) :=
  ⟨h.os, h.tape, h.output, by simpa [World.setCell] using h.size, fun j hj hne => (Below.heap_setCell w ⟨g, i, none⟩ u j (by rintro rfl; exact hne rfl)).trans (h.block j hj hne)⟩
theorem below_drewN {B : Nat} {a w : World} (h : Below B a w) (n : Nat) : Below B a (w.drewN n) := ⟨h.os, h.tape, h.output, h.size, h.block⟩
theorem below_grown {B : Nat} {a w w' : World} {g : Nat} (h : Below B a w) (hg : w.grownBy w' (some g)) (hB : B ≤ w.heap.size) (hr : B ≤ g) : Below B a w' :=
  h.grown hg hB (fun k e => by injection e with e; omega)
end Go.Proofs.YtjalncdllegfoaaDoor
/-
  What the small calls of package nat answer: limbs, tooLong, limbAt.
-/
namespace Go.Proofs.YtjalncdllegfoaaDoor
open Go.RowKit

/-- 2 to the 64. -/
def W : Int := 18446744073709551616
theorem W_two : 2 ≤ W := by decide
/-- How many digits count. -/
def nl (xs : List Int) : Nat := (dg W (val W xs)).length

def LimR (xs : List Int) (n : Nat) (t : Value) : Prop := ∃ k : Nat, k ≤ n ∧ (∀ j, k ≤ j → j < n → xs.getD j 0 = 0) ∧ t = .int .i64 k

theorem limbs_end {A : Option Addr} {n k : Nat} {xs : List Int} {w : World} (h : Rd .u64 w A n xs) (hd : Dig W xs) (hk : k ≤ n) (hz : ∀ j, k ≤ j → j < n → xs.getD j 0 = 0) (hl : 0 < k → xs.getD (k - 1) 0 ≠ 0) : k = nl xs := by
  have hn := h.len
  subst hn
  exact (strip W_two hd hk hz hl).2

set_option maxHeartbeats 400000 in
theorem limbs_any (A : Option Addr) (n c : Nat) (xs : List Int) (w : World) (h : Rd .u64 w A n xs) (hd : Dig W xs) (hnc : n ≤ c) (hc : n ≤ 17592186044416) :
    Calls Tryd.prog 32 #[.slice A n c] w fun e w' => e = .returned (.slice A (nl xs) c) ∧ w = w' := by
  go_enter Tryd.func32, Tryd.ntmps32
  go_wp2
  go_loop [3] (fun t => LimR xs n t) (fun t => (intOf t).toNat)
  case atStart => exact ⟨n, Nat.le_refl _, fun j h1 h2 => by omega, rfl⟩
  case round =>
    obtain ⟨k, hk, hz, rfl⟩ := hrel
    have HZ := Lib.hid hz
    clear hz
    rcases Nat.eq_zero_or_pos k with h0 | h0
    · subst h0
      go_wp2
      go_ret
      exact ⟨by rw [← limbs_end h hd hk HZ.out (fun h => absurd h (by omega))]; rfl, rfl⟩
    · obtain ⟨m, rfl⟩ : ∃ m, k = m + 1 := ⟨k - 1, by omega⟩
      obtain ⟨b, off, x, rfl, hb, hx, hcell⟩ := h.at_ (j := m) (by omega)
      have HX := Lib.hid hx
      clear hx
      by_cases hx0 : x = 0
      · subst hx0
        go_wp2
        go_round
        case rel =>
          refine ⟨m, by omega, fun j h1 h2 => ?_, by go_num⟩
          rcases Nat.lt_or_ge m j with h3 | h3
          · exact HZ.out j (by omega) h2
          · obtain rfl : j = m := by omega
            rw [List.getD_eq_getElem?_getD, HX.out]; rfl
        case measure => simp [intOf]
      · have hx1 : ((x : Int) == 0) = false := by simpa using hx0
        go_wp2
        go_ret
        exact ⟨by rw [← limbs_end h hd hk HZ.out (fun _ => by rw [Nat.add_sub_cancel, List.getD_eq_getElem?_getD, HX.out]; exact hx0)]; rfl, rfl⟩

theorem tooLong_no (A A' : Option Addr) (n c n' c' : Nat) (w : World) (h : n ≤ 64) (h' : n' ≤ 64) :
    Calls Tryd.prog 48 #[.slice A n c, .slice A' n' c'] w fun e w' => e = .returned (.bool false) ∧ w = w' := by
  go_enter Tryd.func48, Tryd.ntmps48
  go_wp2
  go_ret
  exact ⟨by simp; omega, rfl⟩

theorem tooLong_yes (A A' : Option Addr) (n c n' c' : Nat) (w : World) (h : 64 < n ∨ 64 < n') :
    Calls Tryd.prog 48 #[.slice A n c, .slice A' n' c'] w fun e w' => e = .returned (.bool true) ∧ w = w' := by
  by_cases h1 : 64 < n
  · clear h
    go_enter Tryd.func48, Tryd.ntmps48
    go_wp2
    go_ret
    exact ⟨by simp, rfl⟩
  · have h2 : 64 < n' := by omega
    clear h
    go_enter Tryd.func48, Tryd.ntmps48
    go_wp2
    go_ret
    exact ⟨by simp; omega, rfl⟩

theorem dig_W {xs : List Int} (h : Dig W xs) (i : Nat) : 0 ≤ dig xs i ∧ dig xs i < 18446744073709551616 := dig_bd (by decide) h i

theorem limbAt_any (A : Option Addr) (n c : Nat) (xs : List Int) (i : Nat) (w : World) (h : Rd .u64 w A n xs) :
    Calls Tryd.prog 87 #[.slice A n c, .int .i64 i] w fun e w' => e = .returned (.int .u64 (dig xs i)) ∧ w = w' := by
  rcases Nat.lt_or_ge i n with hlt | hge
  · obtain ⟨b, off, x, rfl, hb, hx, hcell⟩ := h.at_ hlt
    rw [dig_lt hx]
    clear hx h
    go_enter Tryd.func87, Tryd.ntmps87
    go_wp2
    go_ret
    exact ⟨rfl, rfl⟩
  · rw [dig_ge (by rw [h.len]; exact hge)]
    clear h
    go_enter Tryd.func87, Tryd.ntmps87
    go_wp2
    go_ret
    exact ⟨rfl, rfl⟩
end Go.Proofs.YtjalncdllegfoaaDoor
/-
  The library's calls of math/bits at this program, by the shelf's contracts: Add64, Sub64, Mul64, Len64, LeadingZeros64, over the integers.
-/
namespace Go.Proofs.YtjalncdllegfoaaDoor
open Go.Shelf Go.RowKit
def renP : Ren := ⟨fun | 25 => 93 | n => n, fun | 22 => 45 | n => n, fun | n => n⟩
theorem lays25 : Lays7.n25 Tryd.prog renP := {
  mixed := by kernel_rfl
  f25 := Tryd.func93.trans (congrArg some (by kernel_rfl))
  t22 := Tryd.underlying45
  a22 := Tryd.isAgg45
  z22 := Tryd.sizeOf45
  v22 := Tryd.zeroValue45
  i22 := by kernel_rfl }
def renS : Ren := ⟨fun | 26 => 86 | n => n, fun | 22 => 45 | n => n, fun | n => n⟩
theorem lays26 : Lays7.n26 Tryd.prog renS := {
  mixed := by kernel_rfl
  f26 := Tryd.func86.trans (congrArg some (by kernel_rfl))
  t22 := Tryd.underlying45
  a22 := Tryd.isAgg45
  z22 := Tryd.sizeOf45
  v22 := Tryd.zeroValue45
  i22 := by kernel_rfl }
def renB : Ren := ⟨fun | 134 => 74 | 129 => 50 | n => n, fun | 53 => 45 | 3 => 3 | 4 => 4 | 46 => 114 | 5 => 5 | 9 => 9 | n => n, fun | n => n⟩
theorem lays134 : Lays.n134 Tryd.prog renB := {
  mixed := by kernel_rfl
  f129 := Tryd.func50.trans (congrArg some (by kernel_rfl))
  f134 := Tryd.func74.trans (congrArg some (by kernel_rfl))
  t3 := Tryd.underlying3, a3 := Tryd.isAgg3, z3 := Tryd.sizeOf3, v3 := Tryd.zeroValue3
  t4 := Tryd.underlying4, a4 := Tryd.isAgg4, z4 := Tryd.sizeOf4, v4 := Tryd.zeroValue4
  t5 := Tryd.underlying5, a5 := Tryd.isAgg5, z5 := Tryd.sizeOf5, v5 := Tryd.zeroValue5
  t9 := Tryd.underlying9, a9 := Tryd.isAgg9, z9 := Tryd.sizeOf9, v9 := Tryd.zeroValue9
  t46 := Tryd.underlying114, a46 := Tryd.isAgg114, z46 := Tryd.sizeOf114, v46 := Tryd.zeroValue114
  t53 := Tryd.underlying45, a53 := Tryd.isAgg45, z53 := Tryd.sizeOf45, v53 := Tryd.zeroValue45 }
def renL : Ren := ⟨fun | 129 => 50 | n => n, fun | 53 => 45 | 3 => 3 | 4 => 4 | 46 => 114 | 5 => 5 | 9 => 9 | n => n, fun | n => n⟩
theorem lays129 : Lays.n129 Tryd.prog renL := {
  mixed := by kernel_rfl
  f129 := Tryd.func50.trans (congrArg some (by kernel_rfl))
  t3 := Tryd.underlying3, a3 := Tryd.isAgg3, z3 := Tryd.sizeOf3, v3 := Tryd.zeroValue3
  t4 := Tryd.underlying4, a4 := Tryd.isAgg4, z4 := Tryd.sizeOf4, v4 := Tryd.zeroValue4
  t5 := Tryd.underlying5, a5 := Tryd.isAgg5, z5 := Tryd.sizeOf5, v5 := Tryd.zeroValue5
  t9 := Tryd.underlying9, a9 := Tryd.isAgg9, z9 := Tryd.sizeOf9, v9 := Tryd.zeroValue9
  t46 := Tryd.underlying114, a46 := Tryd.isAgg114, z46 := Tryd.sizeOf114, v46 := Tryd.zeroValue114
  t53 := Tryd.underlying45, a53 := Tryd.isAgg45, z53 := Tryd.sizeOf45, v53 := Tryd.zeroValue45 }
def renM : Ren := ⟨fun | 264 => 94 | n => n, fun | 53 => 45 | 46 => 114 | n => n, fun | n => n⟩
theorem lays264 : Lays.n264 Tryd.prog renM := {
  mixed := by kernel_rfl
  f264 := Tryd.func94.trans (congrArg some (by kernel_rfl))
  t46 := Tryd.underlying114, a46 := Tryd.isAgg114, z46 := Tryd.sizeOf114, v46 := Tryd.zeroValue114
  t53 := Tryd.underlying45, a53 := Tryd.isAgg45, z53 := Tryd.sizeOf45, v53 := Tryd.zeroValue45 }

/-- bits.LeadingZeros64. -/
theorem lz64 (x : Int) (w : World) (h0 : 0 ≤ x) (h1 : x < 18446744073709551616) :
    Calls Tryd.prog 74 #[.int .u64 x] w fun e w' => e = .returned (.int .i64 (64 - (Lib.bitLen x.toNat : Int))) ∧ w = w' :=
  (Any.bits_LeadingZeros64 lays134 x w h0 (by omega)).mono fun _ _ h => ⟨h.1, h.2.symm⟩
/-- bits.Len64. -/
theorem len64 (x : Int) (w : World) (h0 : 0 ≤ x) (h1 : x < 18446744073709551616) :
    Calls Tryd.prog 50 #[.int .u64 x] w fun e w' => e = .returned (.int .i64 (Lib.bitLen x.toNat)) ∧ w = w' :=
  (Any.bits_Len64 lays129 x w h0 (by omega)).mono fun _ _ h => ⟨h.1, h.2.symm⟩
/-- The two halves of a product. -/
def mhi (x y : Int) : Int := x * y / 18446744073709551616
def mlo (x y : Int) : Int := x * y % 18446744073709551616
/-- bits.Mul64. -/
theorem mul64 (x y : Int) (w : World) (h0 : 0 ≤ x) (h1 : x < 18446744073709551616) (k0 : 0 ≤ y) (k1 : y < 18446744073709551616) :
    Calls Tryd.prog 94 #[.int .u64 x, .int .u64 y] w fun e w' => e = .returned (.tuple #[.int .u64 (mhi x y), .int .u64 (mlo x y)]) ∧ w = w' := by
  obtain ⟨x, rfl⟩ := Int.eq_ofNat_of_zero_le h0
  obtain ⟨y, rfl⟩ := Int.eq_ofNat_of_zero_le k0
  refine (Any.bits_Mul64 lays264 x y (by omega) (by omega) w).mono fun _ _ h => ⟨h.1.trans ?_, h.2.symm⟩
  unfold mhi mlo
  rw [Int.natCast_ediv, Int.natCast_emod, Int.natCast_mul]
  rfl
/-- The sum and its carry, the difference and its borrow. -/
def alo (x y c : Int) : Int := (x + y + c) % 18446744073709551616
def ahi (x y c : Int) : Int := (x + y + c) / 18446744073709551616
def slo (x y b : Int) : Int := (x - y - b) % 18446744073709551616
def shi (x y b : Int) : Int := if x < y + b then 1 else 0
theorem add64 (x y c : Int) (hx : 0 ≤ x) (hy : 0 ≤ y) (hc0 : 0 ≤ c) (hc : c ≤ 1) (w : World) : (callFunc 93 #[.int .u64 x, .int .u64 y, .int .u64 c]).run Tryd.prog w =
    .ok (.value (.tuple #[.int .u64 (alo x y c), .int .u64 (ahi x y c)])) w := by
  obtain ⟨x, rfl⟩ := Int.eq_ofNat_of_zero_le hx
  obtain ⟨y, rfl⟩ := Int.eq_ofNat_of_zero_le hy
  obtain ⟨c, rfl⟩ := Int.eq_ofNat_of_zero_le hc0
  unfold alo ahi
  refine (Any7.bits_Add64 lays25 x y c (by omega) w).trans ?_
  congr 5 <;> omega
theorem sub64 (x y b : Int) (hx : 0 ≤ x) (hy : 0 ≤ y) (hy' : y < 18446744073709551616) (hb0 : 0 ≤ b) (hb : b ≤ 1) (w : World) : (callFunc 86 #[.int .u64 x, .int .u64 y, .int .u64 b]).run Tryd.prog w =
    .ok (.value (.tuple #[.int .u64 (slo x y b), .int .u64 (shi x y b)])) w := by
  obtain ⟨x, rfl⟩ := Int.eq_ofNat_of_zero_le hx
  obtain ⟨y, rfl⟩ := Int.eq_ofNat_of_zero_le hy
  obtain ⟨b, rfl⟩ := Int.eq_ofNat_of_zero_le hb0
  unfold slo shi
  have e1 : (((x + 18446744073709551616 - y - b) % 18446744073709551616 : Nat) : Int) = ((x : Int) - y - b) % 18446744073709551616 := by omega
  have e2 : ((if x < y + b then 1 else 0 : Nat) : Int) = if (x : Int) < y + b then 1 else 0 := by split <;> split <;> omega
  rw [← e1, ← e2]
  exact Any7.bits_Sub64 lays26 x y b (by omega) w
theorem add64_bd {x y c : Int} (hx : 0 ≤ x) (hx' : x < 18446744073709551616) (hy : 0 ≤ y) (hy' : y < 18446744073709551616) (hc0 : 0 ≤ c) (hc : c ≤ 1) :
    0 ≤ alo x y c ∧ alo x y c < 18446744073709551616 ∧ 0 ≤ ahi x y c ∧ ahi x y c ≤ 1 ∧ alo x y c + 18446744073709551616 * ahi x y c = x + y + c := by unfold alo ahi; omega
theorem sub64_bd {x y c : Int} (hx : 0 ≤ x) (hx' : x < 18446744073709551616) (hy : 0 ≤ y) (hy' : y < 18446744073709551616) (hc0 : 0 ≤ c) (hc : c ≤ 1) :
    0 ≤ slo x y c ∧ slo x y c < 18446744073709551616 ∧ 0 ≤ shi x y c ∧ shi x y c ≤ 1 ∧ slo x y c - 18446744073709551616 * shi x y c = x - y - c := by unfold slo shi; split <;> omega
theorem mul64_bd {x y : Int} (hx : 0 ≤ x) (hx' : x < 18446744073709551616) (hy : 0 ≤ y) (hy' : y < 18446744073709551616) :
    0 ≤ mlo x y ∧ mlo x y < 18446744073709551616 ∧ 0 ≤ mhi x y ∧ mhi x y ≤ 18446744073709551614 ∧ mlo x y + 18446744073709551616 * mhi x y = x * y := by
  have h1 : 0 ≤ x * y := Int.mul_nonneg hx hy
  have h2 : x * y ≤ 18446744073709551615 * 18446744073709551615 := Int.mul_le_mul (by omega) (by omega) hy (by decide)
  unfold mlo mhi; omega
end Go.Proofs.YtjalncdllegfoaaDoor
/-
  A slice that is a number; what limbs makes of it; the post of calls that answer a number and no error.
-/
namespace Go.Proofs.YtjalncdllegfoaaDoor
open Go.RowKit
/-- How many digits of 64 bits a number has. -/
def dl (N : Int) : Nat := (dg W N).length
/-- The slice is a number, however it is told. -/
structure Nm (w : World) (A : Option Addr) (n c : Nat) (N : Int) : Prop where
  ex : ∃ xs, Rd .u64 w A n xs ∧ Dig W xs ∧ val W xs = N
  nc : n ≤ c
  c60 : n ≤ 17592186044416
  pos : 0 ≤ N
/-- The slice is a number, told without noughts at the end. -/
structure Cn (w : World) (A : Option Addr) (n c : Nat) (N : Int) : Prop where
  rd : Rd .u64 w A n (dg W N)
  nc : n ≤ c
  c60 : n ≤ 17592186044416
  pos : 0 ≤ N
section
variable {w w' : World} {A : Option Addr} {n c : Nat} {N : Int}
theorem Cn.nm (h : Cn w A n c N) : Nm w A n c N := ⟨⟨_, h.rd, dig_dg W_two h.pos, val_dg W_two h.pos⟩, h.nc, h.c60, h.pos⟩
theorem Cn.len_ (h : Cn w A n c N) : n = dl N := h.rd.len.symm
theorem Nm.below (h : Nm w A n c N) (hb : Below w.heap.size w w') : Nm w' A n c N := by
  obtain ⟨⟨xs, h1, h2, h3⟩, h4, h5, h6⟩ := h
  exact ⟨⟨xs, h1.below hb, h2, h3⟩, h4, h5, h6⟩
theorem Cn.below (h : Cn w A n c N) (hb : Below w.heap.size w w') : Cn w' A n c N := ⟨h.rd.below hb, h.nc, h.c60, h.pos⟩
theorem Nm.drewN (h : Nm w A n c N) (m : Nat) : Nm (w.drewN m) A n c N := h.below (below_drewN (Below.refl _ _) m)
theorem Cn.drewN (h : Cn w A n c N) (m : Nat) : Cn (w.drewN m) A n c N := h.below (below_drewN (Below.refl _ _) m)
theorem Nm.alloc (h : Nm w A n c N) (o : Obj) : Nm (w.alloc o) A n c N := h.below ((Below.refl _ _).alloc (Nat.le_refl _) o)
theorem Cn.alloc (h : Cn w A n c N) (o : Obj) : Cn (w.alloc o) A n c N := h.below ((Below.refl _ _).alloc (Nat.le_refl _) o)
/-- What counts of it. -/
theorem Nm.lim (h : Nm w A n c N) : Cn w A (dl N) c N := by
  obtain ⟨⟨xs, h1, h2, h3⟩, h4, h5, h6⟩ := h
  subst h3
  -- the digits that count are a beginning of those that are told
  have hl := h1.len
  have key : ∃ m, m ≤ xs.length ∧ (∀ j, m ≤ j → j < xs.length → xs.getD j 0 = 0) ∧ (0 < m → xs.getD (m - 1) 0 ≠ 0) := by
    clear h1 h2 hl h4 h5 h6
    generalize hk : xs.length = k
    have h0 : ∀ j, k ≤ j → j < k → xs.getD j 0 = 0 := fun j a b => by omega
    have hle : k ≤ k := Nat.le_refl k
    revert h0 hle
    generalize hm : k = m
    have : ∀ m, (∀ j, m ≤ j → j < k → xs.getD j 0 = 0) → m ≤ k → ∃ m, m ≤ k ∧ (∀ j, m ≤ j → j < k → xs.getD j 0 = 0) ∧ (0 < m → xs.getD (m - 1) 0 ≠ 0) := by
      intro m
      induction m with
      | zero => intro h _; exact ⟨0, by omega, h, fun h => absurd h (by omega)⟩
      | succ m ih =>
        intro h hle
        by_cases hz : xs.getD m 0 = 0
        · refine ih (fun j a b => ?_) (by omega)
          rcases Nat.lt_or_ge m j with hj | hj
          · exact h j (by omega) b
          · obtain rfl : j = m := by omega
            exact hz
        · exact ⟨m + 1, hle, h, fun _ => by simpa using hz⟩
    subst hm
    exact this k
  obtain ⟨m, a, b, d⟩ := key
  obtain ⟨e1, e2⟩ := strip W_two h2 a b d
  have e3 : dl (val W xs) = m := e2.symm
  refine ⟨?_, by omega, by omega, h6⟩
  rw [e3, ← e1]
  exact h1.take (by omega)
theorem Nm.dl_le (h : Nm w A n c N) : dl N ≤ n := by
  obtain ⟨⟨xs, h1, h2, h3⟩, h4, h5, h6⟩ := h
  subst h3
  exact dg_len_le W_two h6 (h1.len ▸ val_lt (by decide) h2)
/-- nil is 0. -/
theorem Cn.nil (w : World) : Cn w none 0 0 0 := ⟨by rw [dg_zero]; exact Rd.nil _ _ _, Nat.le_refl _, by omega, Int.le_refl _⟩
/-- One digit. -/
theorem Nm.one {g cap : Nat} {x : Int} (h : Row w g 45 .u64 [x]) (h0 : 0 ≤ x) (h1 : x < W) (hc : 1 ≤ cap) (_hc : cap ≤ 17592186044416) : Nm w (some ⟨g, 0, none⟩) 1 cap x :=
  ⟨⟨[x], h.rd (by rfl) (fun j y hy => by simpa using hy), fun y hy => by simp at hy; subst hy; exact ⟨h0, h1⟩, by simp [val]⟩, hc, by omega, h0⟩
end

/-- limbs. -/
theorem limbs_nm {A : Option Addr} {n c : Nat} {N : Int} {w : World} (h : Nm w A n c N) :
    Calls Tryd.prog 32 #[.slice A n c] w fun e w' => e = .returned (.slice A (dl N) c) ∧ w = w' := by
  obtain ⟨⟨xs, h1, h2, h3⟩, h4, h5, h6⟩ := h
  refine (limbs_any A n c xs w h1 h2 h4 h5).mono fun e w' ⟨he, hw⟩ => ⟨?_, hw⟩
  subst h3
  exact he

/-- 'x, nil' was answered, x the number N in new memory. -/
def Ans (N : Int) (w : World) (e : Ending) (w' : World) : Prop :=
  ∃ B m cap, e = .returned (.tuple #[.slice B m cap, .nilIface]) ∧ Cn w' B m cap N ∧ Below w.heap.size w w' ∧ ∀ a, B = some a → w.heap.size ≤ a.block
/-- 'nil, err' was answered, err a Code. -/
def Err1 (code : Int) (w : World) (e : Ending) (w' : World) : Prop :=
  e = .returned (.tuple #[.slice none 0 0, .iface 43 (.int .i64 code)]) ∧ Below w.heap.size w w'
theorem dl_le {N : Int} (h0 : 0 ≤ N) {k : Nat} (h : N < W ^ k) : dl N ≤ k := dg_len_le W_two h0 h
theorem lt_dl {N : Int} (h0 : 0 ≤ N) {k : Nat} (h : dl N ≤ k) : N < W ^ k := dg_lt_pow W_two h0 h
theorem dl_mono {N M : Int} (h0 : 0 ≤ N) (h : N ≤ M) : dl N ≤ dl M := dg_len_mono W_two h0 h
theorem dl_zero {N : Int} (h0 : 0 ≤ N) : dl N = 0 ↔ N = 0 := dg_nil_iff W_two h0
theorem val_dl {N : Int} (h0 : 0 ≤ N) {m : Nat} (h : dl N ≤ m) : vf W (dig (dg W N)) m = N := by
  rw [← val_vf W (dg W N) h, val_dg W_two h0]
end Go.Proofs.YtjalncdllegfoaaDoor
/-
  What nat.Add answers: the sum of two numbers, or ErrLong.
-/
namespace Go.Proofs.YtjalncdllegfoaaDoor
open Go.RowKit

theorem info62 : (Tryd.prog.info? 45).map (fun i => (i.zero, i.size, i.bytes)) = some (some (.int .u64 0), 1, 8) := by kernel_rfl
theorem made64 (n : Nat) : madeCells (Value.cells (.int .u64 0)) (n * 1) = ((List.replicate n 0).map (Value.int .u64)).toArray := by
  apply Array.ext'
  rw [Nat.mul_one]
  show (madeCells #[Value.int .u64 0] n).toList = _
  rw [toList_madeCells_one]; simp
/-- make([]uint64, n): n noughts in a new block. -/
theorem run_make64 (n : Nat) {C : Int} (hC : C = n) (hn : n ≤ 35184372088832) (w : World) : (Instr.makeSlice 23 (.int .i64 C) (.int .i64 C)).run Tryd.prog w =
    .ok (.slice (some ⟨w.heap.size, 0, none⟩) n n) (w.alloc (.cells ((List.replicate n 0).map (Value.int .u64)).toArray 45)) := by
  subst hC
  obtain ⟨i0, hi, hz0, hz1, hz2⟩ := info_parts info62
  have hr := run_make (P := Tryd.prog) w 23 45 i0 (.int .u64 0) Tryd.underlying23 hi hz0 .i64 .i64 n n (by omega) (by omega) (by rw [hz2]; omega) (by omega)
  rw [hz1, made64] at hr
  simpa using hr
def AddR (X Y : List Int) (n : Nat) (w : World) (c i : Value) (wr : World) : Prop :=
  ∃ (k : Nat) (zs : List Int) (cr : Int), k ≤ n ∧ i = .int .i64 k ∧ c = .int .u64 cr ∧ 0 ≤ cr ∧ cr ≤ 1 ∧ Row wr w.heap.size 45 .u64 zs ∧ zs.length = n + 1 ∧ Dig W zs ∧
    vf W (dig zs) k + cr * W ^ k = vf W (dig X) k + vf W (dig Y) k ∧ Below w.heap.size w wr
theorem vf_set {zs : List Int} {k : Nat} (hk : k < zs.length) (v : Int) : vf W (dig (zs.set k v)) (k + 1) = vf W (dig zs) k + v * W ^ k := by
  simp only [vf]
  rw [dig_set_same hk, vf_congr W (g := dig zs) (fun j hj => dig_set_ne (by omega))]
theorem add_step {X Y zs : List Int} {k : Nat} {cr v c' : Int} (hk : k < zs.length) (e : v + W * c' = dig X k + dig Y k + cr)
    (h : vf W (dig zs) k + cr * W ^ k = vf W (dig X) k + vf W (dig Y) k) : vf W (dig (zs.set k v)) (k + 1) + c' * W ^ (k + 1) = vf W (dig X) (k + 1) + vf W (dig Y) (k + 1) := by
  rw [vf_set hk]
  simp only [vf]
  rw [Int.pow_succ]
  generalize vf W (dig zs) k = a at *
  generalize vf W (dig X) k = x at *
  generalize vf W (dig Y) k = y at *
  generalize W ^ k = p at *
  grind
theorem add_last {X Y zs : List Int} {m : Nat} {cr : Int} (hk : zs.length = m + 1) (hx : X.length ≤ m) (hy : Y.length ≤ m)
    (h : vf W (dig zs) m + cr * W ^ m = vf W (dig X) m + vf W (dig Y) m) : val W (zs.set m cr) = val W X + val W Y := by
  rw [val_vf W (zs.set m cr) (m := m + 1) (by simp [hk]), vf_set (by omega), val_vf W X hx, val_vf W Y hy, h]
theorem grow_row {w wr : World} {t : TypeId} {k : IntKind} {zs : List Int} (_h : Row wr w.heap.size t k zs) (hb : Below w.heap.size w wr) (i : Nat) (u : Value) : Below w.heap.size w (wr.setCell ⟨w.heap.size, i, none⟩ u) :=
  hb.setCell (Nat.le_refl _) u
set_option maxHeartbeats 400000 in
theorem add_any {A A' : Option Addr} {n c n' c' : Nat} {N M : Int} {w : World} (h : Nm w A n c N) (h' : Nm w A' n' c' M) (hl : dl N ≤ 64) (hl' : dl M ≤ 64) :
    Calls Tryd.prog 97 #[.slice A n c, .slice A' n' c'] w (Ans (N + M) w) := by
  obtain ⟨m, hm⟩ : ∃ m : Nat, max (dl N : Int) (dl M : Int) = m := ⟨max (dl N) (dl M), by omega⟩
  have hm1 : dl N ≤ m := by omega
  have hm2 : dl M ≤ m := by omega
  have hm3 : m ≤ 64 := by omega
  have hmk := fun W => run_make64 (m + 1) (C := (m : Int) + 1) (by omega) (by omega) W
  obtain ⟨Z, hZ⟩ : ∃ Z : List Int, Z = List.replicate (m + 1) 0 := ⟨_, rfl⟩
  rw [← hZ] at hmk
  have HZ := Lib.hid hZ
  clear hZ
  go_enter Tryd.func97, Tryd.ntmps97
  go_wp2_with fail
  refine (limbs_nm h).mono ?_
  rintro e w1 ⟨rfl, rfl⟩
  go_wp2_with fail
  refine (limbs_nm h').mono ?_
  rintro e w1 ⟨rfl, rfl⟩
  go_wp2_with fail
  refine (tooLong_no _ _ _ _ _ _ _ hl hl').mono ?_
  rintro e w1 ⟨rfl, rfl⟩
  go_wp2_with fail
  clear hmk hm
  have hx := h.lim
  have hy := h'.lim
  go_loopw [10, 29] (fun c i wr => AddR (dg W N) (dg W M) m w c i wr) (fun _ i _ => m - (intOf i).toNat)
  case atStart =>
    exact ⟨0, Z, 0, Nat.zero_le _, rfl, rfl, Int.le_refl _, by decide, Row.new _ _ _ _, by rw [HZ.out]; simp, by rw [HZ.out]; intro x hx; simp at hx; subst hx; exact ⟨by decide, by decide⟩, by simp [vf], (Below.refl _ _).alloc (Nat.le_refl _) _⟩
  case round =>
    obtain ⟨k, zs, cr, hk, rfl, rfl, c0, c1, hrow, hzl, hzd, hv, hb⟩ := hrel
    have HV := Lib.hid hv
    clear hv
    rcases Nat.lt_or_ge k m with hlt | hge
    · have d1 := dig_W (dig_dg W_two hx.pos) k
      have d2 := dig_W (dig_dg W_two hy.pos) k
      have hf := hrow.frozen k
      have hc := hrow.cell (getElem?_dig (show k < zs.length by omega))
      have HB := add64_bd d1.1 d1.2 d2.1 d2.2 c0 c1
      have hr := hrow.set k (alo (dig (dg W N) k) (dig (dg W M) k) cr)
      have hbl := grow_row hrow hb k (.int .u64 (alo (dig (dg W N) k) (dig (dg W M) k) cr))
      go_wp2_with fail
      refine (limbAt_any A (dl N) c (dg W N) k _ (hx.rd.below hb)).mono ?_
      rintro e w1 ⟨rfl, rfl⟩
      go_wp2_with fail
      refine (limbAt_any A' (dl M) c' (dg W M) k _ (hy.rd.below hb)).mono ?_
      rintro e w1 ⟨rfl, rfl⟩
      go_wp2_with (simp only [add64 _ _ _ d1.1 d2.1 c0 c1])
      go_roundw
      case rel => exact ⟨k + 1, _, _, by omega, by go_num, rfl, HB.2.2.1, HB.2.2.2.1, hr, by simpa using hzl, hzd.set HB.1 HB.2.1 k, add_step (by omega) HB.2.2.2.2 HV.out, hbl⟩
      case measure => simp [intOf]; omega
    · obtain rfl : k = m := by omega
      have hf := hrow.frozen k
      have hc := hrow.cell (getElem?_dig (show k < zs.length by omega))
      have hr := hrow.set k cr
      have hbl := grow_row hrow hb k (.int .u64 cr)
      have hdd := hzd.set c0 (show cr < W by unfold W; omega) k
      have hval := add_last (X := dg W N) (Y := dg W M) hzl hm1 hm2 HV.out
      rw [val_dg W_two hx.pos, val_dg W_two hy.pos] at hval
      have hnm : Nm (wr.setCell ⟨w.heap.size, k, none⟩ (.int .u64 cr)) (some ⟨w.heap.size, 0, none⟩) (k + 1) (k + 1) (N + M) :=
        ⟨⟨zs.set k cr, hr.rd (by simpa using hzl) (fun j x hx => by rwa [Nat.zero_add]), hdd, hval⟩, Nat.le_refl _, by omega, Int.add_nonneg hx.pos hy.pos⟩
      have HVAL := Lib.hid hval
      clear hval
      go_wp2_with fail
      refine (limbs_nm hnm).mono ?_
      rintro e w1 ⟨rfl, rfl⟩
      go_wp2
      go_ret2
      exact ⟨_, _, _, rfl, hnm.lim, hbl, fun a ha => by injection ha with ha; subst ha; exact Nat.le_refl _⟩
theorem add_long {A A' : Option Addr} {n c n' c' : Nat} {N M : Int} {w : World} (h : Nm w A n c N) (h' : Nm w A' n' c' M) (hl : 64 < dl N ∨ 64 < dl M) :
    Calls Tryd.prog 97 #[.slice A n c, .slice A' n' c'] w (Err1 2 w) := by
  have HL := Lib.hid hl
  clear hl
  go_enter Tryd.func97, Tryd.ntmps97
  go_wp2_with fail
  refine (limbs_nm h).mono ?_
  rintro e w1 ⟨rfl, rfl⟩
  go_wp2_with fail
  refine (limbs_nm h').mono ?_
  rintro e w1 ⟨rfl, rfl⟩
  go_wp2_with fail
  refine (tooLong_yes _ _ _ _ _ _ _ HL.out).mono ?_
  rintro e w1 ⟨rfl, rfl⟩
  go_wp2
  go_ret2
  exact ⟨rfl, Below.refl _ _⟩
end Go.Proofs.YtjalncdllegfoaaDoor
/-
  What nat.Cmp answers: -1, 0 or 1, as the one number stands to the other.
-/
namespace Go.Proofs.YtjalncdllegfoaaDoor
open Go.RowKit

theorem quiet_add {P : Program} {f : FuncId} {args : Array Value} {w : World} {a n : Nat} {v : Value}
    (h : Calls P f args (w.drewN (a + n)) fun e w' => e = .returned v ∧ w.drewN (a + n) = w') :
    Calls P f args (w.drewN (a + n)) fun e w'' => e = .returned v ∧ ∃ m, w'' = w.drewN (a + m) :=
  h.mono fun _ _ ⟨he, hm⟩ => ⟨he, n, hm.symm⟩
theorem quiet_one {P : Program} {f : FuncId} {args : Array Value} {w : World} {n : Nat} {v : Value}
    (h : Calls P f args (w.drewN n) fun e w' => e = .returned v ∧ w.drewN n = w') : Calls P f args (w.drewN n) fun e w'' => e = .returned v ∧ ∃ m, w'' = w.drewN m :=
  h.mono fun _ _ ⟨he, hm⟩ => ⟨he, n, hm.symm⟩

/-- -1, 0, 1. -/
def cmpI (a b : Int) : Int := if a < b then -1 else if b < a then 1 else 0
theorem cmpI_lt {a b : Int} (h : a < b) : cmpI a b = -1 := by simp [cmpI, h]
theorem cmpI_gt {a b : Int} (h : b < a) : cmpI a b = 1 := by unfold cmpI; rw [if_neg (by omega), if_pos h]
theorem cmpI_eq (a : Int) : cmpI a a = 0 := by simp [cmpI]
theorem cmpI_bd (a b : Int) : -1 ≤ cmpI a b ∧ cmpI a b ≤ 1 := by unfold cmpI; split <;> (try split) <;> omega
theorem cmpI_flip (a b : Int) : cmpI b a = -cmpI a b := by unfold cmpI; split <;> split <;> (try split) <;> omega

theorem isNaN_int (a : Int) (w : World) : Calls Tryd.prog 60 #[.int .i64 a] w fun e w' => e = .returned (.bool false) ∧ w = w' := by
  go_enter Tryd.func60, Tryd.ntmps60
  go_wp2
  go_ret
  exact ⟨by simp, rfl⟩
theorem isNaN_u64 (a : Int) (w : World) : Calls Tryd.prog 61 #[.int .u64 a] w fun e w' => e = .returned (.bool false) ∧ w = w' := by
  go_enter Tryd.func61, Tryd.ntmps61
  go_wp2
  go_ret
  exact ⟨by simp, rfl⟩
theorem compare_int (a b : Int) (w : World) : Calls Tryd.prog 35 #[.int .i64 a, .int .i64 b] w fun e w' => e = .returned (.int .i64 (cmpI a b)) ∧ w = w' := by
  rcases Int.lt_trichotomy a b with h | h | h
  · rw [cmpI_lt h]
    go_enter Tryd.func35, Tryd.ntmps35
    go_wp2_with (go_at_call 60; refine (isNaN_int _ _).mono ?_; rintro e w1 ⟨rfl, rfl⟩)
    go_ret
    exact ⟨rfl, rfl⟩
  · subst h
    rw [cmpI_eq]
    go_enter Tryd.func35, Tryd.ntmps35
    go_wp2_with (go_at_call 60; refine (isNaN_int _ _).mono ?_; rintro e w1 ⟨rfl, rfl⟩)
    go_ret
    exact ⟨rfl, rfl⟩
  · rw [cmpI_gt h]
    go_enter Tryd.func35, Tryd.ntmps35
    go_wp2_with (go_at_call 60; refine (isNaN_int _ _).mono ?_; rintro e w1 ⟨rfl, rfl⟩)
    go_ret
    exact ⟨rfl, rfl⟩
theorem compare_u64 (a b : Int) (w : World) : Calls Tryd.prog 36 #[.int .u64 a, .int .u64 b] w fun e w' => e = .returned (.int .i64 (cmpI a b)) ∧ w = w' := by
  rcases Int.lt_trichotomy a b with h | h | h
  · rw [cmpI_lt h]
    go_enter Tryd.func36, Tryd.ntmps36
    go_wp2_with (go_at_call 61; refine (isNaN_u64 _ _).mono ?_; rintro e w1 ⟨rfl, rfl⟩)
    go_ret
    exact ⟨rfl, rfl⟩
  · subst h
    rw [cmpI_eq]
    go_enter Tryd.func36, Tryd.ntmps36
    go_wp2_with (go_at_call 61; refine (isNaN_u64 _ _).mono ?_; rintro e w1 ⟨rfl, rfl⟩)
    go_ret
    exact ⟨rfl, rfl⟩
  · rw [cmpI_gt h]
    go_enter Tryd.func36, Tryd.ntmps36
    go_wp2_with (go_at_call 61; refine (isNaN_u64 _ _).mono ?_; rintro e w1 ⟨rfl, rfl⟩)
    go_ret
    exact ⟨rfl, rfl⟩

/-! ### Numbers are compared by their highest digit that differs -/
theorem vf_bd {b : Int} (hb : 1 ≤ b) {f : Nat → Int} (h : ∀ j, 0 ≤ f j ∧ f j < b) (k : Nat) : 0 ≤ vf b f k ∧ vf b f k < b ^ k := by
  induction k with
  | zero => simp [vf]
  | succ k ih =>
    have hp : 0 < b ^ k := Int.pow_pos (by omega)
    have h1 : 0 ≤ f k * b ^ k := Int.mul_nonneg (h k).1 (by omega)
    have h2 : f k * b ^ k ≤ (b - 1) * b ^ k := Int.mul_le_mul_of_nonneg_right (by have := (h k).2; omega) (by omega)
    rw [Int.sub_mul] at h2
    simp only [vf]
    rw [Int.pow_succ, Int.mul_comm (b ^ k) b]
    omega
theorem vf_same (b : Int) {f g : Nat → Int} {k m : Nat} (hm : k ≤ m) (h : ∀ j, k ≤ j → f j = g j) : vf b f m - vf b f k = vf b g m - vf b g k := by
  induction m with
  | zero => have : k = 0 := by omega
            subst this; omega
  | succ m ih =>
    rcases Nat.lt_or_ge m k with h1 | h1
    · have : k = m + 1 := by omega
      subst this; omega
    · simp only [vf]; rw [h m h1]; have := ih h1; omega
theorem vf_less {b : Int} (hb : 1 ≤ b) {f g : Nat → Int} (hf : ∀ j, 0 ≤ f j ∧ f j < b) (hg : ∀ j, 0 ≤ g j ∧ g j < b) {k m : Nat} (hm : k < m) (h : ∀ j, k < j → f j = g j) (hk : f k < g k) : vf b f m < vf b g m := by
  have h1 := vf_same b (k := k + 1) hm (fun j hj => h j (by omega))
  have h2 := vf_bd hb hf k
  have h3 := vf_bd hb hg k
  have hp : 0 < b ^ k := Int.pow_pos (by omega)
  have h4 : (f k + 1) * b ^ k ≤ g k * b ^ k := Int.mul_le_mul_of_nonneg_right (by omega) (by omega)
  rw [Int.add_mul] at h4
  simp only [vf] at h1
  omega
theorem cmp_at {N M : Int} (hN : 0 ≤ N) (hM : 0 ≤ M) {k m : Nat} (h1 : dl N = m) (h2 : dl M = m) (hm : k < m) (h : ∀ j, k < j → dig (dg W N) j = dig (dg W M) j) : cmpI N M = cmpI (dig (dg W N) k) (dig (dg W M) k) ∨ dig (dg W N) k = dig (dg W M) k := by
  have a1 := val_dl hN (m := m) (by omega)
  have a2 := val_dl hM (m := m) (by omega)
  have b1 := fun j => dig_bd (b := W) (by decide) (dig_dg W_two hN) j
  have b2 := fun j => dig_bd (b := W) (by decide) (dig_dg W_two hM) j
  rcases Int.lt_trichotomy (dig (dg W N) k) (dig (dg W M) k) with g | g | g
  · left
    have := vf_less (b := W) (by decide) b1 b2 hm h g
    rw [cmpI_lt g, cmpI_lt (by omega)]
  · exact .inr g
  · left
    have := vf_less (b := W) (by decide) b2 b1 hm (fun j hj => (h j hj).symm) g
    rw [cmpI_gt g, cmpI_gt (by omega)]
theorem cmp_all {N M : Int} (hN : 0 ≤ N) (hM : 0 ≤ M) (h : ∀ j, dig (dg W N) j = dig (dg W M) j) : cmpI N M = 0 := by
  have a1 := val_dl hN (m := max (dl N) (dl M)) (by omega)
  have a2 := val_dl hM (m := max (dl N) (dl M)) (by omega)
  rw [vf_congr W (g := dig (dg W M)) (fun j _ => h j), a2] at a1
  subst a1
  exact cmpI_eq _
theorem cmp_len {N M : Int} (hN : 0 ≤ N) (hM : 0 ≤ M) (h : dl N ≠ dl M) : cmpI N M = cmpI (dl N) (dl M) := by
  rcases Nat.lt_or_gt_of_ne h with g | g
  · rw [cmpI_lt (show (dl N : Int) < dl M by omega), cmpI_lt]
    rcases Int.lt_or_le N M with k | k
    · exact k
    · have := dl_mono hM k; omega
  · rw [cmpI_gt (show (dl M : Int) < dl N by omega), cmpI_gt]
    rcases Int.lt_or_le M N with k | k
    · exact k
    · have := dl_mono hN k; omega

theorem dig_past {N : Int} {j : Nat} (h : dl N ≤ j) : dig (dg W N) j = 0 := dig_ge h
def CmpR (N M : Int) (w : World) (i : Value) (wr : World) : Prop :=
  ∃ v : Int, i = .int .i64 v ∧ -1 ≤ v ∧ v < dl N ∧ (∀ j : Nat, v < j → dig (dg W N) j = dig (dg W M) j) ∧ ∃ q, wr = w.drewN q
/-- An int was answered; nothing was written. -/
def AnsI (v : Int) (w : World) (e : Ending) (w' : World) : Prop := e = .returned (.int .i64 v) ∧ ∃ q, w' = w.drewN q
set_option maxHeartbeats 1000000 in
theorem cmp_any {A A' : Option Addr} {n c n' c' : Nat} {N M : Int} {w : World} (h : Nm w A n c N) (h' : Nm w A' n' c' M) :
    Calls Tryd.prog 15 #[.slice A n c, .slice A' n' c'] w (AnsI (cmpI N M) w) := by
  have hx := h.lim
  have hy := h'.lim
  by_cases hl : dl N = dl M
  · have hle : dl N ≤ 17592186044416 := by have := hx.nc; have := hx.c60; omega
    have hq : ((dl N : Int) != (dl M : Int)) = false := by simp [hl]
    have HL := Lib.hid hl
    clear hl
    go_enter Tryd.func15, Tryd.ntmps15
    go_wp2_with fail
    refine (limbs_nm h).mono ?_
    rintro e w1 ⟨rfl, rfl⟩
    go_wp2_with fail
    refine (limbs_nm h').mono ?_
    rintro e w1 ⟨rfl, rfl⟩
    go_wp2_with fail
    go_loopw [7] (fun i wr => CmpR N M w i wr) (fun i _ => (intOf i + 1).toNat)
    case atStart =>
      exact ⟨_, rfl, by omega, by omega, fun j hj => by rw [dig_past (N := N) (by omega), dig_past (N := M) (by have := HL.out; omega)], 0, rfl⟩
    case round =>
      obtain ⟨v, rfl, v0, v1, hd, q, rfl⟩ := hrel
      have HD := Lib.hid hd
      clear hd
      rcases Int.lt_or_le v 0 with hv | hv
      · obtain rfl : v = -1 := by omega
        go_wp2
        go_ret
        exact ⟨by rw [cmp_all hx.pos hy.pos (fun j => HD.out j (by omega))]; rfl, q, rfl⟩
      · obtain ⟨k, rfl⟩ := Int.eq_ofNat_of_zero_le hv
        obtain ⟨b, off, x, rfl, hb, hxx, hcell⟩ := hx.rd.at_ (j := k) (by omega)
        obtain ⟨b', off', y, rfl, hb', hyy, hcell'⟩ := hy.rd.at_ (j := k) (by have := HL.out; omega)
        have e1 := dig_lt hxx
        have e2 := dig_lt hyy
        have H1 := Lib.hid e1
        have H2 := Lib.hid e2
        clear hxx hyy e1 e2
        have hk1 : (k : Int) < (dl N : Int) := v1
        have hk2 : (k : Int) < (dl M : Int) := by have := HL.out; omega
        by_cases hxy : x = y
        · subst hxy
          have hne : ((x : Int) != x) = false := by simp
          go_wp2_with fail
          go_quiet (fail)
          go_wp2
          go_roundw
          case rel =>
            refine ⟨_, rfl, by omega, by omega, fun j hj => ?_, _, rfl⟩
            rcases Nat.lt_or_ge k j with h3 | h3
            · exact HD.out j (by omega)
            · obtain rfl : j = k := by omega
              rw [H1.out, H2.out]
          case measure => simp [intOf]
        · have hne : ((x : Int) != y) = true := by simpa using hxy
          have HXY := Lib.hid hxy
          clear hxy
          go_wp2_with fail
          go_quiet (fail)
          go_wp2_with fail
          go_quiet ((go_at_call 36; exact quiet_add (compare_u64 _ _ _)))
          go_wp2
          go_ret
          refine ⟨?_, _, by rw [World.drewN_drewN, World.drewN_drewN]⟩
          rcases cmp_at hx.pos hy.pos rfl HL.out.symm (show k < dl N by omega) (fun j hj => HD.out j (by omega)) with g | g
          · rw [g, H1.out, H2.out]; rfl
          · exact absurd g (by rw [H1.out, H2.out]; exact HXY.out)
  · have hq : ((dl N : Int) != (dl M : Int)) = true := by simp; omega
    have HL := Lib.hid hl
    clear hl
    go_enter Tryd.func15, Tryd.ntmps15
    go_wp2_with fail
    refine (limbs_nm h).mono ?_
    rintro e w1 ⟨rfl, rfl⟩
    go_wp2_with fail
    refine (limbs_nm h').mono ?_
    rintro e w1 ⟨rfl, rfl⟩
    go_wp2_with fail
    refine (compare_int _ _ _).mono ?_
    rintro e w1 ⟨rfl, rfl⟩
    go_wp2
    go_ret
    exact ⟨by rw [cmp_len hx.pos hy.pos HL.out]; rfl, 0, rfl⟩
end Go.Proofs.YtjalncdllegfoaaDoor
/-
  Rows of digits that are changed in place: addTimes, takeTimes, addBack.
-/
namespace Go.Proofs.YtjalncdllegfoaaDoor
open Go.RowKit
/-- The number that n digits from off on are. -/
def wv (zs : List Int) (off n : Nat) : Int := vf W (fun j => dig zs (off + j)) n
theorem wv_succ (zs : List Int) (off n : Nat) : wv zs off (n + 1) = wv zs off n + dig zs (off + n) * W ^ n := rfl
theorem wv_set {zs : List Int} {off k : Nat} (hk : off + k < zs.length) (v : Int) : wv (zs.set (off + k) v) off (k + 1) = wv zs off k + v * W ^ k := by
  rw [wv_succ, dig_set_same hk]
  unfold wv
  rw [vf_congr W (g := fun j => dig zs (off + j)) (fun j hj => dig_set_ne (by omega))]
theorem wv_congr {zs ys : List Int} {off n : Nat} (h : ∀ j, off ≤ j → j < off + n → dig zs j = dig ys j) : wv zs off n = wv ys off n :=
  vf_congr W (fun j hj => h (off + j) (by omega) (by omega))
theorem wv_bd {zs : List Int} (h : Dig W zs) (off n : Nat) : 0 ≤ wv zs off n ∧ wv zs off n < W ^ n :=
  vf_bd (by decide) (fun j => dig_bd (by decide) h _) n
/-- Behind a call that changed n digits of block g from off on: all else is as it was. -/
structure Turned (w w' : World) (g off n : Nat) (zs ys : List Int) : Prop where
  row : Row w' g 45 .u64 ys
  len : ys.length = zs.length
  dig_ : Dig W ys
  rest : ∀ j, j < off ∨ off + n ≤ j → dig ys j = dig zs j
  grown : w.grownBy w' (some g)
theorem Turned.refl {w : World} {g off : Nat} {zs : List Int} (h : Row w g 45 .u64 zs) (hd : Dig W zs) : Turned w w g off 0 zs zs :=
  ⟨h, rfl, hd, fun _ _ => rfl, World.grownBy.refl w _⟩
theorem Turned.step {w w' : World} {g off n : Nat} {zs ys : List Int} (h : Turned w w' g off n zs ys) {v : Int} (h0 : 0 ≤ v) (h1 : v < W) : Turned w (w'.setCell ⟨g, off + n, none⟩ (.int .u64 v)) g off (n + 1) zs (ys.set (off + n) v) :=
  ⟨h.row.set _ _, by simpa using h.len, h.dig_.set h0 h1 _, fun j hj => by rw [dig_set_ne (by omega)]; exact h.rest j (by omega), grown_setCell h.grown _ _⟩
theorem Turned.drew {w w' : World} {g off n : Nat} {zs ys : List Int} (h : Turned w w' g off n zs ys) : Turned w w'.drew g off n zs ys := ⟨h.row.drew, h.len, h.dig_, h.rest, grown_drew h.grown⟩

/-! ### addTimes -/
theorem times_step {z y K over lo hi l1 c1 z' c2 : Int} (h0 : lo + W * hi = y * K) (h1 : l1 + W * c1 = lo + over + 0) (h2 : z' + W * c2 = z + l1 + 0) : z' + W * (hi + c1 + c2) = z + y * K + over := by
  grind
theorem times_fits {z y K over a b : Int} (hz : z < 18446744073709551616) (hy0 : 0 ≤ y) (hy : y < 18446744073709551616) (hK0 : 0 ≤ K) (hK : K < 18446744073709551616) (ho : over < 18446744073709551616) (ha : 0 ≤ a) (h : a + 18446744073709551616 * b = z + y * K + over) : b < 18446744073709551616 := by
  have h2 : y * K ≤ 18446744073709551615 * 18446744073709551615 := Int.mul_le_mul (by omega) (by omega) hK0 (by decide)
  omega
theorem times_sum {zs ys Y : List Int} {off k : Nat} {K over over' v : Int} (hk : off + k < ys.length) (hr : dig ys (off + k) = dig zs (off + k))
    (e : v + W * over' = dig ys (off + k) + dig Y k * K + over) (h : wv ys off k + over * W ^ k = wv zs off k + K * vf W (dig Y) k) :
    wv (ys.set (off + k) v) off (k + 1) + over' * W ^ (k + 1) = wv zs off (k + 1) + K * vf W (dig Y) (k + 1) := by
  rw [wv_set hk, wv_succ, ← hr]
  simp only [vf]
  rw [Int.pow_succ]
  generalize wv ys off k = a at *
  generalize wv zs off k = b at *
  generalize vf W (dig Y) k = d at *
  generalize W ^ k = p at *
  generalize dig ys (off + k) = z at *
  generalize dig Y k = y at *
  grind
def TimesR (zs Y : List Int) (off n g : Nat) (K : Int) (w : World) (o i : Value) (wr : World) : Prop :=
  ∃ (k : Nat) (ys : List Int) (over : Int), k ≤ n ∧ i = .int .i64 k ∧ o = .int .u64 over ∧ 0 ≤ over ∧ over < 18446744073709551616 ∧ Turned w wr g off k zs ys ∧ wv ys off k + over * W ^ k = wv zs off k + K * vf W (dig Y) k
def TimesP (zs Y : List Int) (off n g : Nat) (K : Int) (w : World) (e : Ending) (w' : World) : Prop :=
  ∃ (ys : List Int) (over : Int), e = .returned (.int .u64 over) ∧ 0 ≤ over ∧ over < 18446744073709551616 ∧ Turned w w' g off n zs ys ∧ wv ys off n + over * W ^ n = wv zs off n + K * vf W (dig Y) n
set_option maxHeartbeats 1000000 in
theorem addTimes_any {w : World} {g off n cz c : Nat} {zs Y : List Int} {B : Option Addr} {K : Int} (hrow : Row w g 45 .u64 zs) (hzd : Dig W zs) (hin : off + n ≤ zs.length) (hn : n ≤ 17592186044416)
    (hY : Rd .u64 w B n Y) (hYd : Dig W Y) (hne : 0 < n → ∀ a, B = some a → a.block ≠ g) (hK0 : 0 ≤ K) (hK : K < 18446744073709551616) :
    Calls Tryd.prog 78 #[.slice (some ⟨g, off, none⟩) n cz, .slice B n c, .int .u64 K] w (TimesP zs Y off n g K w) := by
  go_enter Tryd.func78, Tryd.ntmps78
  go_wp2_with fail
  go_loopw [7, 14] (fun o i wr => TimesR zs Y off n g K w o i wr) (fun _ i _ => n - (intOf i).toNat)
  case atStart => exact ⟨0, zs, 0, Nat.zero_le _, rfl, rfl, Int.le_refl _, by decide, Turned.refl hrow hzd, by simp [wv, vf]⟩
  case round =>
    obtain ⟨k, ys, over, hk, rfl, rfl, o0, o1, ht, hv⟩ := hrel
    have HV := Lib.hid hv
    clear hv
    rcases Nat.lt_or_ge k n with hlt | hge
    · have hlen := ht.len
      obtain ⟨b, bo, y, rfl, hbb, hyy, hcell⟩ := (hY.grown ht.grown (hne (by omega))).at_ hlt
      have hye := dig_lt hyy
      have dy := dig_W hYd k
      rw [hye] at dy
      have HY := Lib.hid hye
      have hf := ht.row.frozen (off + k)
      have hc := ht.row.cell (getElem?_dig (show off + k < ys.length by omega))
      have dz := dig_W ht.dig_ (off + k)
      obtain ⟨z, hz⟩ : ∃ z, z = dig ys (off + k) := ⟨_, rfl⟩
      rw [← hz] at hc dz
      have HZ := Lib.hid hz
      have HLEN := Lib.hid hlen
      clear hz hyy hye hlen
      have hM := mul64_bd dy.1 dy.2 hK0 hK
      have hA := add64_bd hM.1 hM.2.1 o0 o1 (Int.le_refl 0) (by decide)
      have hB := add64_bd dz.1 dz.2 hA.1 hA.2.1 (Int.le_refl 0) (by decide)
      have hS := times_step hM.2.2.2.2 hA.2.2.2.2 hB.2.2.2.2
      have hF := times_fits dz.2 dy.1 dy.2 hK0 hK o1 hB.1 hS
      have HM := Lib.hid hM
      have HA := Lib.hid hA
      have HB := Lib.hid hB
      have HS := Lib.hid hS
      have m1 := hM.2.2.1
      have m2 := hM.2.2.2.1
      have a1 := hA.2.2.1
      have a2 := hA.2.2.2.1
      have b1 := hB.2.2.1
      clear hM hA hB hS
      go_wp2_with fail
      refine (mul64 y K _ dy.1 dy.2 hK0 hK).mono ?_
      rintro e w1 ⟨rfl, rfl⟩
      go_wp2_with (first | simp only [add64 _ _ _ HM.out.1 o0 (Int.le_refl 0) (by decide)] | simp only [add64 _ _ _ dz.1 HA.out.1 (Int.le_refl 0) (by decide)])
      go_roundw
      case rel => exact ⟨k + 1, _, _, by omega, by go_num, rfl, by omega, hF, ht.step HB.out.1 HB.out.2.1, times_sum (by have := HLEN.out; omega) (ht.rest _ (.inr (Nat.le_refl _))) (by rw [← HZ.out, HY.out]; exact HS.out) HV.out⟩
      case measure => simp [intOf]; omega
    · obtain rfl : k = n := by omega
      go_wp2
      go_ret
      exact ⟨ys, over, rfl, o0, o1, ht, HV.out⟩

/-! ### takeTimes -/
theorem take_step {z y K over lo hi l1 c1 z' c2 : Int} (h0 : lo + W * hi = y * K) (h1 : l1 + W * c1 = lo + over + 0) (h2 : z' - W * c2 = z - l1 - 0) : z' - W * (hi + c1 + c2) = z - y * K - over := by
  grind
theorem take_fits {z y K over a b : Int} (hz : 0 ≤ z) (hy0 : 0 ≤ y) (hy : y < 18446744073709551616) (hK0 : 0 ≤ K) (hK : K < 18446744073709551616) (ho : over < 18446744073709551616) (ha : a < 18446744073709551616) (h : a - 18446744073709551616 * b = z - y * K - over) : b < 18446744073709551616 := by
  have h2 : y * K ≤ 18446744073709551615 * 18446744073709551615 := Int.mul_le_mul (by omega) (by omega) hK0 (by decide)
  omega
theorem take_sum {zs ys Y : List Int} {off k : Nat} {K over over' v : Int} (hk : off + k < ys.length) (hr : dig ys (off + k) = dig zs (off + k))
    (e : v - W * over' = dig ys (off + k) - dig Y k * K - over) (h : wv ys off k - over * W ^ k = wv zs off k - K * vf W (dig Y) k) :
    wv (ys.set (off + k) v) off (k + 1) - over' * W ^ (k + 1) = wv zs off (k + 1) - K * vf W (dig Y) (k + 1) := by
  rw [wv_set hk, wv_succ, ← hr]
  simp only [vf]
  rw [Int.pow_succ]
  generalize wv ys off k = a at *
  generalize wv zs off k = b at *
  generalize vf W (dig Y) k = d at *
  generalize W ^ k = p at *
  generalize dig ys (off + k) = z at *
  generalize dig Y k = y at *
  grind
def TakeR (zs Y : List Int) (off n g : Nat) (K : Int) (w : World) (o i : Value) (wr : World) : Prop :=
  ∃ (k : Nat) (ys : List Int) (over : Int), k ≤ n ∧ i = .int .i64 k ∧ o = .int .u64 over ∧ 0 ≤ over ∧ over < 18446744073709551616 ∧ Turned w wr g off k zs ys ∧ wv ys off k - over * W ^ k = wv zs off k - K * vf W (dig Y) k
def TakeP (zs Y : List Int) (off n g : Nat) (K : Int) (w : World) (e : Ending) (w' : World) : Prop :=
  ∃ (ys : List Int) (over : Int), e = .returned (.int .u64 over) ∧ 0 ≤ over ∧ over < 18446744073709551616 ∧ Turned w w' g off n zs ys ∧ wv ys off n - over * W ^ n = wv zs off n - K * vf W (dig Y) n
set_option maxHeartbeats 1000000 in
theorem takeTimes_any {w : World} {g off n cz c : Nat} {zs Y : List Int} {B : Option Addr} {K : Int} (hrow : Row w g 45 .u64 zs) (hzd : Dig W zs) (hin : off + n ≤ zs.length) (hn : n ≤ 17592186044416)
    (hY : Rd .u64 w B n Y) (hYd : Dig W Y) (hne : 0 < n → ∀ a, B = some a → a.block ≠ g) (hK0 : 0 ≤ K) (hK : K < 18446744073709551616) :
    Calls Tryd.prog 91 #[.slice (some ⟨g, off, none⟩) n cz, .slice B n c, .int .u64 K] w (TakeP zs Y off n g K w) := by
  go_enter Tryd.func91, Tryd.ntmps91
  go_wp2_with fail
  go_loopw [7, 14] (fun o i wr => TakeR zs Y off n g K w o i wr) (fun _ i _ => n - (intOf i).toNat)
  case atStart => exact ⟨0, zs, 0, Nat.zero_le _, rfl, rfl, Int.le_refl _, by decide, Turned.refl hrow hzd, by simp [wv, vf]⟩
  case round =>
    obtain ⟨k, ys, over, hk, rfl, rfl, o0, o1, ht, hv⟩ := hrel
    have HV := Lib.hid hv
    clear hv
    rcases Nat.lt_or_ge k n with hlt | hge
    · have hlen := ht.len
      obtain ⟨b, bo, y, rfl, hbb, hyy, hcell⟩ := (hY.grown ht.grown (hne (by omega))).at_ hlt
      have hye := dig_lt hyy
      have dy := dig_W hYd k
      rw [hye] at dy
      have HY := Lib.hid hye
      have hf := ht.row.frozen (off + k)
      have hc := ht.row.cell (getElem?_dig (show off + k < ys.length by omega))
      have dz := dig_W ht.dig_ (off + k)
      obtain ⟨z, hz⟩ : ∃ z, z = dig ys (off + k) := ⟨_, rfl⟩
      rw [← hz] at hc dz
      have HZ := Lib.hid hz
      have HLEN := Lib.hid hlen
      clear hz hyy hye hlen
      have hM := mul64_bd dy.1 dy.2 hK0 hK
      have hA := add64_bd hM.1 hM.2.1 o0 o1 (Int.le_refl 0) (by decide)
      have hB := sub64_bd dz.1 dz.2 hA.1 hA.2.1 (Int.le_refl 0) (by decide)
      have hS := take_step hM.2.2.2.2 hA.2.2.2.2 hB.2.2.2.2
      have hF := take_fits dz.1 dy.1 dy.2 hK0 hK o1 hB.2.1 hS
      have HM := Lib.hid hM
      have HA := Lib.hid hA
      have HB := Lib.hid hB
      have HS := Lib.hid hS
      have m1 := hM.2.2.1
      have m2 := hM.2.2.2.1
      have a1 := hA.2.2.1
      have a2 := hA.2.2.2.1
      have b1 := hB.2.2.1
      clear hM hA hB hS
      go_wp2_with fail
      refine (mul64 y K _ dy.1 dy.2 hK0 hK).mono ?_
      rintro e w1 ⟨rfl, rfl⟩
      go_wp2_with (first | simp only [add64 _ _ _ HM.out.1 o0 (Int.le_refl 0) (by decide)] | simp only [sub64 _ _ _ dz.1 HA.out.1 HA.out.2.1 (Int.le_refl 0) (by decide)])
      go_roundw
      case rel => exact ⟨k + 1, _, _, by omega, by go_num, rfl, by omega, hF, ht.step HB.out.1 HB.out.2.1, take_sum (by have := HLEN.out; omega) (ht.rest _ (.inr (Nat.le_refl _))) (by rw [← HZ.out, HY.out]; exact HS.out) HV.out⟩
      case measure => simp [intOf]; omega
    · obtain rfl : k = n := by omega
      go_wp2
      go_ret
      exact ⟨ys, over, rfl, o0, o1, ht, HV.out⟩

/-! ### addBack -/
theorem back_sum {zs ys Y : List Int} {off k : Nat} {over over' v : Int} (hk : off + k < ys.length) (hr : dig ys (off + k) = dig zs (off + k))
    (e : v + W * over' = dig ys (off + k) + dig Y k + over) (h : wv ys off k + over * W ^ k = wv zs off k + vf W (dig Y) k) :
    wv (ys.set (off + k) v) off (k + 1) + over' * W ^ (k + 1) = wv zs off (k + 1) + vf W (dig Y) (k + 1) := by
  rw [wv_set hk, wv_succ, ← hr]
  simp only [vf]
  rw [Int.pow_succ]
  generalize wv ys off k = a at *
  generalize wv zs off k = b at *
  generalize vf W (dig Y) k = d at *
  generalize W ^ k = p at *
  generalize dig ys (off + k) = z at *
  generalize dig Y k = y at *
  grind
def BackR (zs Y : List Int) (off n g : Nat) (w : World) (o i : Value) (wr : World) : Prop :=
  ∃ (k : Nat) (ys : List Int) (over : Int), k ≤ n ∧ i = .int .i64 k ∧ o = .int .u64 over ∧ 0 ≤ over ∧ over ≤ 1 ∧ Turned w wr g off k zs ys ∧ wv ys off k + over * W ^ k = wv zs off k + vf W (dig Y) k
def BackP (zs Y : List Int) (off n g : Nat) (w : World) (e : Ending) (w' : World) : Prop :=
  ∃ (ys : List Int) (over : Int), e = .returned (.int .u64 over) ∧ 0 ≤ over ∧ over ≤ 1 ∧ Turned w w' g off n zs ys ∧ wv ys off n + over * W ^ n = wv zs off n + vf W (dig Y) n
set_option maxHeartbeats 1000000 in
theorem addBack_any {w : World} {g off n cz c : Nat} {zs Y : List Int} {B : Option Addr} (hrow : Row w g 45 .u64 zs) (hzd : Dig W zs) (hin : off + n ≤ zs.length) (hn : n ≤ 17592186044416)
    (hY : Rd .u64 w B n Y) (hYd : Dig W Y) (hne : 0 < n → ∀ a, B = some a → a.block ≠ g) :
    Calls Tryd.prog 92 #[.slice (some ⟨g, off, none⟩) n cz, .slice B n c] w (BackP zs Y off n g w) := by
  go_enter Tryd.func92, Tryd.ntmps92
  go_wp2_with fail
  go_loopw [5, 9] (fun o i wr => BackR zs Y off n g w o i wr) (fun _ i _ => n - (intOf i).toNat)
  case atStart => exact ⟨0, zs, 0, Nat.zero_le _, rfl, rfl, Int.le_refl _, by decide, Turned.refl hrow hzd, by simp [wv, vf]⟩
  case round =>
    obtain ⟨k, ys, over, hk, rfl, rfl, o0, o1, ht, hv⟩ := hrel
    have HV := Lib.hid hv
    clear hv
    rcases Nat.lt_or_ge k n with hlt | hge
    · have hlen := ht.len
      obtain ⟨b, bo, y, rfl, hbb, hyy, hcell⟩ := (hY.grown ht.grown (hne (by omega))).at_ hlt
      have hye := dig_lt hyy
      have dy := dig_W hYd k
      rw [hye] at dy
      have HY := Lib.hid hye
      have hf := ht.row.frozen (off + k)
      have hc := ht.row.cell (getElem?_dig (show off + k < ys.length by omega))
      have dz := dig_W ht.dig_ (off + k)
      obtain ⟨z, hz⟩ : ∃ z, z = dig ys (off + k) := ⟨_, rfl⟩
      rw [← hz] at hc dz
      have HZ := Lib.hid hz
      have HLEN := Lib.hid hlen
      clear hz hyy hye hlen
      have hB := add64_bd dz.1 dz.2 dy.1 dy.2 o0 o1
      have HB := Lib.hid hB
      clear hB
      have HSB := Lib.hid (add64 z y over dz.1 dy.1 o0 o1)
      have hkn : (k : Int) < (n : Int) := by omega
      go_wp2_with fail
      go_region_with (simp only [HSB.out])
      all_goals
        go_wp2
        go_roundw
        case rel => exact ⟨k + 1, _, _, by omega, by go_num, rfl, HB.out.2.2.1, HB.out.2.2.2.1, (ht.step HB.out.1 HB.out.2.1).drew, back_sum (by have := HLEN.out; omega) (ht.rest _ (.inr (Nat.le_refl _))) (by rw [← HZ.out, HY.out]; exact HB.out.2.2.2.2) HV.out⟩
        case measure => simp [intOf]; omega
    · obtain rfl : k = n := by omega
      go_wp2
      go_ret
      exact ⟨ys, over, rfl, o0, o1, ht, HV.out⟩
end Go.Proofs.YtjalncdllegfoaaDoor
/-
  What nat.Mul answers: the product of two numbers, or ErrLong.
-/
namespace Go.Proofs.YtjalncdllegfoaaDoor
open Go.RowKit
theorem vf_split (b : Int) (f : Nat → Int) (k n : Nat) : vf b f (k + n) = vf b f k + b ^ k * vf b (fun j => f (k + j)) n := by
  induction n with
  | zero => simp [vf]
  | succ n ih =>
    rw [← Nat.add_assoc]
    simp only [vf]
    rw [ih, Int.pow_add]
    grind
theorem mul_step {zs ys X : List Int} {k b : Nat} {M over : Int} (hl : k + b < ys.length) (hpre : ∀ j, j < k → dig ys j = dig zs j)
    (h : wv ys k b + over * W ^ b = wv zs k b + dig X k * M) (hv : vf W (dig zs) (k + b) = vf W (dig X) k * M) :
    vf W (dig (ys.set (k + b) over)) (k + 1 + b) = vf W (dig X) (k + 1) * M := by
  have e1 : k + 1 + b = (k + b) + 1 := by omega
  rw [e1]
  rw [vf_set hl, vf_split W (dig ys) k b, vf_congr W (f := dig ys) (g := dig zs) (k := k) (fun j hj => hpre j hj)]
  have e2 : vf W (dig zs) (k + b) = vf W (dig zs) k + W ^ k * wv zs k b := vf_split W (dig zs) k b
  have e3 : vf W (fun j => dig ys (k + j)) b = wv ys k b := rfl
  rw [e3, Int.pow_add]
  rw [e2] at hv
  simp only [vf]
  generalize vf W (dig zs) k = a at *
  generalize wv ys k b = u at *
  generalize wv zs k b = v at *
  generalize W ^ k = p at *
  generalize W ^ b = q at *
  generalize vf W (dig X) k = x at *
  generalize dig X k = d at *
  grind
theorem mul_end {zs X : List Int} {a b : Nat} {M N : Int} (hl : zs.length = a + b) (hN : vf W (dig X) a = N) (hv : vf W (dig zs) (a + b) = vf W (dig X) a * M) : val W zs = N * M := by
  rw [val_vf W zs (m := a + b) (by omega), hv, hN]
def MulR (N M : Int) (w : World) (i : Value) (wr : World) : Prop :=
  ∃ (k : Nat) (zs : List Int), k ≤ dl N ∧ i = .int .i64 k ∧ Row wr w.heap.size 45 .u64 zs ∧ zs.length = dl N + dl M ∧ Dig W zs ∧
    vf W (dig zs) (k + dl M) = vf W (dig (dg W N)) k * M ∧ Below w.heap.size w wr
set_option maxHeartbeats 1000000 in
theorem mul_any {A A' : Option Addr} {n c n' c' : Nat} {N M : Int} {w : World} (h : Nm w A n c N) (h' : Nm w A' n' c' M) (hl : dl N ≤ 64) (hl' : dl M ≤ 64) :
    Calls Tryd.prog 51 #[.slice A n c, .slice A' n' c'] w (Ans (N * M) w) := by
  have hx := h.lim
  have hy := h'.lim
  have hmk := fun W => run_make64 (dl N + dl M) (C := (dl N : Int) + (dl M : Int)) (by omega) (by omega) W
  obtain ⟨Z, hZ⟩ : ∃ Z : List Int, Z = List.replicate (dl N + dl M) 0 := ⟨_, rfl⟩
  rw [← hZ] at hmk
  have HZ := Lib.hid hZ
  clear hZ
  go_enter Tryd.func51, Tryd.ntmps51
  go_wp2_with fail
  refine (limbs_nm h).mono ?_
  rintro e w1 ⟨rfl, rfl⟩
  go_wp2_with fail
  refine (limbs_nm h').mono ?_
  rintro e w1 ⟨rfl, rfl⟩
  go_wp2_with fail
  refine (tooLong_no _ _ _ _ _ _ _ hl hl').mono ?_
  rintro e w1 ⟨rfl, rfl⟩
  go_wp2_with fail
  clear hmk
  go_loopw [26] (fun i wr => MulR N M w i wr) (fun i _ => dl N - (intOf i).toNat)
  case atStart =>
    refine ⟨0, Z, Nat.zero_le _, rfl, Row.new _ _ _ _, by rw [HZ.out]; simp, by rw [HZ.out]; intro x hx; simp at hx; rw [hx.2]; exact ⟨by decide, by decide⟩, ?_, (Below.refl _ _).alloc (Nat.le_refl _) _⟩
    rw [HZ.out, vf_zero W (k := 0) (Nat.zero_le _) (fun j _ => dig_replicate _ j)]; simp [vf]
  case round =>
    obtain ⟨k, zs, hk, rfl, hrow, hzl, hzd, hv, hb⟩ := hrel
    have HV := Lib.hid hv
    have HZL := Lib.hid hzl
    clear hv
    rcases Nat.lt_or_ge k (dl N) with hlt | hge
    · have d1 := dig_W (dig_dg W_two hx.pos) k
      obtain ⟨b, off, x, rfl, hbb, hxx, hcell⟩ := (hx.rd.below hb).at_ hlt
      have hxe := dig_lt hxx
      rw [hxe] at d1
      have HX := Lib.hid hxe
      clear hxe hxx
      have hY := hy.rd.below hb
      have hYd := dig_dg W_two hy.pos
      have hYn : 0 < dl M → ∀ a, A' = some a → a.block ≠ w.heap.size := by
        intro hp a ha
        obtain ⟨b1, o1, e1, h1, _⟩ := hy.rd.cells hp
        rw [e1] at ha; injection ha with ha; subst ha
        exact Nat.ne_of_lt h1
      have hin : k + dl M ≤ zs.length := by omega
      have hin2 : k + dl M < zs.length := by omega
      clear hzl
      have e0 : ¬ (dl N + dl M = k) := by omega
      have e1 : IntKind.i64.wrap ((k : Int) + (dl M : Int)) = (k : Int) + (dl M : Int) := IntWalk.i64_in _ (by omega)
      have e2 : 0 ≤ (k : Int) + (dl M : Int) := by omega
      have e3 : ((k : Int) + (dl M : Int)).toNat = k + dl M := by omega
      go_wp2_with fail
      go_region_with (go_at_call 78; refine (addTimes_any hrow.drew hzd hin (by omega) hY.drew hYd hYn d1.1 d1.2).mono ?_; rintro e w1 ⟨ys, over, rfl, o0, o1, ht, hv⟩; have hf1 := ht.row.frozen (k + dl M); have hc1 := ht.row.cell (getElem?_dig (show k + dl M < ys.length by have := ht.len; omega)); have HT := Lib.hid hv; clear hv)
      all_goals
        go_wp2
        go_roundw
        case rel =>
          have hm := HT.out
          rw [val_dl hy.pos (Nat.le_refl _), ← HX.out] at hm
          exact ⟨k + 1, _, by omega, by go_num, ht.row.set _ _, by rw [List.length_set, ht.len]; exact HZL.out, ht.dig_.set o0 o1 _, mul_step (by rw [ht.len]; exact hin2) (fun j hj => ht.rest j (.inl hj)) hm HV.out,
            (below_grown hb.drew ht.grown hb.size (Nat.le_refl _)).setCell (Nat.le_refl _) _⟩
        case measure => simp [intOf]; omega
    · obtain rfl : k = dl N := by omega
      have hval := mul_end (X := dg W N) (M := M) HZL.out (val_dl hx.pos (Nat.le_refl _)) HV.out
      have hnm : Nm wr (some ⟨w.heap.size, 0, none⟩) (dl N + dl M) (dl N + dl M) (N * M) :=
        ⟨⟨zs, hrow.rd HZL.out (fun j x hx => by rwa [Nat.zero_add]), hzd, hval⟩, Nat.le_refl _, by omega, Int.mul_nonneg hx.pos hy.pos⟩
      clear hval
      go_wp2_with fail
      refine (limbs_nm hnm).mono ?_
      rintro e w1 ⟨rfl, rfl⟩
      go_wp2
      go_ret2
      exact ⟨_, _, _, rfl, hnm.lim, hb, fun a ha => by injection ha with ha; subst ha; exact Nat.le_refl _⟩
theorem mul_long {A A' : Option Addr} {n c n' c' : Nat} {N M : Int} {w : World} (h : Nm w A n c N) (h' : Nm w A' n' c' M) (hl : 64 < dl N ∨ 64 < dl M) :
    Calls Tryd.prog 51 #[.slice A n c, .slice A' n' c'] w (Err1 2 w) := by
  have HL := Lib.hid hl
  clear hl
  go_enter Tryd.func51, Tryd.ntmps51
  go_wp2_with fail
  refine (limbs_nm h).mono ?_
  rintro e w1 ⟨rfl, rfl⟩
  go_wp2_with fail
  refine (limbs_nm h').mono ?_
  rintro e w1 ⟨rfl, rfl⟩
  go_wp2_with fail
  refine (tooLong_yes _ _ _ _ _ _ _ HL.out).mono ?_
  rintro e w1 ⟨rfl, rfl⟩
  go_wp2
  go_ret2
  exact ⟨rfl, Below.refl _ _⟩
end Go.Proofs.YtjalncdllegfoaaDoor
/-
  Digits shifted by some bits: shiftLeft, shiftRight.
-/
namespace Go.Proofs.YtjalncdllegfoaaDoor
open Go.RowKit
set_option linter.unusedVariables false
/-- 2 to the s. -/
def pw (s : Nat) : Int := 2 ^ s
theorem pw_pos (s : Nat) : 0 < pw s := Int.pow_pos (by decide)
theorem pw_mul {s : Nat} (hs : s ≤ 64) : pw s * pw (64 - s) = 18446744073709551616 := by
  unfold pw; rw [← Int.pow_add, Nat.add_sub_cancel' hs]; decide
theorem pw_nat (s : Nat) : ((2 ^ s : Nat) : Int) = pw s := by simp [pw]
theorem wrap_shl (y : Int) {s : Nat} (hs : s ≤ 64) : IntKind.u64.wrap (y * 2 ^ s) = pw s * (y % pw (64 - s)) := by
  rw [IntKind.wrap_u64, ← pw_mul hs, Int.mul_comm y]
  exact Int.mul_emod_mul_of_pos _ _ (pw_pos s)
/-- High and low bits, put together. -/
theorem or_sum {s : Nat} (hs : s ≤ 64) {q r : Int} (q0 : 0 ≤ q) (q1 : q < pw (64 - s)) (r0 : 0 ≤ r) (r1 : r < pw s) : bits .or .u64 (pw s * q) r = pw s * q + r := by
  have hm := pw_mul hs
  have hp := pw_pos s
  have hb : pw s * (q + 1) ≤ 18446744073709551616 := by rw [← hm]; exact Int.mul_le_mul_of_nonneg_left (by omega) (by omega)
  rw [Int.mul_add] at hb
  obtain ⟨a, rfl⟩ := Int.eq_ofNat_of_zero_le q0
  obtain ⟨b, rfl⟩ := Int.eq_ofNat_of_zero_le r0
  rw [← pw_nat] at hb r1 ⊢
  have e : ((2 ^ s : Nat) : Int) * (a : Int) = ((2 ^ s * a : Nat) : Int) := (Int.natCast_mul _ _).symm
  rw [e] at hb ⊢
  have hr : b < 2 ^ s := by omega
  rw [bits_or_u64_nat _ _ (by omega) (by omega), ← Nat.two_pow_add_eq_or_of_lt hr a, Int.natCast_add]
theorem or_sum' {s : Nat} (hs : s ≤ 64) {q r : Int} (q0 : 0 ≤ q) (q1 : q < pw (64 - s)) (r0 : 0 ≤ r) (r1 : r < pw s) : bits .or .u64 r (pw s * q) = pw s * q + r := by
  have hm := pw_mul hs
  have hp := pw_pos s
  have hb : pw s * (q + 1) ≤ 18446744073709551616 := by rw [← hm]; exact Int.mul_le_mul_of_nonneg_left (by omega) (by omega)
  rw [Int.mul_add] at hb
  obtain ⟨a, rfl⟩ := Int.eq_ofNat_of_zero_le q0
  obtain ⟨b, rfl⟩ := Int.eq_ofNat_of_zero_le r0
  rw [← pw_nat] at hb r1 ⊢
  have e : ((2 ^ s : Nat) : Int) * (a : Int) = ((2 ^ s * a : Nat) : Int) := (Int.natCast_mul _ _).symm
  rw [e] at hb ⊢
  have hr : b < 2 ^ s := by omega
  rw [bits_or_u64_nat _ _ (by omega) (by omega), Nat.or_comm, ← Nat.two_pow_add_eq_or_of_lt hr a, Int.natCast_add]
theorem shl_or {s : Nat} (hs : s ≤ 64) {x ov : Int} (x0 : 0 ≤ x) (x1 : x < 18446744073709551616) (o0 : 0 ≤ ov) (o1 : ov < pw s) :
    0 ≤ bits .or .u64 (IntKind.u64.wrap (x * 2 ^ s)) ov ∧ bits .or .u64 (IntKind.u64.wrap (x * 2 ^ s)) ov < W ∧ 0 ≤ x / 2 ^ (64 - s) ∧ x / 2 ^ (64 - s) < pw s ∧
      bits .or .u64 (IntKind.u64.wrap (x * 2 ^ s)) ov + W * (x / 2 ^ (64 - s)) = pw s * x + ov := by
  have hm := pw_mul hs
  have hp := pw_pos s
  have hq := pw_pos (64 - s)
  have g0 := Int.emod_nonneg x (show pw (64 - s) ≠ 0 by omega)
  have g1 := Int.emod_lt_of_pos x hq
  rw [wrap_shl x hs, or_sum hs g0 g1 o0 o1]
  have hb : pw s * (x % pw (64 - s) + 1) ≤ 18446744073709551616 := by rw [← hm]; exact Int.mul_le_mul_of_nonneg_left (by omega) (by omega)
  rw [Int.mul_add] at hb
  have h0 : 0 ≤ pw s * (x % pw (64 - s)) := Int.mul_nonneg (by omega) g0
  have e : x / 2 ^ (64 - s) = x / pw (64 - s) := rfl
  rw [e]
  have hd := Int.emod_add_mul_ediv x (pw (64 - s))
  refine ⟨by omega, by unfold W; omega, Int.ediv_nonneg x0 (by omega), Int.ediv_lt_of_lt_mul hq (by rw [hm]; exact x1), ?_⟩
  have hW : W = pw s * pw (64 - s) := hm.symm
  rw [hW]
  generalize pw s = p at *
  generalize pw (64 - s) = q at *
  generalize x % q = a at *
  generalize x / q = b at *
  grind
theorem shr_or {s : Nat} (hs : s ≤ 64) {x y : Int} (x0 : 0 ≤ x) (x1 : x < 18446744073709551616) :
    0 ≤ bits .or .u64 (x / 2 ^ s) (IntKind.u64.wrap (y * 2 ^ (64 - s))) ∧ bits .or .u64 (x / 2 ^ s) (IntKind.u64.wrap (y * 2 ^ (64 - s))) < W ∧
      pw s * bits .or .u64 (x / 2 ^ s) (IntKind.u64.wrap (y * 2 ^ (64 - s))) = x - x % pw s + W * (y % pw s) := by
  have hm := pw_mul hs
  have hp := pw_pos s
  have hq := pw_pos (64 - s)
  have es : 64 - (64 - s) = s := by omega
  have g0 := Int.emod_nonneg y (show pw s ≠ 0 by omega)
  have g1 := Int.emod_lt_of_pos y hp
  have e : x / 2 ^ s = x / pw s := rfl
  have f0 := Int.ediv_nonneg x0 (show 0 ≤ pw s by omega)
  have f1 : x / pw s < pw (64 - s) := Int.ediv_lt_of_lt_mul hp (by rw [Int.mul_comm, hm]; exact x1)
  rw [wrap_shl y (s := 64 - s) (by omega), es, e, or_sum' (s := 64 - s) (by omega) g0 (by rw [es]; exact g1) f0 f1]
  have hb : pw (64 - s) * (y % pw s + 1) ≤ 18446744073709551616 := by rw [← hm, Int.mul_comm (pw s)]; exact Int.mul_le_mul_of_nonneg_left (by omega) (by omega)
  rw [Int.mul_add] at hb
  have h0 : 0 ≤ pw (64 - s) * (y % pw s) := Int.mul_nonneg (by omega) g0
  have hd := Int.emod_add_mul_ediv x (pw s)
  refine ⟨by omega, by unfold W; omega, ?_⟩
  have hW : W = pw s * pw (64 - s) := hm.symm
  rw [hW]
  generalize pw s = p at *
  generalize pw (64 - s) = q at *
  generalize y % p = a at *
  generalize x / p = b at *
  generalize x % p = d at *
  grind
theorem shl_step {X zs : List Int} {k : Nat} {P ov v ov' : Int} (hk : k < zs.length) (e : v + W * ov' = P * dig X k + ov)
    (h : vf W (dig zs) k + ov * W ^ k = P * vf W (dig X) k) : vf W (dig (zs.set k v)) (k + 1) + ov' * W ^ (k + 1) = P * vf W (dig X) (k + 1) := by
  rw [vf_set hk]
  simp only [vf]
  rw [Int.pow_succ]
  generalize vf W (dig zs) k = a at *
  generalize vf W (dig X) k = x at *
  generalize W ^ k = p at *
  generalize dig X k = d at *
  grind
theorem shr_step {X zs : List Int} {k : Nat} {P v r0 r1 r : Int} (hk : k < zs.length) (e : P * v = dig X k - r0 + W * r1)
    (h : P * vf W (dig zs) k = vf W (dig X) k + r0 * W ^ k - r) : P * vf W (dig (zs.set k v)) (k + 1) = vf W (dig X) (k + 1) + r1 * W ^ (k + 1) - r := by
  rw [vf_set hk]
  simp only [vf]
  rw [Int.pow_succ]
  generalize vf W (dig zs) k = a at *
  generalize vf W (dig X) k = x at *
  generalize W ^ k = p at *
  generalize dig X k = d at *
  grind
def ShlR (X : List Int) (n s : Nat) (w : World) (o i : Value) (wr : World) : Prop :=
  ∃ (k : Nat) (zs : List Int) (ov : Int), k ≤ n ∧ i = .int .i64 k ∧ o = .int .u64 ov ∧ 0 ≤ ov ∧ ov < pw s ∧ Row wr w.heap.size 45 .u64 zs ∧ zs.length = n + 1 ∧ Dig W zs ∧
    vf W (dig zs) k + ov * W ^ k = pw s * vf W (dig X) k ∧ Below w.heap.size w wr
def ShlP (X : List Int) (n s : Nat) (w : World) (e : Ending) (w' : World) : Prop :=
  ∃ zs : List Int, e = .returned (.slice (some ⟨w.heap.size, 0, none⟩) (n + 1) (n + 1)) ∧ Row w' w.heap.size 45 .u64 zs ∧ zs.length = n + 1 ∧ Dig W zs ∧ vf W (dig zs) (n + 1) = pw s * vf W (dig X) n ∧ Below w.heap.size w w'
theorem pw_lt {s : Nat} (hs : s < 64) : pw s < W := by
  have := pw_mul (Nat.le_of_lt hs)
  have h1 := pw_pos s
  have h2 : 2 ≤ pw (64 - s) := by
    have h3 := pow_mono (b := 2) (by decide) (show 1 ≤ 64 - s by omega)
    unfold pw; omega
  have h4 := Int.mul_le_mul_of_nonneg_left h2 (show 0 ≤ pw s by omega)
  unfold W; omega
set_option maxHeartbeats 1000000 in
theorem shiftLeft_any {A : Option Addr} {n c : Nat} {X : List Int} {w : World} (h : Rd .u64 w A n X) (hd : Dig W X) (hn : n ≤ 64) (s : Nat) (hs : s < 64) :
    Calls Tryd.prog 75 #[.slice A n c, .int .i64 s] w (ShlP X n s w) := by
  have hmk := fun W => run_make64 (n + 1) (C := (n : Int) + 1) (by omega) (by omega) W
  obtain ⟨Z, hZ⟩ : ∃ Z : List Int, Z = List.replicate (n + 1) 0 := ⟨_, rfl⟩
  rw [← hZ] at hmk
  have HZ := Lib.hid hZ
  clear hZ
  go_enter Tryd.func75, Tryd.ntmps75
  go_wp2_with fail
  clear hmk
  go_loopw [6, 14] (fun o i wr => ShlR X n s w o i wr) (fun _ i _ => n - (intOf i).toNat)
  case atStart =>
    exact ⟨0, Z, 0, Nat.zero_le _, rfl, rfl, Int.le_refl _, pw_pos s, Row.new _ _ _ _, by rw [HZ.out]; simp, by rw [HZ.out]; intro x hx; simp at hx; subst hx; exact ⟨by decide, by decide⟩, by simp [vf], (Below.refl _ _).alloc (Nat.le_refl _) _⟩
  case round =>
    obtain ⟨k, zs, ov, hk, rfl, rfl, o0, o1, hrow, hlen, hzd, hv, hb⟩ := hrel
    have HV := Lib.hid hv
    clear hv
    have HLEN := Lib.hid hlen
    have hf := hrow.frozen k
    have hc := hrow.cell (getElem?_dig (show k < zs.length by omega))
    clear hlen
    have hs1 : (0 : Int) ≤ s := by omega
    have hs2 : (s : Int) < 64 := by omega
    rcases Nat.lt_or_ge k n with hlt | hge
    · obtain ⟨b, off, x, rfl, hbb, hx, hcell0⟩ := h.at_ hlt
      have hcell := (hb.cell (p := ⟨b, off + k, none⟩) hbb).trans hcell0
      clear hcell0
      have d1 := dig_W hd k
      have hxe := dig_lt hx
      rw [hxe] at d1
      have HX := Lib.hid hxe
      clear hx hxe
      have HB := Lib.hid (shl_or (s := s) (by omega) d1.1 d1.2 o0 o1)
      go_wp2
      go_roundw
      case rel => exact ⟨k + 1, _, _, by omega, by go_num, rfl, HB.out.2.2.1, HB.out.2.2.2.1, hrow.set _ _, by simpa using HLEN.out, hzd.set HB.out.1 HB.out.2.1 _, shl_step (by have := HLEN.out; omega) (by rw [HX.out]; exact HB.out.2.2.2.2) HV.out, hb.setCell (Nat.le_refl _) _⟩
      case measure => simp [intOf]; omega
    · obtain rfl : k = n := by omega
      have o2 := pw_lt hs
      go_wp2
      go_ret
      exact ⟨_, rfl, hrow.set _ _, by simpa using HLEN.out, hzd.set o0 (by omega) _, by rw [vf_set (by have := HLEN.out; omega)]; exact HV.out, hb.setCell (Nat.le_refl _) _⟩
def ShrR (X : List Int) (n s : Nat) (w : World) (i : Value) (wr : World) : Prop :=
  ∃ (k : Nat) (zs : List Int), k ≤ n ∧ i = .int .i64 k ∧ Row wr w.heap.size 45 .u64 zs ∧ zs.length = n ∧ Dig W zs ∧
    pw s * vf W (dig zs) k = vf W (dig X) k + (dig X k % pw s) * W ^ k - dig X 0 % pw s ∧ Below w.heap.size w wr
def ShrP (X : List Int) (n s : Nat) (w : World) (e : Ending) (w' : World) : Prop :=
  ∃ zs : List Int, e = .returned (.slice (some ⟨w.heap.size, 0, none⟩) n n) ∧ Row w' w.heap.size 45 .u64 zs ∧ zs.length = n ∧ Dig W zs ∧ pw s * vf W (dig zs) n = vf W (dig X) n - dig X 0 % pw s ∧ Below w.heap.size w w'
set_option maxHeartbeats 2000000 in
theorem shiftRight_any {A : Option Addr} {n c : Nat} {X : List Int} {w : World} (h : Rd .u64 w A n X) (hd : Dig W X) (hn : n ≤ 64) (s : Nat) (hs : s < 64) :
    Calls Tryd.prog 77 #[.slice A n c, .int .i64 s] w (ShrP X n s w) := by
  have hmk := fun W => run_make64 n (C := (n : Int)) (by omega) (by omega) W
  obtain ⟨Z, hZ⟩ : ∃ Z : List Int, Z = List.replicate n 0 := ⟨_, rfl⟩
  rw [← hZ] at hmk
  have HZ := Lib.hid hZ
  clear hZ
  go_enter Tryd.func77, Tryd.ntmps77
  go_wp2_with fail
  clear hmk
  go_loopw [12] (fun i wr => ShrR X n s w i wr) (fun i _ => n - (intOf i).toNat)
  case atStart =>
    exact ⟨0, Z, Nat.zero_le _, rfl, Row.new _ _ _ _, by rw [HZ.out]; simp, by rw [HZ.out]; intro x hx; simp at hx; rw [hx.2]; exact ⟨by decide, by decide⟩, by simp [vf], (Below.refl _ _).alloc (Nat.le_refl _) _⟩
  case round =>
    obtain ⟨k, zs, hk, rfl, hrow, hlen, hzd, hv, hb⟩ := hrel
    have HV := Lib.hid hv
    clear hv
    have HLEN := Lib.hid hlen
    have hs1 : (0 : Int) ≤ s := by omega
    have hs2 : (s : Int) < 64 := by omega
    rcases Nat.lt_or_ge k n with hlt | hge
    · have hf := hrow.frozen k
      have hc := hrow.cell (getElem?_dig (show k < zs.length by omega))
      clear hlen
      have hX := h.below hb
      obtain ⟨b, off, x, rfl, hbb, hx, hcell⟩ := hX.at_ hlt
      have d1 := dig_W hd k
      have hxe := dig_lt hx
      rw [hxe] at d1
      have HX := Lib.hid hxe
      clear hx hxe
      have HB := Lib.hid (shr_or (s := s) (y := dig X (k + 1)) (by omega) d1.1 d1.2)
      have e1 : IntKind.i64.wrap ((k : Int) + 1) = (k : Int) + 1 := IntWalk.i64_in _ (by omega)
      have e2 : (64 - (s : Int)).toNat = 64 - s := by omega
      have e3 : IntKind.i64.wrap (64 - (s : Int)) = 64 - (s : Int) := IntWalk.i64_in _ (by omega)
      have hkn : (k : Int) < (n : Int) := by omega
      go_wp2_with fail
      go_region_with (go_at_call 87; refine (limbAt_any _ n c X (k + 1) _ ?_).mono ?_; exact hX.drew; rintro e w1 ⟨rfl, rfl⟩)
      all_goals
        go_wp2
        go_roundw
        case rel => exact ⟨k + 1, _, by omega, by go_num, (hrow.set _ _).drew, by simpa using HLEN.out, hzd.set HB.out.1 HB.out.2.1 _, shr_step (by have := HLEN.out; omega) (by rw [HX.out]; exact HB.out.2.2) HV.out, (hb.setCell (Nat.le_refl _) _).drew⟩
        case measure => simp [intOf]; omega
    · obtain rfl : k = n := by omega
      go_wp2
      go_ret
      exact ⟨_, rfl, hrow, HLEN.out, hzd, by rw [HV.out, dig_ge (Nat.le_of_eq h.len)]; simp, hb⟩
end Go.Proofs.YtjalncdllegfoaaDoor
/-
  What bits.Div64 answers where the divisor's highest bit is set: the quotient.
-/
namespace Go.Proofs.YtjalncdllegfoaaDoor
open Go.RowKit
set_option linter.unusedVariables false
theorem bitLen_top {x : Nat} (h0 : 9223372036854775808 ≤ x) (h1 : x < 18446744073709551616) : Lib.bitLen x = 64 := by
  have h := Lib.bitLen_shift 63 x (by omega) (by omega)
  have e : x / 2 ^ 63 = 1 := by omega
  rw [h, e]; decide
theorem lz64_top (x : Int) (w : World) (h0 : 9223372036854775808 ≤ x) (h1 : x < 18446744073709551616) :
    Calls Tryd.prog 74 #[.int .u64 x] w fun e w' => e = .returned (.int .i64 0) ∧ w = w' := by
  refine (lz64 x w (by omega) h1).mono fun e w' ⟨he, hw⟩ => ⟨?_, hw⟩
  subst he
  rw [bitLen_top (x := x.toNat) (by omega) (by omega)]; rfl
/-! ### A digit of a quotient, guessed and made less -/
section
variable {u d y1 y0 a t : Int}
theorem dq_init (u0 : 0 ≤ u) (uy : u < y1 * 4294967296 + y0) (d0 : 0 ≤ d) (d1 : d < 4294967296) (ya : 2147483648 ≤ y1) (yb : y1 < 4294967296) (za : 0 ≤ y0) (zb : y0 < 4294967296) :
    0 ≤ u / y1 ∧ u / y1 ≤ 4294967297 ∧ 0 ≤ u - u / y1 * y1 ∧ u - u / y1 * y1 < 4294967296 ∧ u * 4294967296 + d < (u / y1 + 1) * (y1 * 4294967296 + y0) := by
  have hd := Int.emod_add_mul_ediv u y1
  have m0 := Int.emod_nonneg u (show y1 ≠ 0 by omega)
  have m1 := Int.emod_lt_of_pos u (show 0 < y1 by omega)
  have q0 := Int.ediv_nonneg u0 (show 0 ≤ y1 by omega)
  rw [Int.mul_comm y1] at hd
  have q1 : u / y1 < 4294967298 := Int.ediv_lt_of_lt_mul (by omega) (by omega)
  refine ⟨q0, by omega, by omega, by omega, ?_⟩
  have e1 : (u / y1 + 1) * (y1 * 4294967296 + y0) = (u / y1 * y1 + y1) * 4294967296 + (u / y1 + 1) * y0 := by grind
  have e2 : 0 ≤ (u / y1 + 1) * y0 := Int.mul_nonneg (by omega) za
  rw [e1]
  omega
theorem dq_over (uy : u < y1 * 4294967296 + y0) (d1 : d < 4294967296) (ya : 2147483648 ≤ y1) (za : 0 ≤ y0) (ha : 4294967296 ≤ a) : u * 4294967296 + d < a * (y1 * 4294967296 + y0) := by
  have : 4294967296 * (y1 * 4294967296 + y0) ≤ a * (y1 * 4294967296 + y0) := Int.mul_le_mul_of_nonneg_right ha (by omega)
  omega
theorem dq_test (e : a * y1 + t = u) (h : 4294967296 * t + d < a * y0) : u * 4294967296 + d < a * (y1 * 4294967296 + y0) := by
  have e1 : a * (y1 * 4294967296 + y0) = a * y1 * 4294967296 + a * y0 := by grind
  rw [e1]; omega
theorem dq_exit (e : a * y1 + t = u) (h : a * y0 ≤ 4294967296 * t + d) : a * (y1 * 4294967296 + y0) ≤ u * 4294967296 + d := by
  have e1 : a * (y1 * 4294967296 + y0) = a * y1 * 4294967296 + a * y0 := by grind
  rw [e1]; omega
theorem dq_break (e : a * y1 + t = u) (d0 : 0 ≤ d) (za : 0 ≤ y0) (zb : y0 < 4294967296) (ha : a ≤ 4294967296) (a0 : 0 ≤ a) (ht : 4294967296 ≤ t) : a * (y1 * 4294967296 + y0) ≤ u * 4294967296 + d := by
  apply dq_exit e
  have : a * y0 ≤ 4294967296 * 4294967295 := Int.mul_le_mul ha (by omega) za (by decide)
  omega
theorem dq_lt {Y n : Int} (h : a * Y ≤ n) (hn : n < Y * 4294967296) (hY : 0 < Y) : a < 4294967296 := by
  rcases Int.lt_or_le a 4294967296 with g | g
  · exact g
  · have := Int.mul_le_mul_of_nonneg_right g (show 0 ≤ Y by omega)
    omega
end
def DqR (u d y1 y0 : Int) (q r : Value) : Prop :=
  ∃ a t : Int, q = .int .u64 a ∧ r = .int .u64 t ∧ 0 ≤ a ∧ a ≤ 4294967297 ∧ 0 ≤ t ∧ t < 4294967296 ∧ a * y1 + t = u ∧ u * 4294967296 + d < (a + 1) * (y1 * 4294967296 + y0)
/-- The digit. -/
def DqP (u d y1 y0 : Int) (w : World) (q : Value) (w' : World) : Prop :=
  ∃ a : Int, q = .int .u64 a ∧ 0 ≤ a ∧ a < 4294967296 ∧ a * (y1 * 4294967296 + y0) ≤ u * 4294967296 + d ∧ u * 4294967296 + d < (a + 1) * (y1 * 4294967296 + y0) ∧ w = w'
def QAns (q : Int) (w : World) (e : Ending) (w' : World) : Prop := (∃ r, e = .returned (.tuple #[.int .u64 q, .int .u64 r])) ∧ ∃ m, w' = w.drewN m
theorem and_mask {a : Int} (h0 : 0 ≤ a) (h1 : a < 18446744073709551616) : bits .and .u64 a 4294967295 = a % 4294967296 := by
  obtain ⟨a, rfl⟩ := Int.eq_ofNat_of_zero_le h0
  have h := bits_and_u64_nat a 4294967295 (by omega) (by omega)
  have e : a &&& 4294967295 = a % 4294967296 := Nat.and_two_pow_sub_one_eq_mod a 32
  rw [e] at h
  exact h
theorem or_none {a b : Int} (h0 : 0 ≤ a) (h1 : a < 18446744073709551616) (hb : b = 0) : bits .or .u64 a b = a := by
  subst hb
  obtain ⟨a, rfl⟩ := Int.eq_ofNat_of_zero_le h0
  have h := bits_or_u64_nat a 0 (by omega) (by omega)
  simpa using h
theorem rest_mod {u d p : Int} (d0 : 0 ≤ d) (d1 : d < 4294967296) (h0 : 0 ≤ u * 4294967296 + d - p) (h1 : u * 4294967296 + d - p < 18446744073709551616) :
    IntKind.u64.wrap (IntKind.u64.wrap (IntKind.u64.wrap (u * 4294967296) + d) - IntKind.u64.wrap p) = u * 4294967296 + d - p := by
  simp only [IntKind.wrap_u64]
  omega
theorem quot_two {hi lo y yh yl lh ll q1 q0 u2 : Int} (ey : y = yh * 4294967296 + yl) (el : lo = lh * 4294967296 + ll) (hu : hi * 4294967296 + lh - q1 * y = u2)
    (h0 : q0 * (yh * 4294967296 + yl) ≤ u2 * 4294967296 + ll) (h1 : u2 * 4294967296 + ll < (q0 + 1) * (yh * 4294967296 + yl)) (hy : 0 < y) : (hi * W + lo) / y = q1 * 4294967296 + q0 := by
  rw [← ey] at h0 h1
  have e : hi * W + lo = (u2 * 4294967296 + ll - q0 * y) + y * (q1 * 4294967296 + q0) := by
    have hW : W = 4294967296 * 4294967296 := by decide
    rw [hW, el, ← hu]; grind
  rw [e, Int.add_mul_ediv_left _ _ (by omega), Int.ediv_eq_zero_of_lt (by omega) (by rw [Int.add_mul] at h1; omega)]
  simp
set_option maxHeartbeats 4000000 in
theorem div64_any (hi lo y : Int) (w : World) (h0 : 0 ≤ hi) (h1 : hi < y) (l0 : 0 ≤ lo) (l1 : lo < 18446744073709551616) (y0 : 9223372036854775808 ≤ y) (y1 : y < 18446744073709551616) :
    Calls Tryd.prog 98 #[.int .u64 hi, .int .u64 lo, .int .u64 y] w (QAns ((hi * W + lo) / y) w) := by
  by_cases hz : hi = 0
  · subst hz
    have e0 : (0 * W + lo) / y = lo / y := by simp
    rw [e0]
    clear e0
    have yn : (y == 0) = false := by simp; omega
    go_enter Tryd.func98, Tryd.ntmps98
    go_wp2_with fail
    go_quiet (fail)
    go_wp2
    go_ret2
    exact ⟨⟨_, rfl⟩, _, rfl⟩
  · have hne : (hi == 0) = false := by simpa using hz
    have hp : 1 ≤ hi := by omega
    clear hz
    obtain ⟨yh, hyh⟩ : ∃ v, y / 4294967296 = v := ⟨_, rfl⟩
    obtain ⟨yl, hyl⟩ : ∃ v, y % 4294967296 = v := ⟨_, rfl⟩
    obtain ⟨lh, hlh⟩ : ∃ v, lo / 4294967296 = v := ⟨_, rfl⟩
    obtain ⟨ll, hll⟩ : ∃ v, lo % 4294967296 = v := ⟨_, rfl⟩
    have hyl' : bits .and .u64 y 4294967295 = yl := by rw [and_mask (by omega) y1]; exact hyl
    have hll' : bits .and .u64 lo 4294967295 = ll := by rw [and_mask l0 l1]; exact hll
    have hor : bits .or .u64 hi (lo / 18446744073709551616) = hi := or_none h0 (by omega) (by omega)
    have b1 : 2147483648 ≤ yh := by omega
    have b2 : yh < 4294967296 := by omega
    have b3 : 0 ≤ yl := by omega
    have b4 : yl < 4294967296 := by omega
    have b5 : 0 ≤ lh := by omega
    have b6 : lh < 4294967296 := by omega
    have b7 : 0 ≤ ll := by omega
    have b8 : ll < 4294967296 := by omega
    have ey : y = yh * 4294967296 + yl := by omega
    have el : lo = lh * 4294967296 + ll := by omega
    have EY := Lib.hid ey
    have EL := Lib.hid el
    clear ey el hyl hll
    have hI := dq_init (u := hi) (d := lh) h0 (by rw [← EY.out]; exact h1) b5 b6 b1 b2 b3 b4
    obtain ⟨a0, ha0⟩ : ∃ v, hi / yh = v := ⟨_, rfl⟩
    obtain ⟨p0, hp0⟩ : ∃ v, a0 * yh = v := ⟨_, rfl⟩
    rw [ha0] at hI
    rw [hp0] at hI
    obtain ⟨i1, i2, i3, i4, i5⟩ := hI
    have HI5 := Lib.hid i5
    clear i5
    have hp1 : 0 ≤ p0 := by rw [← hp0]; exact Int.mul_nonneg i1 (by omega)
    have HP0 := Lib.hid hp0
    have HA0 := Lib.hid ha0
    have HUY := Lib.hid (show hi < yh * 4294967296 + yl by rw [← EY.out]; exact h1)
    go_enter Tryd.func98, Tryd.ntmps98
    go_wp2_with fail
    refine (lz64_top y _ y0 y1).mono ?_
    rintro e w1 ⟨rfl, rfl⟩
    go_upto_block 0 with fail
    clear hp0 ha0 hyl' hll' hor hyh hlh
    go_cut [15] (fun q wx => DqP hi lh yh yl w q wx)
    case first =>
      go_wp2_with fail
      go_loop [15, 16] (fun q r => DqR hi lh yh yl q r) (fun q _ => (intOf q).toNat)
      case atStart => exact ⟨_, _, rfl, rfl, by first | exact i1 | (rw [HA0.out]; exact i1), by first | exact i2 | (rw [HA0.out]; exact i2), i3, i4, by first | (rw [HA0.out, HP0.out]; omega) | (rw [HP0.out]; omega), by first | exact HI5.out | (rw [HA0.out]; exact HI5.out)⟩
      case round =>
        obtain ⟨a, t, rfl, rfl, a0', a1', t0, t1, et, hlt⟩ := hrel
        have ET := Lib.hid et
        have HLT := Lib.hid hlt
        clear et hlt
        by_cases ha : a < 4294967296
        · obtain ⟨p, hp⟩ : ∃ v, a * yl = v := ⟨_, rfl⟩
          have pa : 0 ≤ p := by rw [← hp]; exact Int.mul_nonneg a0' b3
          have pb : p < 18446744073709551616 := by
            have := Int.mul_le_mul (show a ≤ 4294967295 by omega) (show yl ≤ 4294967295 by omega) b3 (by decide)
            rw [hp] at this; omega
          have HPP := Lib.hid hp
          by_cases hc : 4294967296 * t + lh < p
          · have hu := dq_test (y0 := yl) ET.out (by rw [HPP.out]; exact hc)
            have HU := Lib.hid hu
            clear hu
            have ap : 1 ≤ a := by
              rcases Int.lt_or_le 0 a with g | g
              · omega
              · have : a = 0 := by omega
                rw [← HPP.out, this] at hc; simp at hc; omega
            by_cases hb : 4294967296 ≤ t + yh
            · go_wp2_with fail
              go_meet
              have e2 : (a - 1) * yh + (t + yh) = hi := by have := ET.out; rw [Int.sub_mul]; omega
              have f := dq_break (y0 := yl) e2 b5 b3 b4 (by omega) (by omega) hb
              exact ⟨_, rfl, by omega, dq_lt f (by have := HUY.out; omega) (by omega), f, by rw [Int.sub_add_cancel]; exact HU.out, rfl⟩
            · go_wp2_with fail
              go_round
              case rel => exact ⟨_, _, rfl, rfl, by omega, by omega, by omega, by omega, by have := ET.out; rw [Int.sub_mul]; omega, by rw [Int.sub_add_cancel]; exact HU.out⟩
              case measure => simp [intOf]; omega
          · have hc' : p ≤ 4294967296 * t + lh := by omega
            have f := dq_exit (y0 := yl) (d := lh) ET.out (by rw [HPP.out]; exact hc')
            have FF := Lib.hid f
            clear f hc
            go_wp2_with fail
            go_meet
            exact ⟨a, rfl, a0', ha, FF.out, HLT.out, rfl⟩
        · have ha' : 4294967296 ≤ a := by omega
          have hu := dq_over (u := hi) (d := lh) (y1 := yh) (y0 := yl) (by have := HUY.out; omega) b6 b1 b3 ha'
          have HU := Lib.hid hu
          clear hu ha
          by_cases hb : 4294967296 ≤ t + yh
          · go_wp2_with fail
            go_meet
            have e2 : (a - 1) * yh + (t + yh) = hi := by have := ET.out; rw [Int.sub_mul]; omega
            have f := dq_break (y0 := yl) e2 b5 b3 b4 (by omega) (by omega) hb
            exact ⟨_, rfl, by omega, dq_lt f (by have := HUY.out; omega) (by omega), f, by rw [Int.sub_add_cancel]; exact HU.out, rfl⟩
          · go_wp2_with fail
            go_round
            case rel => exact ⟨_, _, rfl, rfl, by omega, by omega, by omega, by omega, by have := ET.out; rw [Int.sub_mul]; omega, by rw [Int.sub_add_cancel]; exact HU.out⟩
            case measure => simp [intOf]; omega
    case rest =>
      obtain ⟨q1, rfl, q1a, q1b, q1c, q1d, rfl⟩ := hcut
      have Q1C := Lib.hid q1c
      have Q1D := Lib.hid q1d
      clear q1c q1d
      have hq := Q1C.out
      have hq' := Q1D.out
      rw [← EY.out] at hq hq'
      rw [Int.add_mul] at hq'
      obtain ⟨u2, hu2⟩ : ∃ v, hi * 4294967296 + lh - q1 * y = v := ⟨_, rfl⟩
      have hw := rest_mod (u := hi) (d := lh) (p := q1 * y) b5 b6 (by omega) (by omega)
      rw [hu2] at hw
      have u0 : 0 ≤ u2 := by omega
      have u1 : u2 < y := by omega
      have HU2 := Lib.hid hu2
      clear hq hq' hu2
      have hJ := dq_init (u := u2) (d := ll) u0 (by rw [← EY.out]; exact u1) b7 b8 b1 b2 b3 b4
      obtain ⟨a2, ha2⟩ : ∃ v, u2 / yh = v := ⟨_, rfl⟩
      obtain ⟨p2, hp2⟩ : ∃ v, a2 * yh = v := ⟨_, rfl⟩
      rw [ha2] at hJ
      rw [hp2] at hJ
      obtain ⟨j1, j2, j3, j4, j5⟩ := hJ
      have HJ5 := Lib.hid j5
      clear j5
      have hp3 : 0 ≤ p2 := by rw [← hp2]; exact Int.mul_nonneg j1 (by omega)
      have HP2 := Lib.hid hp2
      have HA2 := Lib.hid ha2
      have HUY2 := Lib.hid (show u2 < yh * 4294967296 + yl by rw [← EY.out]; exact u1)
      go_upto_block 2 with fail
      clear hw ha2 hp2
      go_cut [18] (fun q wx => DqP u2 ll yh yl w q wx)
      case first =>
        go_wp2_with fail
        go_loop [18, 16] (fun q r => DqR u2 ll yh yl q r) (fun q _ => (intOf q).toNat)
        case atStart => exact ⟨_, _, rfl, rfl, by first | exact j1 | (rw [HA2.out]; exact j1), by first | exact j2 | (rw [HA2.out]; exact j2), j3, j4, by first | (rw [HA2.out, HP2.out]; omega) | (rw [HP2.out]; omega), by first | exact HJ5.out | (rw [HA2.out]; exact HJ5.out)⟩
        case round =>
          obtain ⟨a, t, rfl, rfl, a0', a1', t0, t1, et, hlt⟩ := hrel
          have ET := Lib.hid et
          have HLT := Lib.hid hlt
          clear et hlt
          by_cases ha : a < 4294967296
          · obtain ⟨p, hp⟩ : ∃ v, a * yl = v := ⟨_, rfl⟩
            have pa : 0 ≤ p := by rw [← hp]; exact Int.mul_nonneg a0' b3
            have pb : p < 18446744073709551616 := by
              have := Int.mul_le_mul (show a ≤ 4294967295 by omega) (show yl ≤ 4294967295 by omega) b3 (by decide)
              rw [hp] at this; omega
            have HPP := Lib.hid hp
            by_cases hc : 4294967296 * t + ll < p
            · have hu := dq_test (y0 := yl) ET.out (by rw [HPP.out]; exact hc)
              have HU := Lib.hid hu
              clear hu
              have ap : 1 ≤ a := by
                rcases Int.lt_or_le 0 a with g | g
                · omega
                · have : a = 0 := by omega
                  rw [← HPP.out, this] at hc; simp at hc; omega
              by_cases hb : 4294967296 ≤ t + yh
              · go_wp2_with fail
                go_meet
                have e2 : (a - 1) * yh + (t + yh) = u2 := by have := ET.out; rw [Int.sub_mul]; omega
                have f := dq_break (y0 := yl) e2 b7 b3 b4 (by omega) (by omega) hb
                exact ⟨_, rfl, by omega, dq_lt f (by have := HUY2.out; omega) (by omega), f, by rw [Int.sub_add_cancel]; exact HU.out, rfl⟩
              · go_wp2_with fail
                go_round
                case rel => exact ⟨_, _, rfl, rfl, by omega, by omega, by omega, by omega, by have := ET.out; rw [Int.sub_mul]; omega, by rw [Int.sub_add_cancel]; exact HU.out⟩
                case measure => simp [intOf]; omega
            · have hc' : p ≤ 4294967296 * t + ll := by omega
              have f := dq_exit (y0 := yl) (d := ll) ET.out (by rw [HPP.out]; exact hc')
              have FF := Lib.hid f
              clear f hc
              go_wp2_with fail
              go_meet
              exact ⟨a, rfl, a0', ha, FF.out, HLT.out, rfl⟩
          · have ha' : 4294967296 ≤ a := by omega
            have hu := dq_over (u := u2) (d := ll) (y1 := yh) (y0 := yl) (by have := HUY2.out; omega) b8 b1 b3 ha'
            have HU := Lib.hid hu
            clear hu ha
            by_cases hb : 4294967296 ≤ t + yh
            · go_wp2_with fail
              go_meet
              have e2 : (a - 1) * yh + (t + yh) = u2 := by have := ET.out; rw [Int.sub_mul]; omega
              have f := dq_break (y0 := yl) e2 b7 b3 b4 (by omega) (by omega) hb
              exact ⟨_, rfl, by omega, dq_lt f (by have := HUY2.out; omega) (by omega), f, by rw [Int.sub_add_cancel]; exact HU.out, rfl⟩
            · go_wp2_with fail
              go_round
              case rel => exact ⟨_, _, rfl, rfl, by omega, by omega, by omega, by omega, by have := ET.out; rw [Int.sub_mul]; omega, by rw [Int.sub_add_cancel]; exact HU.out⟩
              case measure => simp [intOf]; omega
      case rest =>
        obtain ⟨q0, rfl, q0a, q0b, q0c, q0d, rfl⟩ := hcut
        have fin := quot_two EY.out EL.out HU2.out q0c q0d (by omega)
        have FIN := Lib.hid fin
        clear fin q0c q0d
        go_wp2
        go_ret2
        exact ⟨⟨_, by rw [FIN.out]; rfl⟩, 0, rfl⟩
end Go.Proofs.YtjalncdllegfoaaDoor
/-
  A digit of a quotient: guessDigit, takeDigit.
-/
namespace Go.Proofs.YtjalncdllegfoaaDoor
open Go.RowKit
set_option linter.unusedVariables false
/-- The guess. -/
def gss (high low top : Int) : Int := if top ≤ high then 18446744073709551615 else (high * W + low) / top
theorem guess_any (high low top : Int) (w : World) (h0 : 0 ≤ high) (h1 : high < 18446744073709551616) (l0 : 0 ≤ low) (l1 : low < 18446744073709551616) (t0 : 9223372036854775808 ≤ top) (t1 : top < 18446744073709551616) :
    Calls Tryd.prog 90 #[.int .u64 high, .int .u64 low, .int .u64 top] w fun e w' => e = .returned (.int .u64 (gss high low top)) ∧ ∃ m, w' = w.drewN m := by
  unfold gss
  by_cases h : top ≤ high
  · rw [if_pos h]
    go_enter Tryd.func90, Tryd.ntmps90
    go_wp2
    go_ret
    exact ⟨rfl, 0, rfl⟩
  · rw [if_neg h]
    have h' : high < top := by omega
    clear h
    go_enter Tryd.func90, Tryd.ntmps90
    go_wp2_with fail
    refine (div64_any high low top _ h0 h' l0 l1 t0 t1).mono ?_
    rintro e w1 ⟨⟨r, rfl⟩, m, rfl⟩
    go_wp2
    go_ret
    exact ⟨rfl, m, rfl⟩
theorem gss_bd {high low top : Int} (h0 : 0 ≤ high) (l0 : 0 ≤ low) (l1 : low < 18446744073709551616) (t0 : 9223372036854775808 ≤ top) : 0 ≤ gss high low top ∧ gss high low top < 18446744073709551616 := by
  unfold gss
  split
  · exact ⟨by decide, by decide⟩
  · have hW : W = 18446744073709551616 := rfl
    have : 0 ≤ high * W + low := by rw [hW]; omega
    refine ⟨Int.ediv_nonneg this (by omega), Int.ediv_lt_of_lt_mul (by omega) ?_⟩
    rw [hW]; omega
/-- The guess isn't too small. -/
theorem gss_ge {high low top u v : Int} {p : Int} (hp : 0 < p) (h0 : 0 ≤ high) (l0 : 0 ≤ low) (t0 : 9223372036854775808 ≤ top) (hu : u < (high * W + low + 1) * p) (hv : top * p ≤ v) (huv : u < W * v) : u < (gss high low top + 1) * v := by
  have hb : (0 : Int) ≤ gss high low top + 1 := by
    unfold gss
    split
    · decide
    · have : 0 ≤ (high * W + low) / top := Int.ediv_nonneg (by have : W = 18446744073709551616 := rfl; rw [this]; omega) (by omega)
      omega
  have h2 : (gss high low top + 1) * (top * p) ≤ (gss high low top + 1) * v := Int.mul_le_mul_of_nonneg_left hv hb
  unfold gss at *
  split
  · have : W = 18446744073709551615 + 1 := by decide
    rw [this] at huv; exact huv
  · rename_i hc
    rw [if_neg hc] at h2
    have h1 : high * W + low + 1 ≤ ((high * W + low) / top + 1) * top := by
      have := Int.lt_ediv_add_one_mul_self (high * W + low) (show 0 < top by omega)
      omega
    have h3 := Int.mul_le_mul_of_nonneg_right h1 (show 0 ≤ p by omega)
    rw [Int.mul_assoc] at h3
    omega

theorem Turned.widen {w w' : World} {g off n m : Nat} {zs ys : List Int} (h : Turned w w' g off n zs ys) (hm : n ≤ m) : Turned w w' g off m zs ys := ⟨h.row, h.len, h.dig_, fun j hj => h.rest j (by omega), h.grown⟩
theorem Turned.trans {a b c : World} {g off n : Nat} {zs ys xs : List Int} (h : Turned a b g off n zs ys) (k : Turned b c g off n ys xs) : Turned a c g off n zs xs :=
  ⟨k.row, k.len.trans h.len, k.dig_, fun j hj => (k.rest j hj).trans (h.rest j hj), grown_trans h.grown k.grown⟩
theorem Turned.drewN {w w' : World} {g off n : Nat} {zs ys : List Int} (h : Turned w w' g off n zs ys) (m : Nat) : Turned w (w'.drewN m) g off n zs ys := ⟨h.row.drewN m, h.len, h.dig_, h.rest, grown_drewN h.grown m⟩
theorem Turned.put {w w' : World} {g off n i : Nat} {zs ys : List Int} (h : Turned w w' g off n zs ys) {v : Int} (h0 : 0 ≤ v) (h1 : v < W) (h2 : off ≤ i) (h3 : i < off + n) : Turned w (w'.setCell ⟨g, i, none⟩ (.int .u64 v)) g off n zs (ys.set i v) :=
  ⟨h.row.set _ _, by simpa using h.len, h.dig_.set h0 h1 _, fun j hj => by rw [dig_set_ne (by omega)]; exact h.rest j hj, grown_setCell h.grown _ _⟩
theorem wv_put {zs : List Int} {off n : Nat} (hk : off + n < zs.length) (v : Int) : wv (zs.set (off + n) v) off n = wv zs off n :=
  wv_congr (fun j _ h2 => dig_set_ne (by omega))

theorem quiet_any {P : Program} {f : FuncId} {args : Array Value} {w : World} {n : Nat} {v : Value}
    (h : Calls P f args (w.drewN n) fun e w' => e = .returned v ∧ ∃ m, w' = (w.drewN n).drewN m) : Calls P f args (w.drewN n) fun e w'' => e = .returned v ∧ ∃ m, w'' = w.drewN m :=
  h.mono fun _ _ ⟨he, m, hm⟩ => ⟨he, n + m, by rw [hm, World.drewN_drewN]⟩
/-- The guess isn't too small, of a window's two highest digits and the divisor's highest. -/
theorem td_guess {zs Y : List Int} {off n m : Nat} (hm : m + 1 = n) (hzd : Dig W zs) (hYd : Dig W Y) (hlow : wv zs off (n + 1) < W * vf W (dig Y) n) (h1 : 0 ≤ dig zs (off + n)) (h2 : 0 ≤ dig zs (off + m)) (ht : 9223372036854775808 ≤ dig Y m) :
    wv zs off (n + 1) < (gss (dig zs (off + n)) (dig zs (off + m)) (dig Y m) + 1) * vf W (dig Y) n := by
  subst hm
  refine gss_ge (p := W ^ m) (pow_pos' W_two m) h1 h2 ht ?_ ?_ hlow
  · have hb := wv_bd hzd off m
    have e : wv zs off (m + 1 + 1) = wv zs off m + (dig zs (off + (m + 1)) * W + dig zs (off + m)) * W ^ m := by
      rw [wv_succ, wv_succ, Int.pow_succ]; grind
    rw [e, Int.add_mul (dig zs (off + (m + 1)) * W + dig zs (off + m)) 1]
    omega
  · have hb := vf_bd (b := W) (by decide) (fun j => dig_bd (b := W) (by decide) hYd j) m
    simp only [vf]; omega
/-- u[n] and whether it is below: what stands in the window is U less D times V, and W to the n + 1 more where it is below. -/
def TdR (zs Y : List Int) (off n g : Nat) (w : World) (d b : Value) (wr : World) : Prop :=
  ∃ (ys : List Int) (D : Int) (bl : Bool), d = .int .u64 D ∧ b = .bool bl ∧ 0 ≤ D ∧ D < 18446744073709551616 ∧ Turned w wr g off (n + 1) zs ys ∧
    wv zs off (n + 1) < (D + 1) * vf W (dig Y) n ∧ (bl = true → wv zs off (n + 1) < D * vf W (dig Y) n ∧ wv ys off (n + 1) - W ^ (n + 1) = wv zs off (n + 1) - D * vf W (dig Y) n) ∧
    (bl = false → wv ys off (n + 1) = wv zs off (n + 1) - D * vf W (dig Y) n)
def TdP (zs Y : List Int) (off n g : Nat) (w : World) (e : Ending) (w' : World) : Prop :=
  ∃ (ys : List Int) (D : Int), e = .returned (.int .u64 D) ∧ 0 ≤ D ∧ D < 18446744073709551616 ∧ Turned w w' g off (n + 1) zs ys ∧ wv ys off (n + 1) = wv zs off (n + 1) - D * vf W (dig Y) n ∧ wv ys off (n + 1) < vf W (dig Y) n
theorem td_first {zs ys Y : List Int} {off n : Nat} {G over v : Int} (hlen : off + n < ys.length) (he : dig ys (off + n) = dig zs (off + n)) (h : wv ys off n - over * W ^ n = wv zs off n - G * vf W (dig Y) n) :
    wv (ys.set (off + n) v) off (n + 1) = wv zs off (n + 1) - G * vf W (dig Y) n + (v - (dig ys (off + n) - over)) * W ^ n := by
  rw [wv_set hlen, wv_succ, ← he]
  generalize wv ys off n = a at *
  generalize wv zs off n = b at *
  generalize W ^ n = p at *
  generalize vf W (dig Y) n = y at *
  grind
theorem td_back {ys xs Y : List Int} {off n : Nat} {c c' v : Int} (hlen : off + n < xs.length) (he : dig xs (off + n) = dig ys (off + n)) (h : wv xs off n + c * W ^ n = wv ys off n + vf W (dig Y) n) (e : v + W * c' = dig xs (off + n) + 0 + c) :
    wv (xs.set (off + n) v) off (n + 1) + c' * W ^ (n + 1) = wv ys off (n + 1) + vf W (dig Y) n := by
  rw [wv_set hlen, wv_succ, ← he, Int.pow_succ]
  generalize wv xs off n = a at *
  generalize wv ys off n = b at *
  generalize W ^ n = p at *
  generalize vf W (dig Y) n = y at *
  grind
theorem Turned.undrew {w w' : World} {g off n k : Nat} {zs ys : List Int} (h : Turned (w.drewN k) w' g off n zs ys) : Turned w w' g off n zs ys := ⟨h.row, h.len, h.dig_, h.rest, ⟨h.grown.os, h.grown.tape, h.grown.output, h.grown.size, h.grown.block⟩⟩
theorem td_start {zs ys Y : List Int} {off n : Nat} {G over v u1 : Int} (hlen : off + n < ys.length) (hd : Dig W ys) (he : dig ys (off + n) = dig zs (off + n)) (h : wv ys off n - over * W ^ n = wv zs off n - G * vf W (dig Y) n)
    (v0 : 0 ≤ v) (v1 : v < W) (hv : v = (u1 - over) % 18446744073709551616) (hu : dig zs (off + n) = u1) (o0 : 0 ≤ over) (o1 : over < 18446744073709551616) :
    (decide (u1 < over) = true → wv zs off (n + 1) < G * vf W (dig Y) n ∧ wv (ys.set (off + n) v) off (n + 1) - W ^ (n + 1) = wv zs off (n + 1) - G * vf W (dig Y) n) ∧
    (decide (u1 < over) = false → wv (ys.set (off + n) v) off (n + 1) = wv zs off (n + 1) - G * vf W (dig Y) n) := by
  have hf := td_first (v := v) hlen he h
  have hb := wv_bd (hd.set v0 v1 (off + n)) off (n + 1)
  have hy := dig_W hd (off + n)
  rw [he, hu] at hy hf
  have hW : W = 18446744073709551616 := rfl
  constructor
  · intro g
    have g' : u1 < over := of_decide_eq_true g
    have e : v - (u1 - over) = W := by rw [hW]; omega
    rw [e, Int.mul_comm W, ← show W ^ (n + 1) = W ^ n * W from Int.pow_succ _ _] at hf
    omega
  · intro g
    have g' : ¬ u1 < over := of_decide_eq_false g
    have e : v - (u1 - over) = 0 := by omega
    rw [e] at hf
    simpa using hf
theorem td_round {zs ys xs Y : List Int} {off n : Nat} {D c c' v : Int} (hlen : off + n < xs.length) (hd : Dig W xs) (v0 : 0 ≤ v) (v1 : v < W) (he : dig xs (off + n) = dig ys (off + n)) (h : wv xs off n + c * W ^ n = wv ys off n + vf W (dig Y) n) (e : v + W * c' = dig xs (off + n) + 0 + c)
    (hc0 : 0 ≤ c') (hc1 : c' ≤ 1) (hv : wv ys off (n + 1) - W ^ (n + 1) = wv zs off (n + 1) - D * vf W (dig Y) n) :
    ((c' == 0) = true → wv zs off (n + 1) < (D - 1) * vf W (dig Y) n ∧ wv (xs.set (off + n) v) off (n + 1) - W ^ (n + 1) = wv zs off (n + 1) - (D - 1) * vf W (dig Y) n) ∧
    ((c' == 0) = false → wv (xs.set (off + n) v) off (n + 1) = wv zs off (n + 1) - (D - 1) * vf W (dig Y) n) := by
  have hb := td_back hlen he h e
  have hbd := wv_bd (hd.set v0 v1 (off + n)) off (n + 1)
  rw [Int.sub_mul]
  constructor
  · intro g
    have : c' = 0 := by simpa using g
    subst this
    simp only [Int.zero_mul] at hb
    omega
  · intro g
    have g' : c' ≠ 0 := by simpa using g
    have : c' = 1 := by omega
    subst this
    omega
set_option maxHeartbeats 4000000 in
theorem takeDigit_any {w : World} {g off n cz c : Nat} {zs Y : List Int} {B : Option Addr} (hrow : Row w g 45 .u64 zs) (hzd : Dig W zs) (hin : off + (n + 1) ≤ zs.length) (hn0 : 0 < n) (hn : n ≤ 64)
    (hcz : n + 1 ≤ cz) (hY : Rd .u64 w B n Y) (hYd : Dig W Y) (hne : ∀ a, B = some a → a.block ≠ g) (htop : 9223372036854775808 ≤ dig Y (n - 1)) (hlow : wv zs off (n + 1) < W * vf W (dig Y) n) :
    Calls Tryd.prog 76 #[.slice (some ⟨g, off, none⟩) (n + 1) cz, .slice B n c] w (TdP zs Y off n g w) := by
  obtain ⟨m, hm⟩ : ∃ m, m + 1 = n := ⟨n - 1, by omega⟩
  have hm1 : n - 1 = m := by omega
  rw [hm1] at htop
  clear hm1
  obtain ⟨bb, bo, vt, rfl, hbb, hvt, hcv⟩ := hY.at_ (j := m) (by omega)
  have evt := dig_lt hvt
  rw [evt] at htop
  have dv := dig_W hYd m
  rw [evt] at dv
  have c1 := hrow.cell (getElem?_dig (show off + n < zs.length by omega))
  have c2 := hrow.cell (getElem?_dig (show off + m < zs.length by omega))
  have d1 := dig_W hzd (off + n)
  have d2 := dig_W hzd (off + m)
  obtain ⟨u1, hu1⟩ : ∃ v, dig zs (off + n) = v := ⟨_, rfl⟩
  obtain ⟨u2, hu2⟩ : ∃ v, dig zs (off + m) = v := ⟨_, rfl⟩
  rw [hu1] at c1 d1
  rw [hu2] at c2 d2
  have hG := gss_bd d1.1 d2.1 d2.2 htop
  have hge := td_guess (Y := Y) hm hzd hYd hlow (by rw [hu1]; exact d1.1) (by rw [hu2]; exact d2.1) (by rw [evt]; exact htop)
  rw [hu1, hu2, evt] at hge
  have HGE := Lib.hid hge
  have HU1 := Lib.hid hu1
  have HM := Lib.hid hm
  have hmn : m < n := by omega
  clear hu1 hu2 evt hvt hge hlow
  have e1 : IntKind.i64.wrap ((n : Int) - 1) = (m : Int) := by rw [IntWalk.i64_in _ (by omega)]; omega
  have e2 : (m : Int) < (n : Int) := by omega
  have e3 : (m : Int) < (n : Int) + 1 := by omega
  have e4 : (n : Int) < (n : Int) + 1 := by omega
  clear hm
  obtain ⟨G, hGe⟩ : ∃ v, gss u1 u2 vt = v := ⟨_, rfl⟩
  have hcg := fun W => guess_any u1 u2 vt W d1.1 d1.2 d2.1 d2.2 htop dv.2
  rw [hGe] at hcg hG HGE
  have HCG := Lib.hid hcg
  clear hcg hGe
  have hne' : 0 < n → ∀ a, some (⟨bb, bo, none⟩ : Addr) = some a → a.block ≠ g := fun _ => hne
  have HNE := Lib.hid hne'
  clear hne hne'
  have hbg : bb ≠ g := HNE.out hn0 _ rfl
  go_enter Tryd.func76, Tryd.ntmps76
  go_wp2_with fail
  go_quiet ((go_at_call 90; exact quiet_any (HCG.out _)))
  clear e1
  go_wp2_with fail
  refine (takeTimes_any (hrow.drewN _) hzd (by omega) (by omega) (hY.drewN _) hYd HNE.out hG.1 hG.2).mono ?_
  rintro e w1 ⟨ys, over, rfl, o0, o1, ht, hv⟩
  have HV := Lib.hid hv
  clear hv
  have hyl := ht.len
  have f1 := ht.row.frozen (off + n)
  have g1 := ht.row.cell (getElem?_dig (show off + n < ys.length by omega))
  have hr := ht.rest (off + n) (.inr (Nat.le_refl _))
  rw [hr, HU1.out] at g1
  have HR := Lib.hid hr
  have HYL := Lib.hid hyl
  clear hyl hr
  have hw0 : 0 ≤ IntKind.u64.wrap (u1 - over) ∧ IntKind.u64.wrap (u1 - over) < W := by rw [IntKind.wrap_u64]; unfold W; omega
  have hst := td_start (zs := zs) (Y := Y) (v := IntKind.u64.wrap (u1 - over)) (by have := HYL.out; omega) (ht.dig_) HR.out HV.out hw0.1 hw0.2 (IntKind.wrap_u64 _) HU1.out o0 o1
  have HST := Lib.hid hst
  have HT1 := Lib.hid ((ht.undrew.widen (Nat.le_succ n)).put hw0.1 hw0.2 (i := off + n) (by omega) (by omega))
  clear hst
  have HY1 := Lib.hid hY
  go_wp2_with fail
  clear f1 g1 hcv c1 c2 hrow
  go_loopw [6, 8] (fun d b wr => TdR zs Y off n g w d b wr) (fun d _ _ => (intOf d).toNat)
  case atStart => exact ⟨_, G, _, rfl, rfl, hG.1, hG.2, HT1.out, HGE.out, HST.out.1, HST.out.2⟩
  case round =>
    obtain ⟨xs, D, bl, rfl, rfl, D0, D1, tt, hlt, hyes, hno⟩ := hrel
    have HLT := Lib.hid hlt
    have hV0 := vf_bd (b := W) (by decide) (fun j => dig_bd (b := W) (by decide) hYd j) n
    have hU0 := wv_bd hzd off (n + 1)
    clear hlt
    cases bl with
    | true =>
      obtain ⟨hlt2, hval⟩ := hyes rfl
      have hD : 1 ≤ D := by
        rcases Int.lt_or_le 0 D with k | k
        · omega
        · have : D = 0 := by omega
          subst this; simp at hlt2; omega
      have HLT2 := Lib.hid hlt2
      have HVAL := Lib.hid hval
      have HV0 := Lib.hid hV0
      have HU0 := Lib.hid hU0
      clear hyes hno hlt2 hval hV0 hU0
      go_wp2_with fail
      refine (addBack_any tt.row tt.dig_ (by rw [tt.len]; omega) (by omega) (HY1.out.grown tt.grown (HNE.out hn0)) hYd HNE.out).mono ?_
      rintro e w2 ⟨vs, cc, rfl, k0, k1, t2, hv2⟩
      have HV2 := Lib.hid hv2
      clear hv2
      have hvl := t2.len.trans tt.len
      have f2 := t2.row.frozen (off + n)
      have g2 := t2.row.cell (getElem?_dig (show off + n < vs.length by omega))
      have dz := dig_W t2.dig_ (off + n)
      obtain ⟨z, hz⟩ : ∃ z, dig vs (off + n) = z := ⟨_, rfl⟩
      rw [hz] at g2 dz
      have HZ := Lib.hid hz
      have HVL := Lib.hid hvl
      clear hz hvl
      have hB := add64_bd dz.1 dz.2 (Int.le_refl 0) (by decide) k0 k1
      have HB := Lib.hid hB
      clear hB
      go_wp2_with (simp only [add64 z 0 cc dz.1 (Int.le_refl 0) k0 k1])
      have hrd := td_round (zs := zs) (ys := xs) (D := D) (by have := HVL.out; omega) t2.dig_ HB.out.1 HB.out.2.1 (t2.rest _ (.inr (Nat.le_refl _))) HV2.out (by rw [HZ.out]; exact HB.out.2.2.2.2) HB.out.2.2.1 HB.out.2.2.2.1 HVAL.out
      go_roundw
      case rel => exact ⟨_, D - 1, _, rfl, rfl, by omega, by omega, (tt.trans (t2.widen (Nat.le_succ n))).put HB.out.1 HB.out.2.1 (by omega) (by omega), by rw [Int.sub_add_cancel]; exact HLT2.out, hrd.1, hrd.2⟩
      case measure => simp [intOf]; omega
    | false =>
      have hval := hno rfl
      have HVAL := Lib.hid hval
      clear hyes hno hval hV0 hU0
      go_wp2
      go_ret
      exact ⟨xs, D, rfl, D0, D1, tt, HVAL.out, by rw [HVAL.out]; have := HLT.out; rw [Int.add_mul] at this; omega⟩
end Go.Proofs.YtjalncdllegfoaaDoor
/-
  Long division: what divide answers: quotient and remainder.
-/
namespace Go.Proofs.YtjalncdllegfoaaDoor
open Go.RowKit
set_option linter.unusedVariables false
theorem Row.far {w : World} {g : Nat} {t : TypeId} {k : IntKind} {xs : List Int} (h : Row w g t k xs) {p : Addr} (hp : g ≠ p.block) (u : Value) : Row (w.setCell p u) g t k xs := (Below.heap_setCell w p u g hp).trans h
/-- How many bits a digit is shifted. -/
def lzs (x : Int) : Nat := 64 - Lib.bitLen x.toNat
theorem lz64_nat (x : Int) (w : World) (h0 : 0 ≤ x) (h1 : x < 18446744073709551616) :
    Calls Tryd.prog 74 #[.int .u64 x] w fun e w' => e = .returned (.int .i64 (lzs x : Nat)) ∧ w = w' := by
  refine (lz64 x w h0 h1).mono fun e w' ⟨he, hw⟩ => ⟨?_, hw⟩
  subst he
  have := Lib.bitLen_le x.toNat 64 (by omega) (by omega)
  unfold lzs
  rw [show ((64 - Lib.bitLen x.toNat : Nat) : Int) = 64 - (Lib.bitLen x.toNat : Int) by omega]
theorem lzs_bd {x : Int} (h0 : 1 ≤ x) (h1 : x < 18446744073709551616) : lzs x < 64 ∧ 9223372036854775808 ≤ pw (lzs x) * x ∧ pw (lzs x) * (x + 1) ≤ 18446744073709551616 := by
  obtain ⟨a, rfl⟩ := Int.eq_ofNat_of_zero_le (show 0 ≤ x by omega)
  obtain ⟨b1, b2, b3⟩ := Lib.bitLenAux_bounds 64 a (by omega) (by omega)
  have hle := Lib.bitLen_le a 64 (by omega) (by omega)
  have e : Lib.bitLen a = Lib.bitLenAux 64 a := rfl
  unfold lzs
  rw [Int.toNat_natCast]
  rw [← e] at b1 b2 b3
  generalize Lib.bitLen a = L at *
  refine ⟨by omega, ?_, ?_⟩
  · have e1 : 2 ^ (64 - L) * 2 ^ (L - 1) = 2 ^ 63 := by rw [← Nat.pow_add]; congr 1; omega
    have h2 := Nat.mul_le_mul_left (2 ^ (64 - L)) b2
    rw [e1] at h2
    have h3 : ((2 ^ 63 : Nat) : Int) ≤ ((2 ^ (64 - L) * a : Nat) : Int) := by omega
    rw [Int.natCast_mul, pw_nat] at h3
    exact h3
  · have e1 : 2 ^ (64 - L) * 2 ^ L = 2 ^ 64 := by rw [← Nat.pow_add]; congr 1; omega
    have h2 := Nat.mul_le_mul_left (2 ^ (64 - L)) (show a + 1 ≤ 2 ^ L from b3)
    rw [e1] at h2
    have h3 : ((2 ^ (64 - L) * (a + 1) : Nat) : Int) ≤ ((2 ^ 64 : Nat) : Int) := by omega
    rw [Int.natCast_mul, pw_nat] at h3
    simpa using h3
/-! ### The divisor, shifted -/
theorem div_norm {M P : Int} {b m : Nat} {vs : List Int} (hM : 0 < M) (hb : dl M = b) (hm : m + 1 = b) (hP0 : 9223372036854775808 ≤ P * dig (dg W M) m) (hP1 : P * (dig (dg W M) m + 1) ≤ 18446744073709551616) (hP : 0 < P)
    (hd : Dig W vs) (hv : vf W (dig vs) (b + 1) = P * vf W (dig (dg W M)) b) : vf W (dig vs) b = P * M ∧ 9223372036854775808 ≤ dig vs m := by
  subst hm
  have hMv := val_dl (show 0 ≤ M by omega) (Nat.le_of_eq hb)
  have hlow := vf_bd (b := W) (by decide) (fun j => dig_bd (b := W) (by decide) (dig_dg W_two (show 0 ≤ M by omega)) j) m
  have hvl := vf_bd (b := W) (by decide) (fun j => dig_bd (b := W) (by decide) hd j) (m + 1)
  have hvm := vf_bd (b := W) (by decide) (fun j => dig_bd (b := W) (by decide) hd j) m
  have d1 := dig_bd (b := W) (by decide) hd (m + 1)
  have d0 := dig_bd (b := W) (by decide) hd m
  have hp := pow_pos' W_two m
  have hp1 := pow_pos' W_two (m + 1)
  have e1 : W ^ (m + 1) = W ^ m * W := Int.pow_succ _ _
  have eM : vf W (dig (dg W M)) m + dig (dg W M) m * W ^ m = M := hMv
  have hW : W = 18446744073709551616 := rfl
  -- P M < W ^ (m + 1)
  have k1 : P * M < W ^ (m + 1) := by
    have a1 : M < (dig (dg W M) m + 1) * W ^ m := by rw [Int.add_mul]; omega
    have a2 := Int.mul_lt_mul_of_pos_left a1 hP
    have a3 := Int.mul_le_mul_of_nonneg_right hP1 (show 0 ≤ W ^ m by omega)
    rw [← Int.mul_assoc] at a2
    rw [e1, Int.mul_comm (W ^ m), hW]
    rw [hW] at a2 a3
    omega
  have k2 : vf W (dig vs) (m + 1 + 1) = vf W (dig vs) (m + 1) + dig vs (m + 1) * W ^ (m + 1) := rfl
  rw [hMv] at hv
  have k3 : dig vs (m + 1) = 0 := by
    rcases Int.lt_or_le 0 (dig vs (m + 1)) with g | g
    · have := Int.mul_le_mul_of_nonneg_right (show (1 : Int) ≤ dig vs (m + 1) by omega) (show 0 ≤ W ^ (m + 1) by omega)
      omega
    · omega
  rw [k3] at k2
  have k4 : vf W (dig vs) (m + 1) = P * M := by omega
  refine ⟨k4, ?_⟩
  rcases Int.lt_or_le (dig vs m) 9223372036854775808 with g | g
  · exfalso
    have a1 : vf W (dig vs) (m + 1) = vf W (dig vs) m + dig vs m * W ^ m := rfl
    have a2 : dig (dg W M) m * W ^ m ≤ M := by omega
    have a3 := Int.mul_le_mul_of_nonneg_left a2 (show 0 ≤ P by omega)
    have a4 := Int.mul_le_mul_of_nonneg_right hP0 (show 0 ≤ W ^ m by omega)
    rw [Int.mul_assoc] at a4
    have a5 := Int.mul_le_mul_of_nonneg_right (show dig vs m + 1 ≤ 9223372036854775808 by omega) (show 0 ≤ W ^ m by omega)
    rw [Int.add_mul] at a5
    omega
  · exact g
/-- The first window is below the divisor. -/
theorem div_head {N M P : Int} {a b k : Nat} {rs : List Int} (hN : 0 ≤ N) (hM : 0 < M) (ha : dl N = a) (hb : dl M = b) (hk : k + b = a + 1) (hP : 0 < P) (hd : Dig W rs) (hv : vf W (dig rs) (a + 1) = P * N) : wv rs k b < P * M := by
  have h1 : vf W (dig rs) (k + b) = vf W (dig rs) k + W ^ k * wv rs k b := vf_split W (dig rs) k b
  have h2 := vf_bd (b := W) (by decide) (fun j => dig_bd (b := W) (by decide) hd j) k
  have hp := pow_pos' W_two k
  have h3 : N < M * W ^ k := by
    have a1 := lt_dl hN (Nat.le_of_eq ha)
    have hb0 : 0 < b := by
      rcases Nat.eq_zero_or_pos b with g | g
      · rw [g] at hb; have := (dl_zero (show 0 ≤ M by omega)).1 hb; omega
      · exact g
    have a2 : W ^ (b - 1) ≤ M := by
      rcases Int.lt_or_le M (W ^ (b - 1)) with g | g
      · have := dl_le (show 0 ≤ M by omega) g; omega
      · exact g
    have a3 := Int.mul_le_mul_of_nonneg_right a2 (show 0 ≤ W ^ k by omega)
    rw [← Int.pow_add] at a3
    have e : b - 1 + k = a := by omega
    rw [e] at a3
    omega
  have h4 := Int.mul_lt_mul_of_pos_left h3 hP
  rw [hk, hv] at h1
  rcases Int.lt_or_le (wv rs k b) (P * M) with g | g
  · exact g
  · exfalso
    have a1 := Int.mul_le_mul_of_nonneg_left g (show 0 ≤ W ^ k by omega)
    rw [← Int.mul_assoc] at h4
    rw [Int.mul_comm (W ^ k) (P * M)] at a1
    omega
theorem wv_low (rs : List Int) (j b : Nat) : wv rs j (b + 1) = dig rs j + W * wv rs (j + 1) b := by
  have h := vf_split W (fun i => dig rs (j + i)) 1 b
  rw [Nat.add_comm] at h
  unfold wv
  rw [h]
  simp only [vf, Nat.add_zero]
  rw [vf_congr W (g := fun i => dig rs (j + 1 + i)) (fun i _ => by rw [Nat.add_assoc])]
  simp [show W ^ 1 = W from by simp [Int.pow_succ]]
theorem div_low {rs : List Int} {j b : Nat} {V : Int} (hd : Dig W rs) (h : wv rs (j + 1) b < V) : wv rs j (b + 1) < W * V := by
  rw [wv_low]
  have d := dig_bd (b := W) (by decide) hd j
  have : W * (wv rs (j + 1) b + 1) ≤ W * V := Int.mul_le_mul_of_nonneg_left (by omega) (by decide)
  rw [Int.mul_add] at this
  omega
theorem div_zero {ys : List Int} {j b : Nat} {V : Int} (hd : Dig W ys) (h : wv ys j (b + 1) < V) (hV : V < W ^ b) : dig ys (j + b) = 0 ∧ wv ys j b < V := by
  have h1 := wv_succ ys j b
  have h2 := wv_bd hd j b
  have d := dig_bd (b := W) (by decide) hd (j + b)
  rcases Int.lt_or_le 0 (dig ys (j + b)) with g | g
  · exfalso
    have := Int.mul_le_mul_of_nonneg_right (show (1 : Int) ≤ dig ys (j + b) by omega) (show 0 ≤ W ^ b from Int.le_of_lt (pow_pos' W_two b))
    omega
  · have : dig ys (j + b) = 0 := by omega
    refine ⟨this, ?_⟩
    rw [this] at h1
    omega
/-- A window that is changed. -/
theorem vf_window {rs ys : List Int} {j n t : Nat} (hr : ∀ i, i < j ∨ j + n ≤ i → dig ys i = dig rs i) (ht : j + n ≤ t) : vf W (dig ys) t - vf W (dig rs) t = W ^ j * (wv ys j n - wv rs j n) := by
  have a := vf_split W (dig ys) j n
  have b := vf_split W (dig rs) j n
  have c := vf_same W (f := dig ys) (g := dig rs) (k := j + n) ht (fun i hi => hr i (.inr hi))
  have d := vf_congr W (f := dig ys) (g := dig rs) (k := j) (fun i hi => hr i (.inl hi))
  have ea : vf W (fun i => dig ys (j + i)) n = wv ys j n := rfl
  have eb : vf W (fun i => dig rs (j + i)) n = wv rs j n := rfl
  rw [ea] at a
  rw [eb] at b
  rw [Int.mul_sub]
  omega
theorem vf_digit {qs : List Int} {j t : Nat} {D : Int} (hl : j < qs.length) (hq : dig qs j = 0) (ht : j < t) : vf W (dig (qs.set j D)) t = vf W (dig qs) t + D * W ^ j := by
  have h := vf_window (rs := qs) (ys := qs.set j D) (j := j) (n := 1) (t := t) (fun i hi => dig_set_ne (by omega)) (by omega)
  have e1 : wv (qs.set j D) j 1 = D := by
    unfold wv; simp only [vf, Nat.add_zero]; rw [dig_set_same hl]; simp
  have e2 : wv qs j 1 = 0 := by
    unfold wv; simp only [vf, Nat.add_zero]; rw [hq]; simp
  rw [e1, e2, Int.sub_zero, Int.mul_comm] at h
  omega
theorem div_sum {rs ys qs : List Int} {j b t t' : Nat} {D V S : Int} (hr : ∀ i, i < j ∨ j + (b + 1) ≤ i → dig ys i = dig rs i) (ht : j + (b + 1) ≤ t) (hw : wv ys j (b + 1) = wv rs j (b + 1) - D * V) (hl : j < qs.length) (hq : dig qs j = 0) (ht' : j < t')
    (h : vf W (dig rs) t + V * vf W (dig qs) t' = S) : vf W (dig ys) t + V * vf W (dig (qs.set j D)) t' = S := by
  have h1 := vf_window (t := t) hr ht
  rw [hw] at h1
  rw [vf_digit hl hq ht']
  have e1 : wv rs j (b + 1) - D * V - wv rs j (b + 1) = - (D * V) := by omega
  rw [e1] at h1
  have e2 : vf W (dig ys) t = vf W (dig rs) t - W ^ j * (D * V) := by rw [Int.mul_neg] at h1; omega
  rw [e2, ← h]
  generalize W ^ j = p
  generalize vf W (dig qs) t' = q
  generalize vf W (dig rs) t = r
  grind
/-- What is left, and its quotient. -/
theorem div_end {N M P R Q : Int} (hM : 0 < M) (hP : 0 < P) (R0 : 0 ≤ R) (R1 : R < P * M) (h : R + P * M * Q = P * N) : Q = N / M ∧ R = P * (N % M) := by
  have e : R = P * (N - M * Q) := by
    have : P * M * Q = P * (M * Q) := Int.mul_assoc _ _ _
    rw [Int.mul_sub]; omega
  have r0 : 0 ≤ N - M * Q := by
    rcases Int.lt_or_le (N - M * Q) 0 with g | g
    · have := Int.mul_lt_mul_of_pos_left g hP; simp at this; omega
    · exact g
  have r1 : N - M * Q < M := by
    rcases Int.lt_or_le (N - M * Q) M with g | g
    · exact g
    · have := Int.mul_le_mul_of_nonneg_left g (show 0 ≤ P by omega); omega
  have q : N / M = Q := by
    have e2 : N = (N - M * Q) + M * Q := by omega
    rw [e2, Int.add_mul_ediv_left _ _ (by omega), Int.ediv_eq_zero_of_lt r0 r1]; simp
  refine ⟨q.symm, ?_⟩
  rw [e]
  have := Int.emod_add_mul_ediv N M
  rw [q] at this
  congr 1; omega
theorem low_mod {rs : List Int} {s b : Nat} {r : Int} (hs : s ≤ 64) (hb : 0 < b) (h : wv rs 0 b = pw s * r) : dig rs 0 % pw s = 0 := by
  obtain ⟨m, rfl⟩ : ∃ m, b = m + 1 := ⟨b - 1, by omega⟩
  rw [wv_low] at h
  have hW : W = pw s * pw (64 - s) := (pw_mul hs).symm
  have e : dig rs 0 = pw s * (r - pw (64 - s) * wv rs (0 + 1) m) := by
    rw [hW] at h
    generalize wv rs (0 + 1) m = x at *
    grind
  rw [e]
  exact Int.mul_emod_right _ _

/-- What holds at each round's head: k digits are to come. -/
def DivR (N M P : Int) (a b k0 g1 g2 g3 : Nat) (vs : List Int) (w : World) (i : Value) (wr : World) : Prop :=
  ∃ (k : Nat) (v : Int) (rs qs : List Int), i = .int .i64 v ∧ v = (k : Int) - 1 ∧ k ≤ k0 ∧ Row wr g1 45 .u64 rs ∧ rs.length = a + 1 ∧ Dig W rs ∧ Row wr g3 45 .u64 qs ∧ qs.length = k0 ∧ Dig W qs ∧
    Row wr g2 45 .u64 vs ∧ (∀ j, k + b ≤ j → dig rs j = 0) ∧ (∀ j, j < k → dig qs j = 0) ∧ wv rs k b < P * M ∧ vf W (dig rs) (a + 1) + P * M * vf W (dig qs) k0 = P * N ∧ Below w.heap.size w wr
def QR (Q R : Int) (w : World) (e : Ending) (w' : World) : Prop :=
  ∃ B m cap B' m' cap', e = .returned (.tuple #[.slice B m cap, .slice B' m' cap']) ∧ Cn w' B m cap Q ∧ Cn w' B' m' cap' R ∧ Below w.heap.size w w' ∧ (∀ x, B = some x → w.heap.size ≤ x.block) ∧ ∀ x, B' = some x → w.heap.size ≤ x.block
theorem shr_nm {w4 : World} {g b s : Nat} {xs zs : List Int} {r : Int} (hrow : Row w4 g 45 .u64 zs) (hl : zs.length = b) (hd : Dig W zs) (h : pw s * vf W (dig zs) b = vf W (dig (xs.take b)) b - dig (xs.take b) 0 % pw s) (hx : vf W (dig xs) b = pw s * r) (hm : dig xs 0 % pw s = 0)
    (hb : 0 < b) (hb' : b ≤ 64) (hr : 0 ≤ r) : Nm w4 (some ⟨g, 0, none⟩) b b r := by
  rw [vf_congr W (g := dig xs) (fun i hi => dig_take hi), dig_take hb, hm, hx, Int.sub_zero] at h
  have e : vf W (dig zs) b = r := Int.eq_of_mul_eq_mul_left (Int.ne_of_gt (pw_pos s)) h
  exact ⟨⟨zs, hrow.rd hl (fun j x hx => by rwa [Nat.zero_add]), hd, by rw [val_vf W zs (m := b) (by omega)]; exact e⟩, Nat.le_refl _, by omega, hr⟩
set_option maxHeartbeats 4000000 in
theorem divide_any {A A' : Option Addr} {c c' a b : Nat} {N M : Int} {w : World} (h : Cn w A a c N) (h' : Cn w A' b c' M) (hM : 0 < M) (hab : b ≤ a) (ha : a ≤ 64) :
    Calls Tryd.prog 49 #[.slice A a c, .slice A' b c'] w (QR (N / M) (N % M) w) := by
  have hla : dl N = a := h.len_.symm
  have hlb : dl M = b := h'.len_.symm
  have hb0 : 0 < b := by
    rcases Nat.eq_zero_or_pos b with g | g
    · rw [g] at hlb; have := (dl_zero h'.pos).1 hlb; omega
    · exact g
  obtain ⟨m, hm⟩ : ∃ m, m + 1 = b := ⟨b - 1, by omega⟩
  obtain ⟨bb, bo, t, rfl, hbb, ht, hct⟩ := h'.rd.at_ (j := m) (by omega)
  have ete := dig_lt ht
  have dt := dig_W (dig_dg W_two h'.pos) m
  have htop := dg_top W_two hM
  rw [show (dg W M).length - 1 = m by have : (dg W M).length = b := hlb; omega] at htop
  rw [ete] at dt htop
  obtain ⟨s1, s2, s3⟩ := lzs_bd htop dt.2
  obtain ⟨s, hs⟩ : ∃ s, lzs t = s := ⟨_, rfl⟩
  rw [hs] at s1 s2 s3
  have hcl := fun W => lz64_nat t W dt.1 dt.2
  rw [hs] at hcl
  have HCL := Lib.hid hcl
  have HETE := Lib.hid ete
  have HS2 := Lib.hid s2
  have HS3 := Lib.hid s3
  have HLA := Lib.hid hla
  have HLB := Lib.hid hlb
  clear hcl ht ete s2 s3 hla hlb hs
  have e1 : (b : Int) - 1 = m := by omega
  obtain ⟨k0, hk0⟩ : ∃ k0, k0 + b = a + 1 := ⟨a + 1 - b, by omega⟩
  have e2 : (a : Int) - b + 1 = k0 := by omega
  have hmk := fun W => run_make64 k0 (C := (k0 : Int)) rfl (by omega) W
  obtain ⟨Z, hZ⟩ : ∃ Z : List Int, Z = List.replicate k0 0 := ⟨_, rfl⟩
  rw [← hZ] at hmk
  have HZ := Lib.hid hZ
  have HM := Lib.hid hm
  have HK0 := Lib.hid hk0
  clear hZ
  go_enter Tryd.func49, Tryd.ntmps49
  clear hm hk0
  go_wp2_with fail
  refine (HCL.out _).mono ?_
  rintro e w1 ⟨rfl, rfl⟩
  go_wp2_with fail
  refine (shiftLeft_any h.rd (dig_dg W_two h.pos) ha s s1).mono ?_
  rintro e w1 ⟨rs, rfl, r1, r2, r3, r4, r5⟩
  have R2 := Lib.hid r2
  have R4 := Lib.hid r4
  clear r2 r4
  go_wp2_with fail
  refine (shiftLeft_any (h'.rd.below r5) (dig_dg W_two h'.pos) (by omega) s s1).mono ?_
  rintro e w2 ⟨vs, rfl, v1, v2, v3, v4, v5⟩
  have V2 := Lib.hid v2
  have V4 := Lib.hid v4
  clear v2 v4
  go_wp2_with fail
  clear hmk e1 e2
  have hP := pw_pos s
  obtain ⟨n1, n2⟩ := div_norm (P := pw s) hM HLB.out HM.out (by rw [HETE.out]; exact HS2.out) (by rw [HETE.out]; exact HS3.out) hP v3 V4.out
  have hPM : vf W (dig vs) b < W ^ b := (vf_bd (b := W) (by decide) (fun j => dig_bd (b := W) (by decide) v3 j) b).2
  have N1 := Lib.hid n1
  have hPM' := Lib.hid hPM
  clear n1 hPM
  have z1 := r5.size
  have z2 := v5.size
  have z3 : w.heap.size < w1.heap.size := r1.lt
  have z4 : w1.heap.size < w2.heap.size := v1.lt
  have n0 : N = vf W (dig (dg W N)) a := (val_dl h.pos (Nat.le_of_eq HLA.out)).symm
  have N0 := Lib.hid n0
  clear n0
  have R4' : vf W (dig rs) (a + 1) = pw s * N := by rw [R4.out, ← N0.out]
  have HR4 := Lib.hid R4'
  clear R4'
  go_loopw [11] (fun i wr => DivR N M (pw s) a b k0 w.heap.size w1.heap.size w2.heap.size vs w i wr) (fun i _ => (intOf i + 1).toNat)
  case atStart =>
    refine ⟨k0, _, rs, Z, rfl, rfl, Nat.le_refl _, (r1.below v5 r1.lt).alloc _, R2.out, r3, Row.new _ _ _ _, by rw [HZ.out]; simp, by rw [HZ.out]; intro x hx; simp at hx; rw [hx.2]; exact ⟨by decide, by decide⟩, v1.alloc _, fun j hj => dig_ge (by rw [R2.out]; have := HK0.out; omega), fun j hj => by rw [HZ.out]; exact dig_replicate _ _, div_head h.pos hM HLA.out HLB.out HK0.out hP r3 HR4.out, ?_, ((r5.trans (v5.mono z1)).alloc (by omega) _)⟩
    rw [HR4.out, HZ.out, vf_zero W (k := 0) (Nat.zero_le _) (fun j _ => dig_replicate _ j)]; simp [vf]
  case round =>
    obtain ⟨k, v, xs, qs, rfl, hv, hk, x1, x2, x3, q1, q2, q3, y1, hz, hq, hw, hsum, hb⟩ := hrel
    have HZE := Lib.hid hz
    have HQ := Lib.hid hq
    have HW := Lib.hid hw
    have HSUM := Lib.hid hsum
    have X2 := Lib.hid x2
    have Q2 := Lib.hid q2
    clear hz hq hw hsum
    have hkb : k + b ≤ a + 1 := by have := HK0.out; omega
    rcases Nat.eq_zero_or_pos k with g | g
    · subst g
      obtain rfl : v = -1 := by omega
      clear x2 q2 hv hk hkb
      have hR : vf W (dig xs) (a + 1) = vf W (dig xs) b := vf_zero W (by omega) (fun j hj => HZE.out j (by omega))
      have hR2 : wv xs 0 b = vf W (dig xs) b := vf_congr W (fun j _ => by rw [Nat.zero_add])
      obtain ⟨eQ, eR⟩ := div_end hM hP (vf_bd (b := W) (by decide) (fun j => dig_bd (b := W) (by decide) x3 j) b).1 (by rw [← hR2]; exact HW.out) (by rw [← hR]; exact HSUM.out)
      have hmod := low_mod (rs := xs) (s := s) (r := N % M) (by omega) hb0 (by rw [hR2]; exact eR)
      have hq0 : 0 ≤ N / M := Int.ediv_nonneg h.pos (by omega)
      have hr0 : 0 ≤ N % M := Int.emod_nonneg _ (by omega)
      have hnq : Nm wr (some ⟨w2.heap.size, 0, none⟩) k0 k0 (N / M) :=
        ⟨⟨qs, q1.rd Q2.out (fun j x hx => by rwa [Nat.zero_add]), q3, by rw [val_vf W qs (m := k0) (by rw [Q2.out]; exact Nat.le_refl _)]; exact eQ⟩, Nat.le_refl _, by have := HK0.out; omega, hq0⟩
      have hxr : Rd .u64 wr (some ⟨w.heap.size, 0, none⟩) b (xs.take b) := x1.rd0 (by rw [X2.out]; omega)
      have hxd : Dig W (xs.take b) := fun x hx => x3 x (List.mem_of_mem_take hx)
      have ER := Lib.hid eR
      have HMOD := Lib.hid hmod
      clear hR hR2 eQ eR hmod
      have hba : b ≤ 64 := by omega
      have l1 : (b : Int) ≤ (a : Int) + 1 := by omega
      go_wp2_with fail
      go_region_with (first
        | (go_at_call_of 32 (Value.slice (some (⟨w2.heap.size, 0, none⟩ : Addr)) k0 k0); refine (limbs_nm (hnq.drewN 1)).mono ?_; rintro e w4 ⟨rfl, rfl⟩)
        | (go_at_call 77; refine (shiftRight_any (hxr.drewN 1) hxd hba s s1).mono ?_; rintro e w4 ⟨zs, rfl, p1, p2, p3, p4, p5⟩; have hnr := shr_nm p1 p2 p3 p4 ER.out HMOD.out hb0 hba hr0; clear p2 p4)
        | (go_at_call 32; refine (limbs_nm hnr).mono ?_; rintro e w5 ⟨rfl, rfl⟩))
      all_goals
        go_wp2
        go_ret2
        exact ⟨_, _, _, _, _, _, rfl, (hnq.drewN 1).lim.below p5, hnr.lim, (below_drewN hb 1).trans (p5.mono hb.size), fun x hx => by injection hx with hx; subst hx; show w.heap.size ≤ w2.heap.size; omega, fun x hx => by injection hx with hx; subst hx; exact hb.size⟩
    · obtain ⟨j, rfl⟩ : ∃ j, k = j + 1 := ⟨k - 1, by omega⟩
      obtain rfl : v = (j : Int) := by omega
      clear hv
      have t1 : j + (b + 1) ≤ xs.length := by rw [X2.out]; omega
      have t2 : j < a + 1 := by omega
      have t3 : j < k0 := by omega
      have fz := q1.frozen j
      have cz := q1.cell (getElem?_dig (show j < qs.length by omega))
      clear x2 q2
      go_wp2_with fail
      rw [show j + b + 1 - j = b + 1 by omega]
      refine (takeDigit_any x1 x3 t1 hb0 (by omega) (by omega) (y1.rd (off := 0) (n := b) (ys := vs.take b) (by rw [List.length_take, V2.out]; omega) (fun i x hx => by
          rw [Nat.zero_add]
          rcases Nat.lt_or_ge i b with hi | hi
          · rwa [List.getElem?_take_of_lt hi] at hx
          · rw [List.getElem?_eq_none (by rw [List.length_take]; omega)] at hx; cases hx)) (fun x hx => v3 x (List.mem_of_mem_take hx)) (fun a ha => by injection ha with ha; subst ha; exact Nat.ne_of_gt z3)
          (by rw [show b - 1 = m by have := HM.out; omega, dig_take (by have := HM.out; omega)]; exact n2)
          (by rw [vf_congr W (g := dig vs) (fun i hi => dig_take hi), N1.out]; exact div_low x3 HW.out)).mono ?_
      rintro e w3 ⟨ys, D, rfl, D0, D1, tt, hwv, hlt⟩
      rw [vf_congr W (f := dig (vs.take b)) (g := dig vs) (fun i hi => dig_take hi), N1.out] at hwv hlt
      have HWV := Lib.hid hwv
      have HLT := Lib.hid hlt
      clear hwv hlt
      have q1' := q1.grown tt.grown (by intro he; injection he with he; omega)
      have y1' := y1.grown tt.grown (by intro he; injection he with he; omega)
      have fz' := q1'.frozen j
      have cz' := q1'.cell (getElem?_dig (show j < qs.length by rw [Q2.out]; exact t3))
      clear fz cz
      go_wp2_with fail
      have hz2 := div_zero tt.dig_ HLT.out (by rw [← N1.out]; exact hPM'.out)
      go_roundw
      case rel =>
        exact ⟨j, _, ys, qs.set j D, rfl, rfl, by omega, tt.row.far (Nat.ne_of_lt (Nat.lt_trans z3 z4)) _, tt.len.trans X2.out, tt.dig_, q1'.set _ _, by simpa using Q2.out, q3.set D0 D1 _, y1'.far (Nat.ne_of_lt z4) _,
          fun i hi => by
            rcases Nat.lt_or_ge (j + b) i with h1 | h1
            · rw [tt.rest i (.inr (by omega))]; exact HZE.out i (by omega)
            · obtain rfl : i = j + b := by omega
              exact hz2.1,
          fun i hi => by rw [dig_set_ne (by omega)]; exact HQ.out i (by omega), hz2.2,
          div_sum tt.rest (by rw [X2.out] at t1; exact t1) HWV.out (by rw [Q2.out]; exact t3) (HQ.out j (by omega)) t3 HSUM.out,
          (below_grown hb tt.grown hb.size (Nat.le_refl _)).setCell (by show w.heap.size ≤ w2.heap.size; omega) _⟩
      case measure => simp [intOf]
end Go.Proofs.YtjalncdllegfoaaDoor
/-
  What nat.Norm and nat.Div answer.
-/
namespace Go.Proofs.YtjalncdllegfoaaDoor
open Go.RowKit
set_option linter.unusedVariables false
theorem splice_all {Z X : List Value} (h : X.length = Z.length) : splice Z 0 X = X := by
  unfold splice
  rw [List.take_zero, List.nil_append, Nat.zero_add, h, List.drop_length, List.append_nil]
/-- A number in new memory. -/
def Ans1 (N : Int) (w : World) (e : Ending) (w' : World) : Prop :=
  ∃ B m cap, e = .returned (.slice B m cap) ∧ Cn w' B m cap N ∧ Below w.heap.size w w' ∧ ∀ a, B = some a → w.heap.size ≤ a.block
theorem addr_add (b off j : Nat) : (⟨b, off, none⟩ : Addr).add j = ⟨b, off + j, none⟩ := by
  unfold Addr.add; split
  · rename_i h0; subst h0; rfl
  · rfl
theorem rd_pos {w : World} {A : Option Addr} {n : Nat} {X : List Int} (h : Rd .u64 w A n X) {o : Obj} : 0 < X.length → ∃ ad, A = some ad ∧ ∀ (j : Nat) (a : Int), X[j]? = some a → (w.alloc o).cell? (ad.add j) = some (.int .u64 a) := by
  intro hp
  rw [h.len] at hp
  obtain ⟨b, off, rfl, hb, hc⟩ := h.cells hp
  refine ⟨_, rfl, fun j v hv => ?_⟩
  rw [addr_add, World.cell?_alloc_lt w o ⟨b, off + j, none⟩ hb]
  exact hc j v hv
set_option maxHeartbeats 1000000 in
theorem norm_any {A : Option Addr} {n c : Nat} {N : Int} {w : World} (h : Nm w A n c N) :
    Calls Tryd.prog 13 #[.slice A n c] w (Ans1 N w) := by
  have hx := h.lim
  have hle : dl N ≤ 17592186044416 := by have := hx.nc; have := hx.c60; omega
  have hmk := fun W => run_make64 (dl N) (C := (dl N : Int)) rfl (by omega) W
  obtain ⟨Z, hZ⟩ : ∃ Z : List Int, Z = List.replicate (dl N) 0 := ⟨_, rfl⟩
  rw [← hZ] at hmk
  have HZ := Lib.hid hZ
  clear hZ
  obtain ⟨X, hX⟩ : ∃ X : List Int, X = dg W N := ⟨_, rfl⟩
  have hxr := hx.rd
  rw [← hX] at hxr
  have HX := Lib.hid hX
  clear hX
  go_enter Tryd.func13, Tryd.ntmps13
  go_wp2_with fail
  refine (limbs_nm h).mono ?_
  rintro e w1 ⟨rfl, rfl⟩
  go_wp2_with (with_reducible refine wpList_copy_splice rfl (.tmp 10) (.tmp 11) 23 23 rfl 45 Tryd.underlying23 (by kernel_rfl) _ _ _ _ _ _ rfl rfl w.heap.size 0 (Z.map (Value.int .u64)) 45 ?hg (X.map (Value.int .u64)) ?hn ?hpos ?hfit ?h1 w.heap.size w ?hb (Nat.le_refl _) ?_)
  case hg => exact Row.new _ _ _ _
  case hn => rw [List.length_map, hxr.len]; simp
  case hpos => exact rd_pos hxr
  case hfit => rw [List.length_map, List.length_map, hxr.len, HZ.out]; simp
  case h1 => exact ints_oneCell _ _
  case hb => exact (Below.refl _ _).alloc (Nat.le_refl _) _
  intro w2 hrow hb
  clear hmk
  go_wp2
  go_ret
  have hr := hrow.out
  rw [splice_all (by rw [List.length_map, List.length_map, hxr.len, HZ.out]; simp)] at hr
  have hr2 : Row w2 w.heap.size 45 .u64 X := hr
  exact ⟨_, _, _, rfl, ⟨by rw [← HX.out]; exact hr2.rd hxr.len (fun j x hx => by rwa [Nat.zero_add]), Nat.le_refl _, hle, h.pos⟩, hb, fun a ha => by injection ha with ha; subst ha; exact Nat.le_refl _⟩
/-- 'q, r, nil'. -/
def QRE (Q R : Int) (w : World) (e : Ending) (w' : World) : Prop :=
  ∃ B m cap B' m' cap', e = .returned (.tuple #[.slice B m cap, .slice B' m' cap', .nilIface]) ∧ Cn w' B m cap Q ∧ Cn w' B' m' cap' R ∧ Below w.heap.size w w' ∧ (∀ x, B = some x → w.heap.size ≤ x.block) ∧ ∀ x, B' = some x → w.heap.size ≤ x.block
def Err2 (code : Int) (w : World) (e : Ending) (w' : World) : Prop :=
  e = .returned (.tuple #[.slice none 0 0, .slice none 0 0, .iface 43 (.int .i64 code)]) ∧ Below w.heap.size w w'
set_option maxHeartbeats 1000000 in
theorem div_any {A A' : Option Addr} {n c n' c' : Nat} {N M : Int} {w : World} (h : Nm w A n c N) (h' : Nm w A' n' c' M) (hl : dl N ≤ 64) (hl' : dl M ≤ 64) (hM : 0 < M) :
    Calls Tryd.prog 28 #[.slice A n c, .slice A' n' c'] w (QRE (N / M) (N % M) w) := by
  have hx := h.lim
  have hy := h'.lim
  have hz : ((dl M : Int) == 0) = false := by
    have : dl M ≠ 0 := fun e => by have := (dl_zero h'.pos).1 e; omega
    simpa using this
  by_cases hlt : dl N < dl M
  · have hNM : N < M := by
      rcases Int.lt_or_le N M with g | g
      · exact g
      · have := dl_mono h'.pos g; omega
    rw [Int.ediv_eq_zero_of_lt h.pos hNM, Int.emod_eq_of_lt h.pos hNM]
    have HNM := Lib.hid hNM
    clear hNM
    go_enter Tryd.func28, Tryd.ntmps28
    go_wp2_with fail
    refine (limbs_nm h).mono ?_
    rintro e w1 ⟨rfl, rfl⟩
    go_wp2_with fail
    refine (limbs_nm h').mono ?_
    rintro e w1 ⟨rfl, rfl⟩
    go_wp2_with fail
    refine (tooLong_no _ _ _ _ _ _ _ hl hl').mono ?_
    rintro e w1 ⟨rfl, rfl⟩
    go_wp2_with fail
    refine (norm_any hx.nm).mono ?_
    rintro e w1 ⟨B, m, cap, rfl, k1, k2, k3⟩
    go_wp2
    go_ret3
    exact ⟨_, _, _, _, _, _, rfl, Cn.nil _, k1, k2, fun x hx => (by cases hx), k3⟩
  · have hge : dl M ≤ dl N := by omega
    go_enter Tryd.func28, Tryd.ntmps28
    go_wp2_with fail
    refine (limbs_nm h).mono ?_
    rintro e w1 ⟨rfl, rfl⟩
    go_wp2_with fail
    refine (limbs_nm h').mono ?_
    rintro e w1 ⟨rfl, rfl⟩
    go_wp2_with fail
    refine (tooLong_no _ _ _ _ _ _ _ hl hl').mono ?_
    rintro e w1 ⟨rfl, rfl⟩
    go_wp2_with fail
    refine (divide_any hx hy hM hge hl).mono ?_
    rintro e w1 ⟨B, m, cap, B', m', cap', rfl, k1, k2, k3, k4, k5⟩
    go_wp2
    go_ret3
    exact ⟨_, _, _, _, _, _, rfl, k1, k2, k3, k4, k5⟩
theorem div_long {A A' : Option Addr} {n c n' c' : Nat} {N M : Int} {w : World} (h : Nm w A n c N) (h' : Nm w A' n' c' M) (hl : 64 < dl N ∨ 64 < dl M) :
    Calls Tryd.prog 28 #[.slice A n c, .slice A' n' c'] w (Err2 2 w) := by
  have HL := Lib.hid hl
  clear hl
  go_enter Tryd.func28, Tryd.ntmps28
  go_wp2_with fail
  refine (limbs_nm h).mono ?_
  rintro e w1 ⟨rfl, rfl⟩
  go_wp2_with fail
  refine (limbs_nm h').mono ?_
  rintro e w1 ⟨rfl, rfl⟩
  go_wp2_with fail
  refine (tooLong_yes _ _ _ _ _ _ _ HL.out).mono ?_
  rintro e w1 ⟨rfl, rfl⟩
  go_wp2
  go_ret3
  exact ⟨rfl, Below.refl _ _⟩
theorem div_none {A A' : Option Addr} {n c n' c' : Nat} {N : Int} {w : World} (h : Nm w A n c N) (h' : Nm w A' n' c' 0) (hl : dl N ≤ 64) :
    Calls Tryd.prog 28 #[.slice A n c, .slice A' n' c'] w (Err2 4 w) := by
  have h0 : dl 0 = 0 := (dl_zero (Int.le_refl 0)).2 rfl
  have hl' : dl 0 ≤ 64 := by omega
  have hz : ((dl 0 : Int) == 0) = true := by simpa using h0
  have H0 := Lib.hid h0
  clear h0
  go_enter Tryd.func28, Tryd.ntmps28
  go_wp2_with fail
  refine (limbs_nm h).mono ?_
  rintro e w1 ⟨rfl, rfl⟩
  go_wp2_with fail
  refine (limbs_nm h').mono ?_
  rintro e w1 ⟨rfl, rfl⟩
  go_wp2_with fail
  refine (tooLong_no _ _ _ _ _ _ _ hl hl').mono ?_
  rintro e w1 ⟨rfl, rfl⟩
  go_wp2
  go_ret3
  exact ⟨rfl, Below.refl _ _⟩
end Go.Proofs.YtjalncdllegfoaaDoor
/-
  What nat.Sub answers: the difference of two numbers, ErrLong or ErrLess.
-/
namespace Go.Proofs.YtjalncdllegfoaaDoor
open Go.RowKit
theorem sub_step {X Y zs : List Int} {k : Nat} {cr v c' : Int} (hk : k < zs.length) (e : v - W * c' = dig X k - dig Y k - cr)
    (h : vf W (dig zs) k - cr * W ^ k = vf W (dig X) k - vf W (dig Y) k) : vf W (dig (zs.set k v)) (k + 1) - c' * W ^ (k + 1) = vf W (dig X) (k + 1) - vf W (dig Y) (k + 1) := by
  rw [vf_set hk]
  simp only [vf]
  rw [Int.pow_succ]
  generalize vf W (dig zs) k = a at *
  generalize vf W (dig X) k = x at *
  generalize vf W (dig Y) k = y at *
  generalize W ^ k = p at *
  grind
/-- The last borrow is 0. -/
theorem sub_last {N M : Int} {zs : List Int} {cr : Int} (h0 : 0 ≤ M) (hNM : M ≤ N) (hz : zs.length = dl N) (hd : Dig W zs) (c0 : 0 ≤ cr)
    (h : vf W (dig zs) (dl N) - cr * W ^ (dl N) = vf W (dig (dg W N)) (dl N) - vf W (dig (dg W M)) (dl N)) : val W zs = N - M := by
  rw [val_dl (by omega) (Nat.le_refl _), val_dl h0 (dl_mono h0 hNM)] at h
  have hb := vf_bd (b := W) (by decide) (fun j => dig_bd (b := W) (by decide) hd j) (dl N)
  have hp := pow_pos' W_two (dl N)
  rw [val_vf W zs (m := dl N) (by omega)]
  rcases Int.lt_or_le 0 cr with g | g
  · have : W ^ dl N ≤ cr * W ^ dl N := by
      have := Int.mul_le_mul_of_nonneg_right (show (1 : Int) ≤ cr by omega) (show 0 ≤ W ^ dl N by omega)
      omega
    omega
  · have : cr = 0 := by omega
    subst this; simpa using h
def SubR (N M : Int) (w : World) (c i : Value) (wr : World) : Prop :=
  ∃ (k : Nat) (zs : List Int) (cr : Int), k ≤ dl N ∧ i = .int .i64 k ∧ c = .int .u64 cr ∧ 0 ≤ cr ∧ cr ≤ 1 ∧ Row wr w.heap.size 45 .u64 zs ∧ zs.length = dl N ∧ Dig W zs ∧
    vf W (dig zs) k - cr * W ^ k = vf W (dig (dg W N)) k - vf W (dig (dg W M)) k ∧ Below w.heap.size w wr
set_option maxHeartbeats 1000000 in
theorem sub_any {A A' : Option Addr} {n c n' c' : Nat} {N M : Int} {w : World} (h : Nm w A n c N) (h' : Nm w A' n' c' M) (hl : dl N ≤ 64) (hl' : dl M ≤ 64) (hNM : M ≤ N) :
    Calls Tryd.prog 70 #[.slice A n c, .slice A' n' c'] w (Ans (N - M) w) := by
  have hx := h.lim
  have hy := h'.lim
  have hmk := fun W => run_make64 (dl N) (C := (dl N : Int)) rfl (by omega) W
  obtain ⟨Z, hZ⟩ : ∃ Z : List Int, Z = List.replicate (dl N) 0 := ⟨_, rfl⟩
  rw [← hZ] at hmk
  have HZ := Lib.hid hZ
  clear hZ
  have hcm : decide (cmpI N M < 0) = false := by
    rcases Int.lt_or_eq_of_le hNM with g | g
    · rw [cmpI_gt g]; rfl
    · subst g; rw [cmpI_eq]; rfl
  go_enter Tryd.func70, Tryd.ntmps70
  go_wp2_with fail
  refine (limbs_nm h).mono ?_
  rintro e w1 ⟨rfl, rfl⟩
  go_wp2_with fail
  refine (limbs_nm h').mono ?_
  rintro e w1 ⟨rfl, rfl⟩
  go_wp2_with fail
  refine (tooLong_no _ _ _ _ _ _ _ hl hl').mono ?_
  rintro e w1 ⟨rfl, rfl⟩
  go_wp2_with fail
  refine (cmp_any hx.nm hy.nm).mono ?_
  rintro e w1 ⟨rfl, q, rfl⟩
  go_wp2_with fail
  clear hmk hcm
  go_loopw [9, 29] (fun c i wr => SubR N M w c i wr) (fun _ i _ => dl N - (intOf i).toNat)
  case atStart =>
    exact ⟨0, Z, 0, Nat.zero_le _, rfl, rfl, Int.le_refl _, by decide, Row.drewN (Row.new _ _ _ _) q, by rw [HZ.out]; simp, by rw [HZ.out]; intro x hx; simp at hx; rw [hx.2]; exact ⟨by decide, by decide⟩, by simp [vf], below_drewN ((Below.refl _ _).alloc (Nat.le_refl _) _) q⟩
  case round =>
    obtain ⟨k, zs, cr, hk, rfl, rfl, c0, c1, hrow, hzl, hzd, hv, hb⟩ := hrel
    have HV := Lib.hid hv
    clear hv
    rcases Nat.lt_or_ge k (dl N) with hlt | hge
    · have d1 := dig_W (dig_dg W_two hx.pos) k
      have d2 := dig_W (dig_dg W_two hy.pos) k
      obtain ⟨b, off, x, rfl, hbb, hxx, hcell⟩ := (hx.rd.below hb).at_ hlt
      have hxe := dig_lt hxx
      rw [hxe] at d1
      have HX := Lib.hid hxe
      clear hxe hxx
      have hf := hrow.frozen k
      have hc := hrow.cell (getElem?_dig (show k < zs.length by omega))
      have HB := sub64_bd d1.1 d1.2 d2.1 d2.2 c0 c1
      have hr := hrow.set k (slo x (dig (dg W M) k) cr)
      have hbl := grow_row hrow hb k (.int .u64 (slo x (dig (dg W M) k) cr))
      go_wp2_with fail
      have hY := hy.rd.below hb
      have HSB := Lib.hid (sub64 x (dig (dg W M) k) cr d1.1 d2.1 d2.2 c0 c1)
      go_region_with (first | (go_at_call 87; refine (limbAt_any A' (dl M) c' (dg W M) k _ ?_).mono ?_; exact hY.drew; rintro e w1 ⟨rfl, rfl⟩) | simp only [HSB.out])
      all_goals
        go_wp2
        go_roundw
        case rel => exact ⟨k + 1, _, _, by omega, by go_num, rfl, HB.2.2.1, HB.2.2.2.1, hr.drew, by simpa using hzl, hzd.set HB.1 HB.2.1 k, sub_step (by omega) (by rw [HX.out]; exact HB.2.2.2.2) HV.out, hbl.drew⟩
        case measure => simp [intOf]; omega
    · obtain rfl : k = dl N := by omega
      have hval := sub_last hy.pos hNM hzl hzd c0 HV.out
      have hnm : Nm wr (some ⟨w.heap.size, 0, none⟩) (dl N) (dl N) (N - M) :=
        ⟨⟨zs, hrow.rd hzl (fun j x hx => by rwa [Nat.zero_add]), hzd, hval⟩, Nat.le_refl _, by omega, by have := hx.pos; omega⟩
      clear hval
      go_wp2_with fail
      refine (limbs_nm hnm).mono ?_
      rintro e w1 ⟨rfl, rfl⟩
      go_wp2
      go_ret2
      exact ⟨_, _, _, rfl, hnm.lim, hb, fun a ha => by injection ha with ha; subst ha; exact Nat.le_refl _⟩
theorem sub_long {A A' : Option Addr} {n c n' c' : Nat} {N M : Int} {w : World} (h : Nm w A n c N) (h' : Nm w A' n' c' M) (hl : 64 < dl N ∨ 64 < dl M) :
    Calls Tryd.prog 70 #[.slice A n c, .slice A' n' c'] w (Err1 2 w) := by
  have HL := Lib.hid hl
  clear hl
  go_enter Tryd.func70, Tryd.ntmps70
  go_wp2_with fail
  refine (limbs_nm h).mono ?_
  rintro e w1 ⟨rfl, rfl⟩
  go_wp2_with fail
  refine (limbs_nm h').mono ?_
  rintro e w1 ⟨rfl, rfl⟩
  go_wp2_with fail
  refine (tooLong_yes _ _ _ _ _ _ _ HL.out).mono ?_
  rintro e w1 ⟨rfl, rfl⟩
  go_wp2
  go_ret2
  exact ⟨rfl, Below.refl _ _⟩
theorem sub_less {A A' : Option Addr} {n c n' c' : Nat} {N M : Int} {w : World} (h : Nm w A n c N) (h' : Nm w A' n' c' M) (hl : dl N ≤ 64) (hl' : dl M ≤ 64) (hNM : N < M) :
    Calls Tryd.prog 70 #[.slice A n c, .slice A' n' c'] w (Err1 3 w) := by
  have hx := h.lim
  have hy := h'.lim
  have hcm : decide (cmpI N M < 0) = true := by rw [cmpI_lt hNM]; rfl
  go_enter Tryd.func70, Tryd.ntmps70
  go_wp2_with fail
  refine (limbs_nm h).mono ?_
  rintro e w1 ⟨rfl, rfl⟩
  go_wp2_with fail
  refine (limbs_nm h').mono ?_
  rintro e w1 ⟨rfl, rfl⟩
  go_wp2_with fail
  refine (tooLong_no _ _ _ _ _ _ _ hl hl').mono ?_
  rintro e w1 ⟨rfl, rfl⟩
  go_wp2_with fail
  refine (cmp_any hx.nm hy.nm).mono ?_
  rintro e w1 ⟨rfl, q, rfl⟩
  go_wp2
  go_ret2
  exact ⟨rfl, below_drewN (Below.refl _ _) q⟩
end Go.Proofs.YtjalncdllegfoaaDoor
