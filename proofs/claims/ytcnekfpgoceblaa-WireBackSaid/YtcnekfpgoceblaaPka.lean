/-
  Several texts in one: Num, Val, Mem, Lim, Bits, Nm, Add, Cmp, Times, Mul, Shift, Div64, Take, Divide, Norm, Sub.
-/
import Derived.Test.YtcnekfpgoceblaaProg
import Derived.WalkKit
import Derived.WalkSpells
import Derived.WalkLawsBesides
import Derived.Lib.Hide
import Derived.Deep.Draws
import Derived.Laws.OwnMore
import Derived.Shelf.Small.Bits
import Derived.Shelf.Strconv.Itoa0
import Derived.Shelf.Bits.Mul64
import Derived.Shelf.Spec.BitsCarry
import Derived.Deep.QuietTactic
import Derived.BigQuiet
import Derived.Deep.RegionWith
import Derived.Laws.BitsLemmas
import Derived.Laws.Bits64b
import Derived.Deep.DeepCutAuto
import Derived.Deep.CutBlock
import Derived.Lib.ItoaNum
import Derived.Laws.CopyOwn
import Derived.StillTailTactics
/-
  The number that a list of digits is, and a number's digits; no program is spoken of here.
-/
namespace Go.Proofs.Ytcnekfpgoceblaa
/-- The number that digits are, the lowest first. -/
def val (b : Int) : List Int → Int
  | [] => 0
  | x :: xs => x + b * val b xs
def Dig (b : Int) (xs : List Int) : Prop := ∀ x ∈ xs, 0 ≤ x ∧ x < b
def dgN (b : Nat) (n : Nat) : List Int :=
  if _h : n = 0 ∨ b ≤ 1 then [] else ((n % b : Nat) : Int) :: dgN b (n / b)
termination_by n
decreasing_by exact Nat.div_lt_self (by omega) (by omega)
/-- A number's digits, the lowest first, no nought at the end. -/
def dg (b n : Int) : List Int := dgN b.toNat n.toNat
theorem dg_zero (b : Int) : dg b 0 = [] := by unfold dg dgN; simp
theorem dg_pos {b n : Int} (hb : 2 ≤ b) (hn : 0 < n) : dg b n = n % b :: dg b (n / b) := by
  obtain ⟨c, rfl⟩ := Int.eq_ofNat_of_zero_le (show 0 ≤ b by omega)
  obtain ⟨m, rfl⟩ := Int.eq_ofNat_of_zero_le (show 0 ≤ n by omega)
  unfold dg
  rw [dgN, dif_neg (by simp; omega)]
  simp
  congr 1
theorem dg_ind {P : Int → Prop} {b : Int} (hb : 2 ≤ b) (h0 : P 0) (hs : ∀ n, 0 < n → P (n / b) → P n) : ∀ n, 0 ≤ n → P n := by
  intro n hn
  obtain ⟨m, rfl⟩ := Int.eq_ofNat_of_zero_le hn
  obtain ⟨c, rfl⟩ := Int.eq_ofNat_of_zero_le (show 0 ≤ b by omega)
  induction m using Nat.strongRecOn with
  | _ m ih =>
    rcases Nat.eq_zero_or_pos m with h | h
    · subst h; exact h0
    · refine hs m (by omega) ?_
      have := ih (m / c) (Nat.div_lt_self h (by omega)) (Int.natCast_nonneg _)
      simpa using this
theorem val_dg {b n : Int} (hb : 2 ≤ b) (hn : 0 ≤ n) : val b (dg b n) = n := by
  refine dg_ind (P := fun n => val b (dg b n) = n) hb ?_ ?_ n hn
  · rw [dg_zero]; rfl
  · intro n h ih; rw [dg_pos hb h]; simp only [val]; rw [ih]; exact Int.emod_add_mul_ediv n b
theorem dig_nil (b : Int) : Dig b [] := fun _ h => by cases h
theorem dig_cons {b x : Int} {xs : List Int} : Dig b (x :: xs) ↔ (0 ≤ x ∧ x < b) ∧ Dig b xs := by simp [Dig]
theorem dig_dg {b n : Int} (hb : 2 ≤ b) (hn : 0 ≤ n) : Dig b (dg b n) := by
  refine dg_ind (P := fun n => Dig b (dg b n)) hb ?_ ?_ n hn
  · rw [dg_zero]; exact dig_nil b
  · intro n h ih; rw [dg_pos hb h, dig_cons]; exact ⟨⟨Int.emod_nonneg _ (by omega), Int.emod_lt_of_pos _ (by omega)⟩, ih⟩
theorem val_nonneg {b : Int} (hb : 0 ≤ b) {xs : List Int} (h : Dig b xs) : 0 ≤ val b xs := by
  induction xs with
  | nil => exact Int.le_refl 0
  | cons x xs ih => rw [dig_cons] at h; simp only [val]; have := Int.mul_nonneg hb (ih h.2); omega
theorem val_lt {b : Int} (hb : 0 ≤ b) {xs : List Int} (h : Dig b xs) : val b xs < b ^ xs.length := by
  induction xs with
  | nil => simp [val]
  | cons x xs ih =>
    rw [dig_cons] at h; simp only [val, List.length_cons]
    have h1 := ih h.2
    have h2 : b * (val b xs + 1) ≤ b * b ^ xs.length := Int.mul_le_mul_of_nonneg_left (by omega) hb
    rw [Int.pow_succ, Int.mul_comm (b ^ xs.length)]
    rw [Int.mul_add] at h2; omega
theorem val_append (b : Int) (xs ys : List Int) : val b (xs ++ ys) = val b xs + b ^ xs.length * val b ys := by
  induction xs with
  | nil => simp [val]
  | cons x xs ih => simp only [List.cons_append, val, ih, List.length_cons, Int.pow_succ]; grind
theorem val_zeros (b : Int) {xs : List Int} (h : ∀ x ∈ xs, x = 0) : val b xs = 0 := by
  induction xs with
  | nil => rfl
  | cons x xs ih => simp only [val]; rw [ih (fun y hy => h y (by simp [hy])), h x (by simp)]; simp
/-- Digits without a nought at the end are their number's. -/
theorem dg_uniq {b : Int} (hb : 2 ≤ b) {xs : List Int} (h : Dig b xs) (hl : ∀ x, xs.getLast? = some x → x ≠ 0) : dg b (val b xs) = xs ∧ (xs ≠ [] → 0 < val b xs) := by
  induction xs with
  | nil => exact ⟨by simp [val, dg_zero], fun h => absurd rfl h⟩
  | cons x xs ih =>
    rw [dig_cons] at h
    have hx := h.1
    have hp : 0 < val b (x :: xs) ∧ dg b (val b xs) = xs := by
      cases xs with
      | nil => have := hl x (by simp); simp [val, dg_zero]; omega
      | cons y ys =>
        have hi := ih h.2 (fun z hz => hl z (by simpa using hz))
        refine ⟨?_, hi.1⟩
        have h1 := hi.2 (by simp)
        have h2 := Int.mul_pos (show 0 < b by omega) h1
        rw [val]; omega
    refine ⟨?_, fun _ => hp.1⟩
    rw [dg_pos hb hp.1]
    have e1 : val b (x :: xs) % b = x := by
      simp only [val]; rw [Int.add_mul_emod_self_left]; exact Int.emod_eq_of_lt hx.1 hx.2
    have e2 : val b (x :: xs) / b = val b xs := by
      simp only [val]; rw [Int.add_mul_ediv_left _ _ (by omega), Int.ediv_eq_zero_of_lt hx.1 hx.2]; simp
    rw [e1, e2, hp.2]
/-- What is left of digits when the noughts at their end are struck. -/
theorem strip {b : Int} (hb : 2 ≤ b) {xs : List Int} (h : Dig b xs) {n : Nat} (hn : n ≤ xs.length) (hz : ∀ j, n ≤ j → j < xs.length → xs.getD j 0 = 0) (hl : 0 < n → xs.getD (n - 1) 0 ≠ 0) :
    xs.take n = dg b (val b xs) ∧ n = (dg b (val b xs)).length := by
  have e : val b xs = val b (xs.take n) := by
    conv => lhs; rw [← List.take_append_drop n xs, val_append]
    rw [val_zeros b (xs := xs.drop n)]; · simp
    intro x hx
    obtain ⟨j, hj, rfl⟩ := List.mem_iff_getElem.1 hx
    simp at hj
    have := hz (n + j) (by omega) (by omega)
    rw [List.getElem_drop]
    rw [List.getD_eq_getElem?_getD, List.getElem?_eq_getElem (by omega), Option.getD_some] at this
    exact this
  have hd : Dig b (xs.take n) := fun x hx => h x (List.mem_of_mem_take hx)
  have hu := dg_uniq hb hd (by
    intro x hx
    rw [List.getLast?_eq_getElem?] at hx
    simp only [List.length_take] at hx
    rw [Nat.min_eq_left hn] at hx
    rcases Nat.eq_zero_or_pos n with h0 | h0
    · subst h0; simp at hx
    · have := hl h0
      rw [List.getElem?_take_of_lt (by omega)] at hx
      rw [List.getD_eq_getElem?_getD, hx] at this
      simpa using this)
  rw [e, hu.1]
  exact ⟨rfl, by simp; omega⟩
end Go.Proofs.Ytcnekfpgoceblaa
/-
  Sums of digits' powers, for loops that go digit by digit; no program is spoken of here.
-/
namespace Go.Proofs.Ytcnekfpgoceblaa
/-- A digit, 0 above all. -/
def dig (xs : List Int) (i : Nat) : Int := xs.getD i 0
theorem dig_lt {xs : List Int} {i : Nat} {x : Int} (h : xs[i]? = some x) : dig xs i = x := by simp [dig, h]
theorem dig_ge {xs : List Int} {i : Nat} (h : xs.length ≤ i) : dig xs i = 0 := by simp [dig, List.getElem?_eq_none h]
theorem dig_bd {b : Int} (hb : 0 < b) {xs : List Int} (h : Dig b xs) (i : Nat) : 0 ≤ dig xs i ∧ dig xs i < b := by
  rcases Nat.lt_or_ge i xs.length with hi | hi
  · rw [dig_lt (List.getElem?_eq_getElem hi)]; exact h _ (List.getElem_mem hi)
  · rw [dig_ge hi]; exact ⟨Int.le_refl 0, hb⟩
theorem dig_set {xs : List Int} {i : Nat} {x : Int} (hi : i < xs.length) (j : Nat) : dig (xs.set i x) j = if j = i then x else dig xs j := by
  unfold dig
  rw [List.getD_eq_getElem?_getD, List.getD_eq_getElem?_getD, List.getElem?_set]
  by_cases h : j = i
  · subst h; simp [hi]
  · rw [if_neg (by omega), if_neg h]
theorem dig_set_same {xs : List Int} {i : Nat} {x : Int} (hi : i < xs.length) : dig (xs.set i x) i = x := by rw [dig_set hi, if_pos rfl]
theorem dig_set_ne {xs : List Int} {i j : Nat} {x : Int} (h : j ≠ i) : dig (xs.set i x) j = dig xs j := by
  unfold dig
  rw [List.getD_eq_getElem?_getD, List.getD_eq_getElem?_getD, List.getElem?_set, if_neg (by omega)]
theorem Dig.set {b x : Int} {xs : List Int} (h : Dig b xs) (h0 : 0 ≤ x) (h1 : x < b) (i : Nat) : Dig b (xs.set i x) := by
  intro y hy
  rcases List.mem_or_eq_of_mem_set hy with hy | rfl
  · exact h y hy
  · exact ⟨h0, h1⟩
theorem dig_take {xs : List Int} {n j : Nat} (h : j < n) : dig (xs.take n) j = dig xs j := by
  unfold dig; rw [List.getD_eq_getElem?_getD, List.getD_eq_getElem?_getD, List.getElem?_take_of_lt h]
theorem dig_drop {xs : List Int} {n j : Nat} : dig (xs.drop n) j = dig xs (n + j) := by
  unfold dig; rw [List.getD_eq_getElem?_getD, List.getD_eq_getElem?_getD, List.getElem?_drop]
theorem dig_replicate (n j : Nat) : dig (List.replicate n 0) j = 0 := by
  unfold dig; rw [List.getD_eq_getElem?_getD, List.getElem?_replicate]; split <;> rfl
theorem getElem?_dig {xs : List Int} {i : Nat} (h : i < xs.length) : xs[i]? = some (dig xs i) := by
  rw [List.getElem?_eq_getElem h, dig_lt (List.getElem?_eq_getElem h)]
theorem ext_dig {xs ys : List Int} (h : xs.length = ys.length) (k : ∀ j, j < xs.length → dig xs j = dig ys j) : xs = ys := by
  apply List.ext_getElem? 
  intro j
  rcases Nat.lt_or_ge j xs.length with hj | hj
  · rw [getElem?_dig hj, getElem?_dig (by omega), k j hj]
  · rw [List.getElem?_eq_none hj, List.getElem?_eq_none (by omega)]

/-- The sum of f j times b to the j, j below k. -/
def vf (b : Int) (f : Nat → Int) : Nat → Int
  | 0 => 0
  | k + 1 => vf b f k + f k * b ^ k
theorem vf_congr (b : Int) {f g : Nat → Int} {k : Nat} (h : ∀ j, j < k → f j = g j) : vf b f k = vf b g k := by
  induction k with
  | zero => rfl
  | succ k ih => simp only [vf]; rw [ih (fun j hj => h j (by omega)), h k (by omega)]
theorem vf_zero (b : Int) {f : Nat → Int} {k m : Nat} (hm : k ≤ m) (h : ∀ j, k ≤ j → f j = 0) : vf b f m = vf b f k := by
  induction m with
  | zero => have : k = 0 := by omega
            subst this; rfl
  | succ m ih =>
    rcases Nat.lt_or_ge m k with h1 | h1
    · have : k = m + 1 := by omega
      subst this; rfl
    · simp only [vf]; rw [ih h1, h m h1]; simp
theorem val_take (b : Int) (xs : List Int) {k : Nat} (hk : k ≤ xs.length) : val b (xs.take k) = vf b (dig xs) k := by
  induction k with
  | zero => rfl
  | succ k ih =>
    rw [List.take_succ_eq_append_getElem (by omega), val_append, ih (by omega)]
    have : (xs.take k).length = k := by rw [List.length_take]; omega
    rw [this]
    simp only [vf, val]
    rw [dig_lt (List.getElem?_eq_getElem (show k < xs.length by omega))]
    simp [Int.mul_comm]
theorem val_vf (b : Int) (xs : List Int) {m : Nat} (hm : xs.length ≤ m) : val b xs = vf b (dig xs) m := by
  have h := val_take b xs (Nat.le_refl _)
  rw [List.take_length] at h
  rw [h]
  exact (vf_zero b hm (fun j hj => dig_ge hj)).symm
theorem dg_len_le {b n : Int} (hb : 2 ≤ b) (hn : 0 ≤ n) {k : Nat} (h : n < b ^ k) : (dg b n).length ≤ k := by
  induction k generalizing n with
  | zero => have : n = 0 := by simp at h; omega
            subst this; simp [dg_zero]
  | succ k ih =>
    rcases Int.lt_or_eq_of_le hn with h0 | h0
    · rw [dg_pos hb h0, List.length_cons]
      have := ih (n := n / b) (Int.ediv_nonneg hn (by omega)) (Int.ediv_lt_of_lt_mul (by omega) (by rwa [Int.pow_succ] at h))
      omega
    · subst h0; simp [dg_zero]
theorem pow_mono {b : Int} (hb : 1 ≤ b) {k m : Nat} (h : k ≤ m) : b ^ k ≤ b ^ m := by
  obtain ⟨c, rfl⟩ := Int.eq_ofNat_of_zero_le (show 0 ≤ b by omega)
  have := Nat.pow_le_pow_right (show 0 < c by omega) h
  have h2 : ((c ^ k : Nat) : Int) ≤ ((c ^ m : Nat) : Int) := by omega
  simpa using h2
theorem dg_lt_pow {b n : Int} (hb : 2 ≤ b) (hn : 0 ≤ n) {k : Nat} (h : (dg b n).length ≤ k) : n < b ^ k := by
  have h1 := val_lt (b := b) (by omega) (dig_dg hb hn)
  rw [val_dg hb hn] at h1
  exact Int.lt_of_lt_of_le h1 (pow_mono (by omega) h)
theorem pow_pos' {b : Int} (hb : 2 ≤ b) (k : Nat) : 0 < b ^ k := Int.pow_pos (by omega)
theorem dg_len_mono {b n m : Int} (hb : 2 ≤ b) (hn : 0 ≤ n) (h : n ≤ m) : (dg b n).length ≤ (dg b m).length :=
  dg_len_le hb hn (Int.lt_of_le_of_lt h (dg_lt_pow hb (by omega) (Nat.le_refl _)))
theorem dg_nil_iff {b n : Int} (hb : 2 ≤ b) (hn : 0 ≤ n) : (dg b n).length = 0 ↔ n = 0 := by
  constructor
  · intro h
    have := dg_lt_pow hb hn (k := 0) (by omega)
    simp at this; omega
  · rintro rfl; simp [dg_zero]
/-- The highest digit isn't 0. -/
theorem dg_top {b n : Int} (hb : 2 ≤ b) (hn : 0 < n) : 1 ≤ dig (dg b n) ((dg b n).length - 1) := by
  have hd := dig_dg hb (show 0 ≤ n by omega)
  have hl : 0 < (dg b n).length := by
    rcases Nat.eq_zero_or_pos (dg b n).length with h | h
    · have := (dg_nil_iff hb (by omega)).1 h; omega
    · exact h
  have h0 := dig_bd (b := b) (by omega) hd ((dg b n).length - 1)
  rcases Int.lt_or_eq_of_le h0.1 with h | h
  · omega
  · exfalso
    have hv : val b (dg b n) = vf b (dig (dg b n)) ((dg b n).length - 1) := by
      rw [val_vf b (dg b n) (Nat.le_refl _)]
      obtain ⟨m, hm⟩ : ∃ m, (dg b n).length = m + 1 := ⟨(dg b n).length - 1, by omega⟩
      rw [hm] at h ⊢
      simp only [Nat.add_sub_cancel] at h ⊢
      simp only [vf]; rw [← h]; simp
    have h1 : vf b (dig (dg b n)) ((dg b n).length - 1) < b ^ ((dg b n).length - 1) := by
      rw [← val_take b (dg b n) (by omega)]
      have := val_lt (b := b) (by omega) (xs := (dg b n).take ((dg b n).length - 1)) (fun x hx => hd x (List.mem_of_mem_take hx))
      rwa [List.length_take, Nat.min_eq_left (by omega)] at this
    rw [val_dg hb (by omega)] at hv
    rw [← hv] at h1
    have := dg_len_le hb (by omega) h1
    omega
end Go.Proofs.Ytcnekfpgoceblaa
/-
  A slice of integers that reads as a list, nil let in; a block that is known whole; what becomes of both behind draws, new blocks, stores elsewhere.
-/
namespace Go.Proofs.Ytcnekfpgoceblaa
open Go.RowKit

/-- The slice '.slice A n c' reads as the numbers xs. -/
structure Rd (k : IntKind) (w : World) (A : Option Addr) (n : Nat) (xs : List Int) : Prop where
  len : xs.length = n
  cells : 0 < n → ∃ b off, A = some ⟨b, off, none⟩ ∧ b < w.heap.size ∧ ∀ j x, xs[j]? = some x → w.cell? ⟨b, off + j, none⟩ = some (.int k x)

section
variable {k : IntKind} {w w' : World} {A : Option Addr} {n : Nat} {xs : List Int}
theorem Rd.nil (k : IntKind) (w : World) (A : Option Addr) : Rd k w A 0 [] := ⟨rfl, fun h => absurd h (by omega)⟩
theorem Rd.at_ (h : Rd k w A n xs) {j : Nat} (hj : j < n) : ∃ b off x, A = some ⟨b, off, none⟩ ∧ b < w.heap.size ∧ xs[j]? = some x ∧ w.cell? ⟨b, off + j, none⟩ = some (.int k x) := by
  obtain ⟨b, off, e, hb, hc⟩ := h.cells (by omega)
  have hl : j < xs.length := by have := h.len; omega
  exact ⟨b, off, xs[j], e, hb, List.getElem?_eq_getElem hl, hc j _ (List.getElem?_eq_getElem hl)⟩
theorem Rd.keep (h : Rd k w A n xs) (hs : w.heap.size ≤ w'.heap.size) (hk : ∀ p : Addr, p.block < w.heap.size → w'.cell? p = w.cell? p) : Rd k w' A n xs :=
  ⟨h.len, fun hn => by
    obtain ⟨b, off, e, hb, hc⟩ := h.cells hn
    exact ⟨b, off, e, by omega, fun j x hx => (hk _ hb).trans (hc j x hx)⟩⟩
theorem Rd.below (h : Rd k w A n xs) (hb : Below w.heap.size w w') : Rd k w' A n xs := h.keep hb.size fun _ hp => hb.cell hp
theorem Rd.drewN (h : Rd k w A n xs) (m : Nat) : Rd k (w.drewN m) A n xs := ⟨h.len, h.cells⟩
theorem Rd.drew (h : Rd k w A n xs) : Rd k w.drew A n xs := ⟨h.len, h.cells⟩
theorem Rd.alloc (h : Rd k w A n xs) (o : Obj) : Rd k (w.alloc o) A n xs := h.keep (by simp) fun p hp => World.cell?_alloc_lt w o p hp
/-- Only block g may have turned, and it isn't one that is read here. -/
theorem Rd.grown (h : Rd k w A n xs) {g : Nat} (hg : w.grownBy w' (some g)) (hne : ∀ a, A = some a → a.block ≠ g) : Rd k w' A n xs :=
  ⟨h.len, fun hn => by
    obtain ⟨b, off, e, hb, hc⟩ := h.cells hn
    have hb' := hg.size
    exact ⟨b, off, e, by omega, fun j x hx => (World.cell?_of_block (hg.block b hb (fun he => hne _ e (by injection he)))).trans (hc j x hx)⟩⟩
theorem Rd.take (h : Rd k w A n xs) {m : Nat} (hm : m ≤ n) : Rd k w A m (xs.take m) :=
  ⟨by rw [List.length_take, h.len]; omega, fun hn => by
    obtain ⟨b, off, e, hb, hc⟩ := h.cells (by omega)
    refine ⟨b, off, e, hb, fun j x hx => hc j x ?_⟩
    rcases Nat.lt_or_ge j m with hj | hj
    · rwa [List.getElem?_take_of_lt hj] at hx
    · rw [List.getElem?_eq_none (by rw [List.length_take]; omega)] at hx; cases hx⟩
end

/-- Block g is just the numbers xs, none frozen. -/
def Row (w : World) (g : Nat) (t : TypeId) (k : IntKind) (xs : List Int) : Prop := w.heap[g]? = some (.cells (xs.map (Value.int k)).toArray t (0, 0))

section
variable {w w' : World} {g : Nat} {t : TypeId} {k : IntKind} {xs : List Int}
theorem Row.lt (h : Row w g t k xs) : g < w.heap.size := by
  rcases Nat.lt_or_ge g w.heap.size with hlt | hge
  · exact hlt
  · unfold Row at h; rw [Array.getElem?_eq_none hge] at h; cases h
theorem Row.cell (h : Row w g t k xs) {i : Nat} {x : Int} (hx : xs[i]? = some x) : w.cell? ⟨g, i, none⟩ = some (.int k x) := by
  rw [cell_of_row w g i _ t (0, 0) h]; simp [hx]
theorem Row.frozen (h : Row w g t k xs) (i : Nat) : w.frozen? ⟨g, i, none⟩ = false := frozen_of_row w g i _ t h
theorem Row.new (w : World) (t : TypeId) (k : IntKind) (xs : List Int) : Row (w.alloc (.cells (xs.map (Value.int k)).toArray t)) w.heap.size t k xs := heap_alloc_new w _
theorem Row.drew (h : Row w g t k xs) : Row w.drew g t k xs := h
theorem Row.drewN (h : Row w g t k xs) (n : Nat) : Row (w.drewN n) g t k xs := h
theorem Row.alloc (h : Row w g t k xs) (o : Obj) : Row (w.alloc o) g t k xs := (Below.heap_alloc w o g h.lt).trans h
theorem Row.set (h : Row w g t k xs) (i : Nat) (x : Int) : Row (w.setCell ⟨g, i, none⟩ (.int k x)) g t k (xs.set i x) := by
  unfold Row at h ⊢
  simp [World.setCell, Array.getElem?_modify, h, List.map_set]
theorem Row.below {B : Nat} (h : Row w g t k xs) (hb : Below B w w') (hg : g < B) : Row w' g t k xs := (hb.block g hg).trans h
theorem Row.grown {row : Option Nat} (h : Row w g t k xs) (hb : w.grownBy w' row) (hg : some g ≠ row) : Row w' g t k xs := (hb.block g h.lt hg).trans h
/-- A part of the block, as a slice reads. -/
theorem Row.rd (h : Row w g t k xs) {off n : Nat} {ys : List Int} (hn : ys.length = n) (hy : ∀ j x, ys[j]? = some x → xs[off + j]? = some x) : Rd k w (some ⟨g, off, none⟩) n ys :=
  ⟨hn, fun _ => ⟨g, off, rfl, h.lt, fun j x hx => h.cell (hy j x hx)⟩⟩
theorem Row.rd0 (h : Row w g t k xs) {n : Nat} (hn : n ≤ xs.length) : Rd k w (some ⟨g, 0, none⟩) n (xs.take n) :=
  h.rd (by simp; omega) fun j x hx => by
    rcases Nat.lt_or_ge j n with hj | hj
    · rw [List.getElem?_take_of_lt hj] at hx; rwa [Nat.zero_add]
    · rw [List.getElem?_eq_none (by rw [List.length_take]; omega)] at hx; cases hx
end

theorem grown_of_below {a w : World} (h : Below a.heap.size a w) (row : Option Nat) : a.grownBy w row := ⟨h.os, h.tape, h.output, h.size, fun i hi _ => h.block i hi⟩
theorem grown_trans {a b c : World} {row : Option Nat} (h : a.grownBy b row) (k : b.grownBy c row) : a.grownBy c row :=
  ⟨k.os.trans h.os, k.tape.trans h.tape, k.output.trans h.output, Nat.le_trans h.size k.size, fun i hi hn => (k.block i (Nat.lt_of_lt_of_le hi h.size) hn).trans (h.block i hi hn)⟩
theorem grown_drewN {a w : World} {row : Option Nat} (h : a.grownBy w row) (n : Nat) : a.grownBy (w.drewN n) row := ⟨h.os, h.tape, h.output, h.size, h.block⟩
theorem grown_drew {a w : World} {row : Option Nat} (h : a.grownBy w row) : a.grownBy w.drew row := ⟨h.os, h.tape, h.output, h.size, h.block⟩
theorem grown_setCell {a w : World} {g : Nat} (h : a.grownBy w (some g)) (i : Nat) (u : Value) : a.grownBy (w.setCell ⟨g, i, none⟩ u) (some g) :=
  ⟨h.os, h.tape, h.output, by simpa [World.setCell] using h.size, fun j hj hne => (Below.heap_setCell w ⟨g, i, none⟩ u j (by rintro rfl; exact hne rfl)).trans (h.block j hj hne)⟩
theorem below_drewN {B : Nat} {a w : World} (h : Below B a w) (n : Nat) : Below B a (w.drewN n) := ⟨h.os, h.tape, h.output, h.size, h.block⟩
theorem below_grown {B : Nat} {a w w' : World} {g : Nat} (h : Below B a w) (hg : w.grownBy w' (some g)) (hB : B ≤ w.heap.size) (hr : B ≤ g) : Below B a w' :=
  h.grown hg hB (fun k e => by injection e with e; omega)
end Go.Proofs.Ytcnekfpgoceblaa
/-
  What the small calls of package nat answer: limbs, tooLong, limbAt.
-/
namespace Go.Proofs.Ytcnekfpgoceblaa
open Go.RowKit

/-- 2 to the 64. -/
def W : Int := 18446744073709551616
theorem W_two : 2 ≤ W := by decide
/-- How many digits count. -/
def nl (xs : List Int) : Nat := (dg W (val W xs)).length

def LimR (xs : List Int) (n : Nat) (t : Value) : Prop := ∃ k : Nat, k ≤ n ∧ (∀ j, k ≤ j → j < n → xs.getD j 0 = 0) ∧ t = .int .i64 k

theorem limbs_end {A : Option Addr} {n k : Nat} {xs : List Int} {w : World} (h : Rd .u64 w A n xs) (hd : Dig W xs) (hk : k ≤ n) (hz : ∀ j, k ≤ j → j < n → xs.getD j 0 = 0) (hl : 0 < k → xs.getD (k - 1) 0 ≠ 0) : k = nl xs := by
  have hn := h.len
  subst hn
  exact (strip W_two hd hk hz hl).2

theorem dig_W {xs : List Int} (h : Dig W xs) (i : Nat) : 0 ≤ dig xs i ∧ dig xs i < 18446744073709551616 := dig_bd (by decide) h i

end Go.Proofs.Ytcnekfpgoceblaa
/-
  The library's calls of math/bits at this program, by the shelf's contracts: Add64, Sub64, Mul64, Len64, LeadingZeros64, over the integers.
-/
namespace Go.Proofs.Ytcnekfpgoceblaa
open Go.Shelf Go.RowKit
/-- The two halves of a product. -/
def mhi (x y : Int) : Int := x * y / 18446744073709551616
def mlo (x y : Int) : Int := x * y % 18446744073709551616
/-- The sum and its carry, the difference and its borrow. -/
def alo (x y c : Int) : Int := (x + y + c) % 18446744073709551616
def ahi (x y c : Int) : Int := (x + y + c) / 18446744073709551616
def slo (x y b : Int) : Int := (x - y - b) % 18446744073709551616
def shi (x y b : Int) : Int := if x < y + b then 1 else 0
theorem add64_bd {x y c : Int} (hx : 0 ≤ x) (hx' : x < 18446744073709551616) (hy : 0 ≤ y) (hy' : y < 18446744073709551616) (hc0 : 0 ≤ c) (hc : c ≤ 1) :
    0 ≤ alo x y c ∧ alo x y c < 18446744073709551616 ∧ 0 ≤ ahi x y c ∧ ahi x y c ≤ 1 ∧ alo x y c + 18446744073709551616 * ahi x y c = x + y + c := by unfold alo ahi; omega
theorem sub64_bd {x y c : Int} (hx : 0 ≤ x) (hx' : x < 18446744073709551616) (hy : 0 ≤ y) (hy' : y < 18446744073709551616) (hc0 : 0 ≤ c) (hc : c ≤ 1) :
    0 ≤ slo x y c ∧ slo x y c < 18446744073709551616 ∧ 0 ≤ shi x y c ∧ shi x y c ≤ 1 ∧ slo x y c - 18446744073709551616 * shi x y c = x - y - c := by unfold slo shi; split <;> omega
theorem mul64_bd {x y : Int} (hx : 0 ≤ x) (hx' : x < 18446744073709551616) (hy : 0 ≤ y) (hy' : y < 18446744073709551616) :
    0 ≤ mlo x y ∧ mlo x y < 18446744073709551616 ∧ 0 ≤ mhi x y ∧ mhi x y ≤ 18446744073709551614 ∧ mlo x y + 18446744073709551616 * mhi x y = x * y := by
  have h1 : 0 ≤ x * y := Int.mul_nonneg hx hy
  have h2 : x * y ≤ 18446744073709551615 * 18446744073709551615 := Int.mul_le_mul (by omega) (by omega) hy (by decide)
  unfold mlo mhi; omega
end Go.Proofs.Ytcnekfpgoceblaa
/-
  A slice that is a number; what limbs makes of it; the post of calls that answer a number and no error.
-/
namespace Go.Proofs.Ytcnekfpgoceblaa
open Go.RowKit
/-- How many digits of 64 bits a number has. -/
def dl (N : Int) : Nat := (dg W N).length
/-- The slice is a number, however it is told. -/
structure Nm (w : World) (A : Option Addr) (n c : Nat) (N : Int) : Prop where
  ex : ∃ xs, Rd .u64 w A n xs ∧ Dig W xs ∧ val W xs = N
  nc : n ≤ c
  c60 : n ≤ 17592186044416
  pos : 0 ≤ N
/-- The slice is a number, told without noughts at the end. -/
structure Cn (w : World) (A : Option Addr) (n c : Nat) (N : Int) : Prop where
  rd : Rd .u64 w A n (dg W N)
  nc : n ≤ c
  c60 : n ≤ 17592186044416
  pos : 0 ≤ N
section
variable {w w' : World} {A : Option Addr} {n c : Nat} {N : Int}
theorem Cn.nm (h : Cn w A n c N) : Nm w A n c N := ⟨⟨_, h.rd, dig_dg W_two h.pos, val_dg W_two h.pos⟩, h.nc, h.c60, h.pos⟩
theorem Cn.len_ (h : Cn w A n c N) : n = dl N := h.rd.len.symm
theorem Nm.below (h : Nm w A n c N) (hb : Below w.heap.size w w') : Nm w' A n c N := by
  obtain ⟨⟨xs, h1, h2, h3⟩, h4, h5, h6⟩ := h
  exact ⟨⟨xs, h1.below hb, h2, h3⟩, h4, h5, h6⟩
theorem Cn.below (h : Cn w A n c N) (hb : Below w.heap.size w w') : Cn w' A n c N := ⟨h.rd.below hb, h.nc, h.c60, h.pos⟩
theorem Nm.drewN (h : Nm w A n c N) (m : Nat) : Nm (w.drewN m) A n c N := h.below (below_drewN (Below.refl _ _) m)
theorem Cn.drewN (h : Cn w A n c N) (m : Nat) : Cn (w.drewN m) A n c N := h.below (below_drewN (Below.refl _ _) m)
theorem Nm.alloc (h : Nm w A n c N) (o : Obj) : Nm (w.alloc o) A n c N := h.below ((Below.refl _ _).alloc (Nat.le_refl _) o)
theorem Cn.alloc (h : Cn w A n c N) (o : Obj) : Cn (w.alloc o) A n c N := h.below ((Below.refl _ _).alloc (Nat.le_refl _) o)
/-- What counts of it. -/
theorem Nm.lim (h : Nm w A n c N) : Cn w A (dl N) c N := by
  obtain ⟨⟨xs, h1, h2, h3⟩, h4, h5, h6⟩ := h
  subst h3
  -- the digits that count are a beginning of those that are told
  have hl := h1.len
  have key : ∃ m, m ≤ xs.length ∧ (∀ j, m ≤ j → j < xs.length → xs.getD j 0 = 0) ∧ (0 < m → xs.getD (m - 1) 0 ≠ 0) := by
    clear h1 h2 hl h4 h5 h6
    generalize hk : xs.length = k
    have h0 : ∀ j, k ≤ j → j < k → xs.getD j 0 = 0 := fun j a b => by omega
    have hle : k ≤ k := Nat.le_refl k
    revert h0 hle
    generalize hm : k = m
    have : ∀ m, (∀ j, m ≤ j → j < k → xs.getD j 0 = 0) → m ≤ k → ∃ m, m ≤ k ∧ (∀ j, m ≤ j → j < k → xs.getD j 0 = 0) ∧ (0 < m → xs.getD (m - 1) 0 ≠ 0) := by
      intro m
      induction m with
      | zero => intro h _; exact ⟨0, by omega, h, fun h => absurd h (by omega)⟩
      | succ m ih =>
        intro h hle
        by_cases hz : xs.getD m 0 = 0
        · refine ih (fun j a b => ?_) (by omega)
          rcases Nat.lt_or_ge m j with hj | hj
          · exact h j (by omega) b
          · obtain rfl : j = m := by omega
            exact hz
        · exact ⟨m + 1, hle, h, fun _ => by simpa using hz⟩
    subst hm
    exact this k
  obtain ⟨m, a, b, d⟩ := key
  obtain ⟨e1, e2⟩ := strip W_two h2 a b d
  have e3 : dl (val W xs) = m := e2.symm
  refine ⟨?_, by omega, by omega, h6⟩
  rw [e3, ← e1]
  exact h1.take (by omega)
theorem Nm.dl_le (h : Nm w A n c N) : dl N ≤ n := by
  obtain ⟨⟨xs, h1, h2, h3⟩, h4, h5, h6⟩ := h
  subst h3
  exact dg_len_le W_two h6 (h1.len ▸ val_lt (by decide) h2)
/-- nil is 0. -/
theorem Cn.nil (w : World) : Cn w none 0 0 0 := ⟨by rw [dg_zero]; exact Rd.nil _ _ _, Nat.le_refl _, by omega, Int.le_refl _⟩
/-- One digit. -/
theorem Nm.one {g cap : Nat} {x : Int} (h : Row w g 41 .u64 [x]) (h0 : 0 ≤ x) (h1 : x < W) (hc : 1 ≤ cap) (_hc : cap ≤ 17592186044416) : Nm w (some ⟨g, 0, none⟩) 1 cap x :=
  ⟨⟨[x], h.rd (by rfl) (fun j y hy => by simpa using hy), fun y hy => by simp at hy; subst hy; exact ⟨h0, h1⟩, by simp [val]⟩, hc, by omega, h0⟩
end

/-- 'x, nil' was answered, x the number N in new memory. -/
def Ans (N : Int) (w : World) (e : Ending) (w' : World) : Prop :=
  ∃ B m cap, e = .returned (.tuple #[.slice B m cap, .nilIface]) ∧ Cn w' B m cap N ∧ Below w.heap.size w w' ∧ ∀ a, B = some a → w.heap.size ≤ a.block
/-- 'nil, err' was answered, err a Code. -/
def Err1 (code : Int) (w : World) (e : Ending) (w' : World) : Prop :=
  e = .returned (.tuple #[.slice none 0 0, .iface 57 (.int .i64 code)]) ∧ Below w.heap.size w w'
theorem dl_le {N : Int} (h0 : 0 ≤ N) {k : Nat} (h : N < W ^ k) : dl N ≤ k := dg_len_le W_two h0 h
theorem lt_dl {N : Int} (h0 : 0 ≤ N) {k : Nat} (h : dl N ≤ k) : N < W ^ k := dg_lt_pow W_two h0 h
theorem dl_mono {N M : Int} (h0 : 0 ≤ N) (h : N ≤ M) : dl N ≤ dl M := dg_len_mono W_two h0 h
theorem dl_zero {N : Int} (h0 : 0 ≤ N) : dl N = 0 ↔ N = 0 := dg_nil_iff W_two h0
theorem val_dl {N : Int} (h0 : 0 ≤ N) {m : Nat} (h : dl N ≤ m) : vf W (dig (dg W N)) m = N := by
  rw [← val_vf W (dg W N) h, val_dg W_two h0]
end Go.Proofs.Ytcnekfpgoceblaa
/-
  What nat.Add answers: the sum of two numbers, or ErrLong.
-/
namespace Go.Proofs.Ytcnekfpgoceblaa
open Go.RowKit

theorem info62 : (Try.prog.info? 41).map (fun i => (i.zero, i.size, i.bytes)) = some (some (.int .u64 0), 1, 8) := by kernel_rfl
theorem made64 (n : Nat) : madeCells (Value.cells (.int .u64 0)) (n * 1) = ((List.replicate n 0).map (Value.int .u64)).toArray := by
  apply Array.ext'
  rw [Nat.mul_one]
  show (madeCells #[Value.int .u64 0] n).toList = _
  rw [toList_madeCells_one]; simp
/-- make([]uint64, n): n noughts in a new block. -/
theorem run_make64 (n : Nat) {C : Int} (hC : C = n) (hn : n ≤ 35184372088832) (w : World) : (Instr.makeSlice 26 (.int .i64 C) (.int .i64 C)).run Try.prog w =
    .ok (.slice (some ⟨w.heap.size, 0, none⟩) n n) (w.alloc (.cells ((List.replicate n 0).map (Value.int .u64)).toArray 41)) := by
  subst hC
  obtain ⟨i0, hi, hz0, hz1, hz2⟩ := info_parts info62
  have hr := run_make (P := Try.prog) w 26 41 i0 (.int .u64 0) Try.underlying26 hi hz0 .i64 .i64 n n (by omega) (by omega) (by rw [hz2]; omega) (by omega)
  rw [hz1, made64] at hr
  simpa using hr
def AddR (X Y : List Int) (n : Nat) (w : World) (c i : Value) (wr : World) : Prop :=
  ∃ (k : Nat) (zs : List Int) (cr : Int), k ≤ n ∧ i = .int .i64 k ∧ c = .int .u64 cr ∧ 0 ≤ cr ∧ cr ≤ 1 ∧ Row wr w.heap.size 41 .u64 zs ∧ zs.length = n + 1 ∧ Dig W zs ∧
    vf W (dig zs) k + cr * W ^ k = vf W (dig X) k + vf W (dig Y) k ∧ Below w.heap.size w wr
theorem vf_set {zs : List Int} {k : Nat} (hk : k < zs.length) (v : Int) : vf W (dig (zs.set k v)) (k + 1) = vf W (dig zs) k + v * W ^ k := by
  simp only [vf]
  rw [dig_set_same hk, vf_congr W (g := dig zs) (fun j hj => dig_set_ne (by omega))]
theorem add_step {X Y zs : List Int} {k : Nat} {cr v c' : Int} (hk : k < zs.length) (e : v + W * c' = dig X k + dig Y k + cr)
    (h : vf W (dig zs) k + cr * W ^ k = vf W (dig X) k + vf W (dig Y) k) : vf W (dig (zs.set k v)) (k + 1) + c' * W ^ (k + 1) = vf W (dig X) (k + 1) + vf W (dig Y) (k + 1) := by
  rw [vf_set hk]
  simp only [vf]
  rw [Int.pow_succ]
  generalize vf W (dig zs) k = a at *
  generalize vf W (dig X) k = x at *
  generalize vf W (dig Y) k = y at *
  generalize W ^ k = p at *
  grind
theorem add_last {X Y zs : List Int} {m : Nat} {cr : Int} (hk : zs.length = m + 1) (hx : X.length ≤ m) (hy : Y.length ≤ m)
    (h : vf W (dig zs) m + cr * W ^ m = vf W (dig X) m + vf W (dig Y) m) : val W (zs.set m cr) = val W X + val W Y := by
  rw [val_vf W (zs.set m cr) (m := m + 1) (by simp [hk]), vf_set (by omega), val_vf W X hx, val_vf W Y hy, h]
theorem grow_row {w wr : World} {t : TypeId} {k : IntKind} {zs : List Int} (_h : Row wr w.heap.size t k zs) (hb : Below w.heap.size w wr) (i : Nat) (u : Value) : Below w.heap.size w (wr.setCell ⟨w.heap.size, i, none⟩ u) :=
  hb.setCell (Nat.le_refl _) u
end Go.Proofs.Ytcnekfpgoceblaa
/-
  What nat.Cmp answers: -1, 0 or 1, as the one number stands to the other.
-/
namespace Go.Proofs.Ytcnekfpgoceblaa
open Go.RowKit

theorem quiet_add {P : Program} {f : FuncId} {args : Array Value} {w : World} {a n : Nat} {v : Value}
    (h : Calls P f args (w.drewN (a + n)) fun e w' => e = .returned v ∧ w.drewN (a + n) = w') :
    Calls P f args (w.drewN (a + n)) fun e w'' => e = .returned v ∧ ∃ m, w'' = w.drewN (a + m) :=
  h.mono fun _ _ ⟨he, hm⟩ => ⟨he, n, hm.symm⟩
theorem quiet_one {P : Program} {f : FuncId} {args : Array Value} {w : World} {n : Nat} {v : Value}
    (h : Calls P f args (w.drewN n) fun e w' => e = .returned v ∧ w.drewN n = w') : Calls P f args (w.drewN n) fun e w'' => e = .returned v ∧ ∃ m, w'' = w.drewN m :=
  h.mono fun _ _ ⟨he, hm⟩ => ⟨he, n, hm.symm⟩

/-- -1, 0, 1. -/
def cmpI (a b : Int) : Int := if a < b then -1 else if b < a then 1 else 0
theorem cmpI_lt {a b : Int} (h : a < b) : cmpI a b = -1 := by simp [cmpI, h]
theorem cmpI_gt {a b : Int} (h : b < a) : cmpI a b = 1 := by unfold cmpI; rw [if_neg (by omega), if_pos h]
theorem cmpI_eq (a : Int) : cmpI a a = 0 := by simp [cmpI]
theorem cmpI_bd (a b : Int) : -1 ≤ cmpI a b ∧ cmpI a b ≤ 1 := by unfold cmpI; split <;> (try split) <;> omega
theorem cmpI_flip (a b : Int) : cmpI b a = -cmpI a b := by unfold cmpI; split <;> split <;> (try split) <;> omega

/-! ### Numbers are compared by their highest digit that differs -/
theorem vf_bd {b : Int} (hb : 1 ≤ b) {f : Nat → Int} (h : ∀ j, 0 ≤ f j ∧ f j < b) (k : Nat) : 0 ≤ vf b f k ∧ vf b f k < b ^ k := by
  induction k with
  | zero => simp [vf]
  | succ k ih =>
    have hp : 0 < b ^ k := Int.pow_pos (by omega)
    have h1 : 0 ≤ f k * b ^ k := Int.mul_nonneg (h k).1 (by omega)
    have h2 : f k * b ^ k ≤ (b - 1) * b ^ k := Int.mul_le_mul_of_nonneg_right (by have := (h k).2; omega) (by omega)
    rw [Int.sub_mul] at h2
    simp only [vf]
    rw [Int.pow_succ, Int.mul_comm (b ^ k) b]
    omega
theorem vf_same (b : Int) {f g : Nat → Int} {k m : Nat} (hm : k ≤ m) (h : ∀ j, k ≤ j → f j = g j) : vf b f m - vf b f k = vf b g m - vf b g k := by
  induction m with
  | zero => have : k = 0 := by omega
            subst this; omega
  | succ m ih =>
    rcases Nat.lt_or_ge m k with h1 | h1
    · have : k = m + 1 := by omega
      subst this; omega
    · simp only [vf]; rw [h m h1]; have := ih h1; omega
theorem vf_less {b : Int} (hb : 1 ≤ b) {f g : Nat → Int} (hf : ∀ j, 0 ≤ f j ∧ f j < b) (hg : ∀ j, 0 ≤ g j ∧ g j < b) {k m : Nat} (hm : k < m) (h : ∀ j, k < j → f j = g j) (hk : f k < g k) : vf b f m < vf b g m := by
  have h1 := vf_same b (k := k + 1) hm (fun j hj => h j (by omega))
  have h2 := vf_bd hb hf k
  have h3 := vf_bd hb hg k
  have hp : 0 < b ^ k := Int.pow_pos (by omega)
  have h4 : (f k + 1) * b ^ k ≤ g k * b ^ k := Int.mul_le_mul_of_nonneg_right (by omega) (by omega)
  rw [Int.add_mul] at h4
  simp only [vf] at h1
  omega
theorem cmp_at {N M : Int} (hN : 0 ≤ N) (hM : 0 ≤ M) {k m : Nat} (h1 : dl N = m) (h2 : dl M = m) (hm : k < m) (h : ∀ j, k < j → dig (dg W N) j = dig (dg W M) j) : cmpI N M = cmpI (dig (dg W N) k) (dig (dg W M) k) ∨ dig (dg W N) k = dig (dg W M) k := by
  have a1 := val_dl hN (m := m) (by omega)
  have a2 := val_dl hM (m := m) (by omega)
  have b1 := fun j => dig_bd (b := W) (by decide) (dig_dg W_two hN) j
  have b2 := fun j => dig_bd (b := W) (by decide) (dig_dg W_two hM) j
  rcases Int.lt_trichotomy (dig (dg W N) k) (dig (dg W M) k) with g | g | g
  · left
    have := vf_less (b := W) (by decide) b1 b2 hm h g
    rw [cmpI_lt g, cmpI_lt (by omega)]
  · exact .inr g
  · left
    have := vf_less (b := W) (by decide) b2 b1 hm (fun j hj => (h j hj).symm) g
    rw [cmpI_gt g, cmpI_gt (by omega)]
theorem cmp_all {N M : Int} (hN : 0 ≤ N) (hM : 0 ≤ M) (h : ∀ j, dig (dg W N) j = dig (dg W M) j) : cmpI N M = 0 := by
  have a1 := val_dl hN (m := max (dl N) (dl M)) (by omega)
  have a2 := val_dl hM (m := max (dl N) (dl M)) (by omega)
  rw [vf_congr W (g := dig (dg W M)) (fun j _ => h j), a2] at a1
  subst a1
  exact cmpI_eq _
theorem cmp_len {N M : Int} (hN : 0 ≤ N) (hM : 0 ≤ M) (h : dl N ≠ dl M) : cmpI N M = cmpI (dl N) (dl M) := by
  rcases Nat.lt_or_gt_of_ne h with g | g
  · rw [cmpI_lt (show (dl N : Int) < dl M by omega), cmpI_lt]
    rcases Int.lt_or_le N M with k | k
    · exact k
    · have := dl_mono hM k; omega
  · rw [cmpI_gt (show (dl M : Int) < dl N by omega), cmpI_gt]
    rcases Int.lt_or_le M N with k | k
    · exact k
    · have := dl_mono hN k; omega

theorem dig_past {N : Int} {j : Nat} (h : dl N ≤ j) : dig (dg W N) j = 0 := dig_ge h
def CmpR (N M : Int) (w : World) (i : Value) (wr : World) : Prop :=
  ∃ v : Int, i = .int .i64 v ∧ -1 ≤ v ∧ v < dl N ∧ (∀ j : Nat, v < j → dig (dg W N) j = dig (dg W M) j) ∧ ∃ q, wr = w.drewN q
/-- An int was answered; nothing was written. -/
def AnsI (v : Int) (w : World) (e : Ending) (w' : World) : Prop := e = .returned (.int .i64 v) ∧ ∃ q, w' = w.drewN q
end Go.Proofs.Ytcnekfpgoceblaa
/-
  Rows of digits that are changed in place: addTimes, takeTimes, addBack.
-/
namespace Go.Proofs.Ytcnekfpgoceblaa
open Go.RowKit
/-- The number that n digits from off on are. -/
def wv (zs : List Int) (off n : Nat) : Int := vf W (fun j => dig zs (off + j)) n
theorem wv_succ (zs : List Int) (off n : Nat) : wv zs off (n + 1) = wv zs off n + dig zs (off + n) * W ^ n := rfl
theorem wv_set {zs : List Int} {off k : Nat} (hk : off + k < zs.length) (v : Int) : wv (zs.set (off + k) v) off (k + 1) = wv zs off k + v * W ^ k := by
  rw [wv_succ, dig_set_same hk]
  unfold wv
  rw [vf_congr W (g := fun j => dig zs (off + j)) (fun j hj => dig_set_ne (by omega))]
theorem wv_congr {zs ys : List Int} {off n : Nat} (h : ∀ j, off ≤ j → j < off + n → dig zs j = dig ys j) : wv zs off n = wv ys off n :=
  vf_congr W (fun j hj => h (off + j) (by omega) (by omega))
theorem wv_bd {zs : List Int} (h : Dig W zs) (off n : Nat) : 0 ≤ wv zs off n ∧ wv zs off n < W ^ n :=
  vf_bd (by decide) (fun j => dig_bd (by decide) h _) n
/-- Behind a call that changed n digits of block g from off on: all else is as it was. -/
structure Turned (w w' : World) (g off n : Nat) (zs ys : List Int) : Prop where
  row : Row w' g 41 .u64 ys
  len : ys.length = zs.length
  dig_ : Dig W ys
  rest : ∀ j, j < off ∨ off + n ≤ j → dig ys j = dig zs j
  grown : w.grownBy w' (some g)
theorem Turned.refl {w : World} {g off : Nat} {zs : List Int} (h : Row w g 41 .u64 zs) (hd : Dig W zs) : Turned w w g off 0 zs zs :=
  ⟨h, rfl, hd, fun _ _ => rfl, World.grownBy.refl w _⟩
theorem Turned.step {w w' : World} {g off n : Nat} {zs ys : List Int} (h : Turned w w' g off n zs ys) {v : Int} (h0 : 0 ≤ v) (h1 : v < W) : Turned w (w'.setCell ⟨g, off + n, none⟩ (.int .u64 v)) g off (n + 1) zs (ys.set (off + n) v) :=
  ⟨h.row.set _ _, by simpa using h.len, h.dig_.set h0 h1 _, fun j hj => by rw [dig_set_ne (by omega)]; exact h.rest j (by omega), grown_setCell h.grown _ _⟩
theorem Turned.drew {w w' : World} {g off n : Nat} {zs ys : List Int} (h : Turned w w' g off n zs ys) : Turned w w'.drew g off n zs ys := ⟨h.row.drew, h.len, h.dig_, h.rest, grown_drew h.grown⟩

/-! ### addTimes -/
theorem times_step {z y K over lo hi l1 c1 z' c2 : Int} (h0 : lo + W * hi = y * K) (h1 : l1 + W * c1 = lo + over + 0) (h2 : z' + W * c2 = z + l1 + 0) : z' + W * (hi + c1 + c2) = z + y * K + over := by
  grind
theorem times_fits {z y K over a b : Int} (hz : z < 18446744073709551616) (hy0 : 0 ≤ y) (hy : y < 18446744073709551616) (hK0 : 0 ≤ K) (hK : K < 18446744073709551616) (ho : over < 18446744073709551616) (ha : 0 ≤ a) (h : a + 18446744073709551616 * b = z + y * K + over) : b < 18446744073709551616 := by
  have h2 : y * K ≤ 18446744073709551615 * 18446744073709551615 := Int.mul_le_mul (by omega) (by omega) hK0 (by decide)
  omega
theorem times_sum {zs ys Y : List Int} {off k : Nat} {K over over' v : Int} (hk : off + k < ys.length) (hr : dig ys (off + k) = dig zs (off + k))
    (e : v + W * over' = dig ys (off + k) + dig Y k * K + over) (h : wv ys off k + over * W ^ k = wv zs off k + K * vf W (dig Y) k) :
    wv (ys.set (off + k) v) off (k + 1) + over' * W ^ (k + 1) = wv zs off (k + 1) + K * vf W (dig Y) (k + 1) := by
  rw [wv_set hk, wv_succ, ← hr]
  simp only [vf]
  rw [Int.pow_succ]
  generalize wv ys off k = a at *
  generalize wv zs off k = b at *
  generalize vf W (dig Y) k = d at *
  generalize W ^ k = p at *
  generalize dig ys (off + k) = z at *
  generalize dig Y k = y at *
  grind
def TimesR (zs Y : List Int) (off n g : Nat) (K : Int) (w : World) (o i : Value) (wr : World) : Prop :=
  ∃ (k : Nat) (ys : List Int) (over : Int), k ≤ n ∧ i = .int .i64 k ∧ o = .int .u64 over ∧ 0 ≤ over ∧ over < 18446744073709551616 ∧ Turned w wr g off k zs ys ∧ wv ys off k + over * W ^ k = wv zs off k + K * vf W (dig Y) k
def TimesP (zs Y : List Int) (off n g : Nat) (K : Int) (w : World) (e : Ending) (w' : World) : Prop :=
  ∃ (ys : List Int) (over : Int), e = .returned (.int .u64 over) ∧ 0 ≤ over ∧ over < 18446744073709551616 ∧ Turned w w' g off n zs ys ∧ wv ys off n + over * W ^ n = wv zs off n + K * vf W (dig Y) n
/-! ### takeTimes -/
theorem take_step {z y K over lo hi l1 c1 z' c2 : Int} (h0 : lo + W * hi = y * K) (h1 : l1 + W * c1 = lo + over + 0) (h2 : z' - W * c2 = z - l1 - 0) : z' - W * (hi + c1 + c2) = z - y * K - over := by
  grind
theorem take_fits {z y K over a b : Int} (hz : 0 ≤ z) (hy0 : 0 ≤ y) (hy : y < 18446744073709551616) (hK0 : 0 ≤ K) (hK : K < 18446744073709551616) (ho : over < 18446744073709551616) (ha : a < 18446744073709551616) (h : a - 18446744073709551616 * b = z - y * K - over) : b < 18446744073709551616 := by
  have h2 : y * K ≤ 18446744073709551615 * 18446744073709551615 := Int.mul_le_mul (by omega) (by omega) hK0 (by decide)
  omega
theorem take_sum {zs ys Y : List Int} {off k : Nat} {K over over' v : Int} (hk : off + k < ys.length) (hr : dig ys (off + k) = dig zs (off + k))
    (e : v - W * over' = dig ys (off + k) - dig Y k * K - over) (h : wv ys off k - over * W ^ k = wv zs off k - K * vf W (dig Y) k) :
    wv (ys.set (off + k) v) off (k + 1) - over' * W ^ (k + 1) = wv zs off (k + 1) - K * vf W (dig Y) (k + 1) := by
  rw [wv_set hk, wv_succ, ← hr]
  simp only [vf]
  rw [Int.pow_succ]
  generalize wv ys off k = a at *
  generalize wv zs off k = b at *
  generalize vf W (dig Y) k = d at *
  generalize W ^ k = p at *
  generalize dig ys (off + k) = z at *
  generalize dig Y k = y at *
  grind
def TakeR (zs Y : List Int) (off n g : Nat) (K : Int) (w : World) (o i : Value) (wr : World) : Prop :=
  ∃ (k : Nat) (ys : List Int) (over : Int), k ≤ n ∧ i = .int .i64 k ∧ o = .int .u64 over ∧ 0 ≤ over ∧ over < 18446744073709551616 ∧ Turned w wr g off k zs ys ∧ wv ys off k - over * W ^ k = wv zs off k - K * vf W (dig Y) k
def TakeP (zs Y : List Int) (off n g : Nat) (K : Int) (w : World) (e : Ending) (w' : World) : Prop :=
  ∃ (ys : List Int) (over : Int), e = .returned (.int .u64 over) ∧ 0 ≤ over ∧ over < 18446744073709551616 ∧ Turned w w' g off n zs ys ∧ wv ys off n - over * W ^ n = wv zs off n - K * vf W (dig Y) n
/-! ### addBack -/
theorem back_sum {zs ys Y : List Int} {off k : Nat} {over over' v : Int} (hk : off + k < ys.length) (hr : dig ys (off + k) = dig zs (off + k))
    (e : v + W * over' = dig ys (off + k) + dig Y k + over) (h : wv ys off k + over * W ^ k = wv zs off k + vf W (dig Y) k) :
    wv (ys.set (off + k) v) off (k + 1) + over' * W ^ (k + 1) = wv zs off (k + 1) + vf W (dig Y) (k + 1) := by
  rw [wv_set hk, wv_succ, ← hr]
  simp only [vf]
  rw [Int.pow_succ]
  generalize wv ys off k = a at *
  generalize wv zs off k = b at *
  generalize vf W (dig Y) k = d at *
  generalize W ^ k = p at *
  generalize dig ys (off + k) = z at *
  generalize dig Y k = y at *
  grind
def BackR (zs Y : List Int) (off n g : Nat) (w : World) (o i : Value) (wr : World) : Prop :=
  ∃ (k : Nat) (ys : List Int) (over : Int), k ≤ n ∧ i = .int .i64 k ∧ o = .int .u64 over ∧ 0 ≤ over ∧ over ≤ 1 ∧ Turned w wr g off k zs ys ∧ wv ys off k + over * W ^ k = wv zs off k + vf W (dig Y) k
def BackP (zs Y : List Int) (off n g : Nat) (w : World) (e : Ending) (w' : World) : Prop :=
  ∃ (ys : List Int) (over : Int), e = .returned (.int .u64 over) ∧ 0 ≤ over ∧ over ≤ 1 ∧ Turned w w' g off n zs ys ∧ wv ys off n + over * W ^ n = wv zs off n + vf W (dig Y) n
end Go.Proofs.Ytcnekfpgoceblaa
/-
  What nat.Mul answers: the product of two numbers, or ErrLong.
-/
namespace Go.Proofs.Ytcnekfpgoceblaa
open Go.RowKit
theorem vf_split (b : Int) (f : Nat → Int) (k n : Nat) : vf b f (k + n) = vf b f k + b ^ k * vf b (fun j => f (k + j)) n := by
  induction n with
  | zero => simp [vf]
  | succ n ih =>
    rw [← Nat.add_assoc]
    simp only [vf]
    rw [ih, Int.pow_add]
    grind
theorem mul_step {zs ys X : List Int} {k b : Nat} {M over : Int} (hl : k + b < ys.length) (hpre : ∀ j, j < k → dig ys j = dig zs j)
    (h : wv ys k b + over * W ^ b = wv zs k b + dig X k * M) (hv : vf W (dig zs) (k + b) = vf W (dig X) k * M) :
    vf W (dig (ys.set (k + b) over)) (k + 1 + b) = vf W (dig X) (k + 1) * M := by
  have e1 : k + 1 + b = (k + b) + 1 := by omega
  rw [e1]
  rw [vf_set hl, vf_split W (dig ys) k b, vf_congr W (f := dig ys) (g := dig zs) (k := k) (fun j hj => hpre j hj)]
  have e2 : vf W (dig zs) (k + b) = vf W (dig zs) k + W ^ k * wv zs k b := vf_split W (dig zs) k b
  have e3 : vf W (fun j => dig ys (k + j)) b = wv ys k b := rfl
  rw [e3, Int.pow_add]
  rw [e2] at hv
  simp only [vf]
  generalize vf W (dig zs) k = a at *
  generalize wv ys k b = u at *
  generalize wv zs k b = v at *
  generalize W ^ k = p at *
  generalize W ^ b = q at *
  generalize vf W (dig X) k = x at *
  generalize dig X k = d at *
  grind
theorem mul_end {zs X : List Int} {a b : Nat} {M N : Int} (hl : zs.length = a + b) (hN : vf W (dig X) a = N) (hv : vf W (dig zs) (a + b) = vf W (dig X) a * M) : val W zs = N * M := by
  rw [val_vf W zs (m := a + b) (by omega), hv, hN]
def MulR (N M : Int) (w : World) (i : Value) (wr : World) : Prop :=
  ∃ (k : Nat) (zs : List Int), k ≤ dl N ∧ i = .int .i64 k ∧ Row wr w.heap.size 41 .u64 zs ∧ zs.length = dl N + dl M ∧ Dig W zs ∧
    vf W (dig zs) (k + dl M) = vf W (dig (dg W N)) k * M ∧ Below w.heap.size w wr
end Go.Proofs.Ytcnekfpgoceblaa
/-
  Digits shifted by some bits: shiftLeft, shiftRight.
-/
namespace Go.Proofs.Ytcnekfpgoceblaa
open Go.RowKit
set_option linter.unusedVariables false
/-- 2 to the s. -/
def pw (s : Nat) : Int := 2 ^ s
theorem pw_pos (s : Nat) : 0 < pw s := Int.pow_pos (by decide)
theorem pw_mul {s : Nat} (hs : s ≤ 64) : pw s * pw (64 - s) = 18446744073709551616 := by
  unfold pw; rw [← Int.pow_add, Nat.add_sub_cancel' hs]; decide
theorem pw_nat (s : Nat) : ((2 ^ s : Nat) : Int) = pw s := by simp [pw]
theorem wrap_shl (y : Int) {s : Nat} (hs : s ≤ 64) : IntKind.u64.wrap (y * 2 ^ s) = pw s * (y % pw (64 - s)) := by
  rw [IntKind.wrap_u64, ← pw_mul hs, Int.mul_comm y]
  exact Int.mul_emod_mul_of_pos _ _ (pw_pos s)
/-- High and low bits, put together. -/
theorem or_sum {s : Nat} (hs : s ≤ 64) {q r : Int} (q0 : 0 ≤ q) (q1 : q < pw (64 - s)) (r0 : 0 ≤ r) (r1 : r < pw s) : bits .or .u64 (pw s * q) r = pw s * q + r := by
  have hm := pw_mul hs
  have hp := pw_pos s
  have hb : pw s * (q + 1) ≤ 18446744073709551616 := by rw [← hm]; exact Int.mul_le_mul_of_nonneg_left (by omega) (by omega)
  rw [Int.mul_add] at hb
  obtain ⟨a, rfl⟩ := Int.eq_ofNat_of_zero_le q0
  obtain ⟨b, rfl⟩ := Int.eq_ofNat_of_zero_le r0
  rw [← pw_nat] at hb r1 ⊢
  have e : ((2 ^ s : Nat) : Int) * (a : Int) = ((2 ^ s * a : Nat) : Int) := (Int.natCast_mul _ _).symm
  rw [e] at hb ⊢
  have hr : b < 2 ^ s := by omega
  rw [bits_or_u64_nat _ _ (by omega) (by omega), ← Nat.two_pow_add_eq_or_of_lt hr a, Int.natCast_add]
theorem or_sum' {s : Nat} (hs : s ≤ 64) {q r : Int} (q0 : 0 ≤ q) (q1 : q < pw (64 - s)) (r0 : 0 ≤ r) (r1 : r < pw s) : bits .or .u64 r (pw s * q) = pw s * q + r := by
  have hm := pw_mul hs
  have hp := pw_pos s
  have hb : pw s * (q + 1) ≤ 18446744073709551616 := by rw [← hm]; exact Int.mul_le_mul_of_nonneg_left (by omega) (by omega)
  rw [Int.mul_add] at hb
  obtain ⟨a, rfl⟩ := Int.eq_ofNat_of_zero_le q0
  obtain ⟨b, rfl⟩ := Int.eq_ofNat_of_zero_le r0
  rw [← pw_nat] at hb r1 ⊢
  have e : ((2 ^ s : Nat) : Int) * (a : Int) = ((2 ^ s * a : Nat) : Int) := (Int.natCast_mul _ _).symm
  rw [e] at hb ⊢
  have hr : b < 2 ^ s := by omega
  rw [bits_or_u64_nat _ _ (by omega) (by omega), Nat.or_comm, ← Nat.two_pow_add_eq_or_of_lt hr a, Int.natCast_add]
theorem shl_or {s : Nat} (hs : s ≤ 64) {x ov : Int} (x0 : 0 ≤ x) (x1 : x < 18446744073709551616) (o0 : 0 ≤ ov) (o1 : ov < pw s) :
    0 ≤ bits .or .u64 (IntKind.u64.wrap (x * 2 ^ s)) ov ∧ bits .or .u64 (IntKind.u64.wrap (x * 2 ^ s)) ov < W ∧ 0 ≤ x / 2 ^ (64 - s) ∧ x / 2 ^ (64 - s) < pw s ∧
      bits .or .u64 (IntKind.u64.wrap (x * 2 ^ s)) ov + W * (x / 2 ^ (64 - s)) = pw s * x + ov := by
  have hm := pw_mul hs
  have hp := pw_pos s
  have hq := pw_pos (64 - s)
  have g0 := Int.emod_nonneg x (show pw (64 - s) ≠ 0 by omega)
  have g1 := Int.emod_lt_of_pos x hq
  rw [wrap_shl x hs, or_sum hs g0 g1 o0 o1]
  have hb : pw s * (x % pw (64 - s) + 1) ≤ 18446744073709551616 := by rw [← hm]; exact Int.mul_le_mul_of_nonneg_left (by omega) (by omega)
  rw [Int.mul_add] at hb
  have h0 : 0 ≤ pw s * (x % pw (64 - s)) := Int.mul_nonneg (by omega) g0
  have e : x / 2 ^ (64 - s) = x / pw (64 - s) := rfl
  rw [e]
  have hd := Int.emod_add_mul_ediv x (pw (64 - s))
  refine ⟨by omega, by unfold W; omega, Int.ediv_nonneg x0 (by omega), Int.ediv_lt_of_lt_mul hq (by rw [hm]; exact x1), ?_⟩
  have hW : W = pw s * pw (64 - s) := hm.symm
  rw [hW]
  generalize pw s = p at *
  generalize pw (64 - s) = q at *
  generalize x % q = a at *
  generalize x / q = b at *
  grind
theorem shr_or {s : Nat} (hs : s ≤ 64) {x y : Int} (x0 : 0 ≤ x) (x1 : x < 18446744073709551616) :
    0 ≤ bits .or .u64 (x / 2 ^ s) (IntKind.u64.wrap (y * 2 ^ (64 - s))) ∧ bits .or .u64 (x / 2 ^ s) (IntKind.u64.wrap (y * 2 ^ (64 - s))) < W ∧
      pw s * bits .or .u64 (x / 2 ^ s) (IntKind.u64.wrap (y * 2 ^ (64 - s))) = x - x % pw s + W * (y % pw s) := by
  have hm := pw_mul hs
  have hp := pw_pos s
  have hq := pw_pos (64 - s)
  have es : 64 - (64 - s) = s := by omega
  have g0 := Int.emod_nonneg y (show pw s ≠ 0 by omega)
  have g1 := Int.emod_lt_of_pos y hp
  have e : x / 2 ^ s = x / pw s := rfl
  have f0 := Int.ediv_nonneg x0 (show 0 ≤ pw s by omega)
  have f1 : x / pw s < pw (64 - s) := Int.ediv_lt_of_lt_mul hp (by rw [Int.mul_comm, hm]; exact x1)
  rw [wrap_shl y (s := 64 - s) (by omega), es, e, or_sum' (s := 64 - s) (by omega) g0 (by rw [es]; exact g1) f0 f1]
  have hb : pw (64 - s) * (y % pw s + 1) ≤ 18446744073709551616 := by rw [← hm, Int.mul_comm (pw s)]; exact Int.mul_le_mul_of_nonneg_left (by omega) (by omega)
  rw [Int.mul_add] at hb
  have h0 : 0 ≤ pw (64 - s) * (y % pw s) := Int.mul_nonneg (by omega) g0
  have hd := Int.emod_add_mul_ediv x (pw s)
  refine ⟨by omega, by unfold W; omega, ?_⟩
  have hW : W = pw s * pw (64 - s) := hm.symm
  rw [hW]
  generalize pw s = p at *
  generalize pw (64 - s) = q at *
  generalize y % p = a at *
  generalize x / p = b at *
  generalize x % p = d at *
  grind
theorem shl_step {X zs : List Int} {k : Nat} {P ov v ov' : Int} (hk : k < zs.length) (e : v + W * ov' = P * dig X k + ov)
    (h : vf W (dig zs) k + ov * W ^ k = P * vf W (dig X) k) : vf W (dig (zs.set k v)) (k + 1) + ov' * W ^ (k + 1) = P * vf W (dig X) (k + 1) := by
  rw [vf_set hk]
  simp only [vf]
  rw [Int.pow_succ]
  generalize vf W (dig zs) k = a at *
  generalize vf W (dig X) k = x at *
  generalize W ^ k = p at *
  generalize dig X k = d at *
  grind
theorem shr_step {X zs : List Int} {k : Nat} {P v r0 r1 r : Int} (hk : k < zs.length) (e : P * v = dig X k - r0 + W * r1)
    (h : P * vf W (dig zs) k = vf W (dig X) k + r0 * W ^ k - r) : P * vf W (dig (zs.set k v)) (k + 1) = vf W (dig X) (k + 1) + r1 * W ^ (k + 1) - r := by
  rw [vf_set hk]
  simp only [vf]
  rw [Int.pow_succ]
  generalize vf W (dig zs) k = a at *
  generalize vf W (dig X) k = x at *
  generalize W ^ k = p at *
  generalize dig X k = d at *
  grind
def ShlR (X : List Int) (n s : Nat) (w : World) (o i : Value) (wr : World) : Prop :=
  ∃ (k : Nat) (zs : List Int) (ov : Int), k ≤ n ∧ i = .int .i64 k ∧ o = .int .u64 ov ∧ 0 ≤ ov ∧ ov < pw s ∧ Row wr w.heap.size 41 .u64 zs ∧ zs.length = n + 1 ∧ Dig W zs ∧
    vf W (dig zs) k + ov * W ^ k = pw s * vf W (dig X) k ∧ Below w.heap.size w wr
def ShlP (X : List Int) (n s : Nat) (w : World) (e : Ending) (w' : World) : Prop :=
  ∃ zs : List Int, e = .returned (.slice (some ⟨w.heap.size, 0, none⟩) (n + 1) (n + 1)) ∧ Row w' w.heap.size 41 .u64 zs ∧ zs.length = n + 1 ∧ Dig W zs ∧ vf W (dig zs) (n + 1) = pw s * vf W (dig X) n ∧ Below w.heap.size w w'
theorem pw_lt {s : Nat} (hs : s < 64) : pw s < W := by
  have := pw_mul (Nat.le_of_lt hs)
  have h1 := pw_pos s
  have h2 : 2 ≤ pw (64 - s) := by
    have h3 := pow_mono (b := 2) (by decide) (show 1 ≤ 64 - s by omega)
    unfold pw; omega
  have h4 := Int.mul_le_mul_of_nonneg_left h2 (show 0 ≤ pw s by omega)
  unfold W; omega
def ShrR (X : List Int) (n s : Nat) (w : World) (i : Value) (wr : World) : Prop :=
  ∃ (k : Nat) (zs : List Int), k ≤ n ∧ i = .int .i64 k ∧ Row wr w.heap.size 41 .u64 zs ∧ zs.length = n ∧ Dig W zs ∧
    pw s * vf W (dig zs) k = vf W (dig X) k + (dig X k % pw s) * W ^ k - dig X 0 % pw s ∧ Below w.heap.size w wr
def ShrP (X : List Int) (n s : Nat) (w : World) (e : Ending) (w' : World) : Prop :=
  ∃ zs : List Int, e = .returned (.slice (some ⟨w.heap.size, 0, none⟩) n n) ∧ Row w' w.heap.size 41 .u64 zs ∧ zs.length = n ∧ Dig W zs ∧ pw s * vf W (dig zs) n = vf W (dig X) n - dig X 0 % pw s ∧ Below w.heap.size w w'
end Go.Proofs.Ytcnekfpgoceblaa
/-
  What bits.Div64 answers where the divisor's highest bit is set: the quotient.
-/
namespace Go.Proofs.Ytcnekfpgoceblaa
open Go.RowKit
set_option linter.unusedVariables false
theorem bitLen_top {x : Nat} (h0 : 9223372036854775808 ≤ x) (h1 : x < 18446744073709551616) : Lib.bitLen x = 64 := by
  have h := Lib.bitLen_shift 63 x (by omega) (by omega)
  have e : x / 2 ^ 63 = 1 := by omega
  rw [h, e]; decide
/-! ### A digit of a quotient, guessed and made less -/
section
variable {u d y1 y0 a t : Int}
theorem dq_init (u0 : 0 ≤ u) (uy : u < y1 * 4294967296 + y0) (d0 : 0 ≤ d) (d1 : d < 4294967296) (ya : 2147483648 ≤ y1) (yb : y1 < 4294967296) (za : 0 ≤ y0) (zb : y0 < 4294967296) :
    0 ≤ u / y1 ∧ u / y1 ≤ 4294967297 ∧ 0 ≤ u - u / y1 * y1 ∧ u - u / y1 * y1 < 4294967296 ∧ u * 4294967296 + d < (u / y1 + 1) * (y1 * 4294967296 + y0) := by
  have hd := Int.emod_add_mul_ediv u y1
  have m0 := Int.emod_nonneg u (show y1 ≠ 0 by omega)
  have m1 := Int.emod_lt_of_pos u (show 0 < y1 by omega)
  have q0 := Int.ediv_nonneg u0 (show 0 ≤ y1 by omega)
  rw [Int.mul_comm y1] at hd
  have q1 : u / y1 < 4294967298 := Int.ediv_lt_of_lt_mul (by omega) (by omega)
  refine ⟨q0, by omega, by omega, by omega, ?_⟩
  have e1 : (u / y1 + 1) * (y1 * 4294967296 + y0) = (u / y1 * y1 + y1) * 4294967296 + (u / y1 + 1) * y0 := by grind
  have e2 : 0 ≤ (u / y1 + 1) * y0 := Int.mul_nonneg (by omega) za
  rw [e1]
  omega
theorem dq_over (uy : u < y1 * 4294967296 + y0) (d1 : d < 4294967296) (ya : 2147483648 ≤ y1) (za : 0 ≤ y0) (ha : 4294967296 ≤ a) : u * 4294967296 + d < a * (y1 * 4294967296 + y0) := by
  have : 4294967296 * (y1 * 4294967296 + y0) ≤ a * (y1 * 4294967296 + y0) := Int.mul_le_mul_of_nonneg_right ha (by omega)
  omega
theorem dq_test (e : a * y1 + t = u) (h : 4294967296 * t + d < a * y0) : u * 4294967296 + d < a * (y1 * 4294967296 + y0) := by
  have e1 : a * (y1 * 4294967296 + y0) = a * y1 * 4294967296 + a * y0 := by grind
  rw [e1]; omega
theorem dq_exit (e : a * y1 + t = u) (h : a * y0 ≤ 4294967296 * t + d) : a * (y1 * 4294967296 + y0) ≤ u * 4294967296 + d := by
  have e1 : a * (y1 * 4294967296 + y0) = a * y1 * 4294967296 + a * y0 := by grind
  rw [e1]; omega
theorem dq_break (e : a * y1 + t = u) (d0 : 0 ≤ d) (za : 0 ≤ y0) (zb : y0 < 4294967296) (ha : a ≤ 4294967296) (a0 : 0 ≤ a) (ht : 4294967296 ≤ t) : a * (y1 * 4294967296 + y0) ≤ u * 4294967296 + d := by
  apply dq_exit e
  have : a * y0 ≤ 4294967296 * 4294967295 := Int.mul_le_mul ha (by omega) za (by decide)
  omega
theorem dq_lt {Y n : Int} (h : a * Y ≤ n) (hn : n < Y * 4294967296) (hY : 0 < Y) : a < 4294967296 := by
  rcases Int.lt_or_le a 4294967296 with g | g
  · exact g
  · have := Int.mul_le_mul_of_nonneg_right g (show 0 ≤ Y by omega)
    omega
end
def DqR (u d y1 y0 : Int) (q r : Value) : Prop :=
  ∃ a t : Int, q = .int .u64 a ∧ r = .int .u64 t ∧ 0 ≤ a ∧ a ≤ 4294967297 ∧ 0 ≤ t ∧ t < 4294967296 ∧ a * y1 + t = u ∧ u * 4294967296 + d < (a + 1) * (y1 * 4294967296 + y0)
/-- The digit. -/
def DqP (u d y1 y0 : Int) (w : World) (q : Value) (w' : World) : Prop :=
  ∃ a : Int, q = .int .u64 a ∧ 0 ≤ a ∧ a < 4294967296 ∧ a * (y1 * 4294967296 + y0) ≤ u * 4294967296 + d ∧ u * 4294967296 + d < (a + 1) * (y1 * 4294967296 + y0) ∧ w = w'
def QAns (q : Int) (w : World) (e : Ending) (w' : World) : Prop := (∃ r, e = .returned (.tuple #[.int .u64 q, .int .u64 r])) ∧ ∃ m, w' = w.drewN m
theorem and_mask {a : Int} (h0 : 0 ≤ a) (h1 : a < 18446744073709551616) : bits .and .u64 a 4294967295 = a % 4294967296 := by
  obtain ⟨a, rfl⟩ := Int.eq_ofNat_of_zero_le h0
  have h := bits_and_u64_nat a 4294967295 (by omega) (by omega)
  have e : a &&& 4294967295 = a % 4294967296 := Nat.and_two_pow_sub_one_eq_mod a 32
  rw [e] at h
  exact h
theorem or_none {a b : Int} (h0 : 0 ≤ a) (h1 : a < 18446744073709551616) (hb : b = 0) : bits .or .u64 a b = a := by
  subst hb
  obtain ⟨a, rfl⟩ := Int.eq_ofNat_of_zero_le h0
  have h := bits_or_u64_nat a 0 (by omega) (by omega)
  simpa using h
theorem rest_mod {u d p : Int} (d0 : 0 ≤ d) (d1 : d < 4294967296) (h0 : 0 ≤ u * 4294967296 + d - p) (h1 : u * 4294967296 + d - p < 18446744073709551616) :
    IntKind.u64.wrap (IntKind.u64.wrap (IntKind.u64.wrap (u * 4294967296) + d) - IntKind.u64.wrap p) = u * 4294967296 + d - p := by
  simp only [IntKind.wrap_u64]
  omega
theorem quot_two {hi lo y yh yl lh ll q1 q0 u2 : Int} (ey : y = yh * 4294967296 + yl) (el : lo = lh * 4294967296 + ll) (hu : hi * 4294967296 + lh - q1 * y = u2)
    (h0 : q0 * (yh * 4294967296 + yl) ≤ u2 * 4294967296 + ll) (h1 : u2 * 4294967296 + ll < (q0 + 1) * (yh * 4294967296 + yl)) (hy : 0 < y) : (hi * W + lo) / y = q1 * 4294967296 + q0 := by
  rw [← ey] at h0 h1
  have e : hi * W + lo = (u2 * 4294967296 + ll - q0 * y) + y * (q1 * 4294967296 + q0) := by
    have hW : W = 4294967296 * 4294967296 := by decide
    rw [hW, el, ← hu]; grind
  rw [e, Int.add_mul_ediv_left _ _ (by omega), Int.ediv_eq_zero_of_lt (by omega) (by rw [Int.add_mul] at h1; omega)]
  simp
end Go.Proofs.Ytcnekfpgoceblaa
/-
  A digit of a quotient: guessDigit, takeDigit.
-/
namespace Go.Proofs.Ytcnekfpgoceblaa
open Go.RowKit
set_option linter.unusedVariables false
/-- The guess. -/
def gss (high low top : Int) : Int := if top ≤ high then 18446744073709551615 else (high * W + low) / top
theorem gss_bd {high low top : Int} (h0 : 0 ≤ high) (l0 : 0 ≤ low) (l1 : low < 18446744073709551616) (t0 : 9223372036854775808 ≤ top) : 0 ≤ gss high low top ∧ gss high low top < 18446744073709551616 := by
  unfold gss
  split
  · exact ⟨by decide, by decide⟩
  · have hW : W = 18446744073709551616 := rfl
    have : 0 ≤ high * W + low := by rw [hW]; omega
    refine ⟨Int.ediv_nonneg this (by omega), Int.ediv_lt_of_lt_mul (by omega) ?_⟩
    rw [hW]; omega
/-- The guess isn't too small. -/
theorem gss_ge {high low top u v : Int} {p : Int} (hp : 0 < p) (h0 : 0 ≤ high) (l0 : 0 ≤ low) (t0 : 9223372036854775808 ≤ top) (hu : u < (high * W + low + 1) * p) (hv : top * p ≤ v) (huv : u < W * v) : u < (gss high low top + 1) * v := by
  have hb : (0 : Int) ≤ gss high low top + 1 := by
    unfold gss
    split
    · decide
    · have : 0 ≤ (high * W + low) / top := Int.ediv_nonneg (by have : W = 18446744073709551616 := rfl; rw [this]; omega) (by omega)
      omega
  have h2 : (gss high low top + 1) * (top * p) ≤ (gss high low top + 1) * v := Int.mul_le_mul_of_nonneg_left hv hb
  unfold gss at *
  split
  · have : W = 18446744073709551615 + 1 := by decide
    rw [this] at huv; exact huv
  · rename_i hc
    rw [if_neg hc] at h2
    have h1 : high * W + low + 1 ≤ ((high * W + low) / top + 1) * top := by
      have := Int.lt_ediv_add_one_mul_self (high * W + low) (show 0 < top by omega)
      omega
    have h3 := Int.mul_le_mul_of_nonneg_right h1 (show 0 ≤ p by omega)
    rw [Int.mul_assoc] at h3
    omega

theorem Turned.widen {w w' : World} {g off n m : Nat} {zs ys : List Int} (h : Turned w w' g off n zs ys) (hm : n ≤ m) : Turned w w' g off m zs ys := ⟨h.row, h.len, h.dig_, fun j hj => h.rest j (by omega), h.grown⟩
theorem Turned.trans {a b c : World} {g off n : Nat} {zs ys xs : List Int} (h : Turned a b g off n zs ys) (k : Turned b c g off n ys xs) : Turned a c g off n zs xs :=
  ⟨k.row, k.len.trans h.len, k.dig_, fun j hj => (k.rest j hj).trans (h.rest j hj), grown_trans h.grown k.grown⟩
theorem Turned.drewN {w w' : World} {g off n : Nat} {zs ys : List Int} (h : Turned w w' g off n zs ys) (m : Nat) : Turned w (w'.drewN m) g off n zs ys := ⟨h.row.drewN m, h.len, h.dig_, h.rest, grown_drewN h.grown m⟩
theorem Turned.put {w w' : World} {g off n i : Nat} {zs ys : List Int} (h : Turned w w' g off n zs ys) {v : Int} (h0 : 0 ≤ v) (h1 : v < W) (h2 : off ≤ i) (h3 : i < off + n) : Turned w (w'.setCell ⟨g, i, none⟩ (.int .u64 v)) g off n zs (ys.set i v) :=
  ⟨h.row.set _ _, by simpa using h.len, h.dig_.set h0 h1 _, fun j hj => by rw [dig_set_ne (by omega)]; exact h.rest j hj, grown_setCell h.grown _ _⟩
theorem wv_put {zs : List Int} {off n : Nat} (hk : off + n < zs.length) (v : Int) : wv (zs.set (off + n) v) off n = wv zs off n :=
  wv_congr (fun j _ h2 => dig_set_ne (by omega))

theorem quiet_any {P : Program} {f : FuncId} {args : Array Value} {w : World} {n : Nat} {v : Value}
    (h : Calls P f args (w.drewN n) fun e w' => e = .returned v ∧ ∃ m, w' = (w.drewN n).drewN m) : Calls P f args (w.drewN n) fun e w'' => e = .returned v ∧ ∃ m, w'' = w.drewN m :=
  h.mono fun _ _ ⟨he, m, hm⟩ => ⟨he, n + m, by rw [hm, World.drewN_drewN]⟩
/-- The guess isn't too small, of a window's two highest digits and the divisor's highest. -/
theorem td_guess {zs Y : List Int} {off n m : Nat} (hm : m + 1 = n) (hzd : Dig W zs) (hYd : Dig W Y) (hlow : wv zs off (n + 1) < W * vf W (dig Y) n) (h1 : 0 ≤ dig zs (off + n)) (h2 : 0 ≤ dig zs (off + m)) (ht : 9223372036854775808 ≤ dig Y m) :
    wv zs off (n + 1) < (gss (dig zs (off + n)) (dig zs (off + m)) (dig Y m) + 1) * vf W (dig Y) n := by
  subst hm
  refine gss_ge (p := W ^ m) (pow_pos' W_two m) h1 h2 ht ?_ ?_ hlow
  · have hb := wv_bd hzd off m
    have e : wv zs off (m + 1 + 1) = wv zs off m + (dig zs (off + (m + 1)) * W + dig zs (off + m)) * W ^ m := by
      rw [wv_succ, wv_succ, Int.pow_succ]; grind
    rw [e, Int.add_mul (dig zs (off + (m + 1)) * W + dig zs (off + m)) 1]
    omega
  · have hb := vf_bd (b := W) (by decide) (fun j => dig_bd (b := W) (by decide) hYd j) m
    simp only [vf]; omega
/-- u[n] and whether it is below: what stands in the window is U less D times V, and W to the n + 1 more where it is below. -/
def TdR (zs Y : List Int) (off n g : Nat) (w : World) (d b : Value) (wr : World) : Prop :=
  ∃ (ys : List Int) (D : Int) (bl : Bool), d = .int .u64 D ∧ b = .bool bl ∧ 0 ≤ D ∧ D < 18446744073709551616 ∧ Turned w wr g off (n + 1) zs ys ∧
    wv zs off (n + 1) < (D + 1) * vf W (dig Y) n ∧ (bl = true → wv zs off (n + 1) < D * vf W (dig Y) n ∧ wv ys off (n + 1) - W ^ (n + 1) = wv zs off (n + 1) - D * vf W (dig Y) n) ∧
    (bl = false → wv ys off (n + 1) = wv zs off (n + 1) - D * vf W (dig Y) n)
def TdP (zs Y : List Int) (off n g : Nat) (w : World) (e : Ending) (w' : World) : Prop :=
  ∃ (ys : List Int) (D : Int), e = .returned (.int .u64 D) ∧ 0 ≤ D ∧ D < 18446744073709551616 ∧ Turned w w' g off (n + 1) zs ys ∧ wv ys off (n + 1) = wv zs off (n + 1) - D * vf W (dig Y) n ∧ wv ys off (n + 1) < vf W (dig Y) n
theorem td_first {zs ys Y : List Int} {off n : Nat} {G over v : Int} (hlen : off + n < ys.length) (he : dig ys (off + n) = dig zs (off + n)) (h : wv ys off n - over * W ^ n = wv zs off n - G * vf W (dig Y) n) :
    wv (ys.set (off + n) v) off (n + 1) = wv zs off (n + 1) - G * vf W (dig Y) n + (v - (dig ys (off + n) - over)) * W ^ n := by
  rw [wv_set hlen, wv_succ, ← he]
  generalize wv ys off n = a at *
  generalize wv zs off n = b at *
  generalize W ^ n = p at *
  generalize vf W (dig Y) n = y at *
  grind
theorem td_back {ys xs Y : List Int} {off n : Nat} {c c' v : Int} (hlen : off + n < xs.length) (he : dig xs (off + n) = dig ys (off + n)) (h : wv xs off n + c * W ^ n = wv ys off n + vf W (dig Y) n) (e : v + W * c' = dig xs (off + n) + 0 + c) :
    wv (xs.set (off + n) v) off (n + 1) + c' * W ^ (n + 1) = wv ys off (n + 1) + vf W (dig Y) n := by
  rw [wv_set hlen, wv_succ, ← he, Int.pow_succ]
  generalize wv xs off n = a at *
  generalize wv ys off n = b at *
  generalize W ^ n = p at *
  generalize vf W (dig Y) n = y at *
  grind
theorem Turned.undrew {w w' : World} {g off n k : Nat} {zs ys : List Int} (h : Turned (w.drewN k) w' g off n zs ys) : Turned w w' g off n zs ys := ⟨h.row, h.len, h.dig_, h.rest, ⟨h.grown.os, h.grown.tape, h.grown.output, h.grown.size, h.grown.block⟩⟩
theorem td_start {zs ys Y : List Int} {off n : Nat} {G over v u1 : Int} (hlen : off + n < ys.length) (hd : Dig W ys) (he : dig ys (off + n) = dig zs (off + n)) (h : wv ys off n - over * W ^ n = wv zs off n - G * vf W (dig Y) n)
    (v0 : 0 ≤ v) (v1 : v < W) (hv : v = (u1 - over) % 18446744073709551616) (hu : dig zs (off + n) = u1) (o0 : 0 ≤ over) (o1 : over < 18446744073709551616) :
    (decide (u1 < over) = true → wv zs off (n + 1) < G * vf W (dig Y) n ∧ wv (ys.set (off + n) v) off (n + 1) - W ^ (n + 1) = wv zs off (n + 1) - G * vf W (dig Y) n) ∧
    (decide (u1 < over) = false → wv (ys.set (off + n) v) off (n + 1) = wv zs off (n + 1) - G * vf W (dig Y) n) := by
  have hf := td_first (v := v) hlen he h
  have hb := wv_bd (hd.set v0 v1 (off + n)) off (n + 1)
  have hy := dig_W hd (off + n)
  rw [he, hu] at hy hf
  have hW : W = 18446744073709551616 := rfl
  constructor
  · intro g
    have g' : u1 < over := of_decide_eq_true g
    have e : v - (u1 - over) = W := by rw [hW]; omega
    rw [e, Int.mul_comm W, ← show W ^ (n + 1) = W ^ n * W from Int.pow_succ _ _] at hf
    omega
  · intro g
    have g' : ¬ u1 < over := of_decide_eq_false g
    have e : v - (u1 - over) = 0 := by omega
    rw [e] at hf
    simpa using hf
theorem td_round {zs ys xs Y : List Int} {off n : Nat} {D c c' v : Int} (hlen : off + n < xs.length) (hd : Dig W xs) (v0 : 0 ≤ v) (v1 : v < W) (he : dig xs (off + n) = dig ys (off + n)) (h : wv xs off n + c * W ^ n = wv ys off n + vf W (dig Y) n) (e : v + W * c' = dig xs (off + n) + 0 + c)
    (hc0 : 0 ≤ c') (hc1 : c' ≤ 1) (hv : wv ys off (n + 1) - W ^ (n + 1) = wv zs off (n + 1) - D * vf W (dig Y) n) :
    ((c' == 0) = true → wv zs off (n + 1) < (D - 1) * vf W (dig Y) n ∧ wv (xs.set (off + n) v) off (n + 1) - W ^ (n + 1) = wv zs off (n + 1) - (D - 1) * vf W (dig Y) n) ∧
    ((c' == 0) = false → wv (xs.set (off + n) v) off (n + 1) = wv zs off (n + 1) - (D - 1) * vf W (dig Y) n) := by
  have hb := td_back hlen he h e
  have hbd := wv_bd (hd.set v0 v1 (off + n)) off (n + 1)
  rw [Int.sub_mul]
  constructor
  · intro g
    have : c' = 0 := by simpa using g
    subst this
    simp only [Int.zero_mul] at hb
    omega
  · intro g
    have g' : c' ≠ 0 := by simpa using g
    have : c' = 1 := by omega
    subst this
    omega
end Go.Proofs.Ytcnekfpgoceblaa
/-
  Long division: what divide answers: quotient and remainder.
-/
namespace Go.Proofs.Ytcnekfpgoceblaa
open Go.RowKit
set_option linter.unusedVariables false
theorem Row.far {w : World} {g : Nat} {t : TypeId} {k : IntKind} {xs : List Int} (h : Row w g t k xs) {p : Addr} (hp : g ≠ p.block) (u : Value) : Row (w.setCell p u) g t k xs := (Below.heap_setCell w p u g hp).trans h
/-- How many bits a digit is shifted. -/
def lzs (x : Int) : Nat := 64 - Lib.bitLen x.toNat
theorem lzs_bd {x : Int} (h0 : 1 ≤ x) (h1 : x < 18446744073709551616) : lzs x < 64 ∧ 9223372036854775808 ≤ pw (lzs x) * x ∧ pw (lzs x) * (x + 1) ≤ 18446744073709551616 := by
  obtain ⟨a, rfl⟩ := Int.eq_ofNat_of_zero_le (show 0 ≤ x by omega)
  obtain ⟨b1, b2, b3⟩ := Lib.bitLenAux_bounds 64 a (by omega) (by omega)
  have hle := Lib.bitLen_le a 64 (by omega) (by omega)
  have e : Lib.bitLen a = Lib.bitLenAux 64 a := rfl
  unfold lzs
  rw [Int.toNat_natCast]
  rw [← e] at b1 b2 b3
  generalize Lib.bitLen a = L at *
  refine ⟨by omega, ?_, ?_⟩
  · have e1 : 2 ^ (64 - L) * 2 ^ (L - 1) = 2 ^ 63 := by rw [← Nat.pow_add]; congr 1; omega
    have h2 := Nat.mul_le_mul_left (2 ^ (64 - L)) b2
    rw [e1] at h2
    have h3 : ((2 ^ 63 : Nat) : Int) ≤ ((2 ^ (64 - L) * a : Nat) : Int) := by omega
    rw [Int.natCast_mul, pw_nat] at h3
    exact h3
  · have e1 : 2 ^ (64 - L) * 2 ^ L = 2 ^ 64 := by rw [← Nat.pow_add]; congr 1; omega
    have h2 := Nat.mul_le_mul_left (2 ^ (64 - L)) (show a + 1 ≤ 2 ^ L from b3)
    rw [e1] at h2
    have h3 : ((2 ^ (64 - L) * (a + 1) : Nat) : Int) ≤ ((2 ^ 64 : Nat) : Int) := by omega
    rw [Int.natCast_mul, pw_nat] at h3
    simpa using h3
/-! ### The divisor, shifted -/
theorem div_norm {M P : Int} {b m : Nat} {vs : List Int} (hM : 0 < M) (hb : dl M = b) (hm : m + 1 = b) (hP0 : 9223372036854775808 ≤ P * dig (dg W M) m) (hP1 : P * (dig (dg W M) m + 1) ≤ 18446744073709551616) (hP : 0 < P)
    (hd : Dig W vs) (hv : vf W (dig vs) (b + 1) = P * vf W (dig (dg W M)) b) : vf W (dig vs) b = P * M ∧ 9223372036854775808 ≤ dig vs m := by
  subst hm
  have hMv := val_dl (show 0 ≤ M by omega) (Nat.le_of_eq hb)
  have hlow := vf_bd (b := W) (by decide) (fun j => dig_bd (b := W) (by decide) (dig_dg W_two (show 0 ≤ M by omega)) j) m
  have hvl := vf_bd (b := W) (by decide) (fun j => dig_bd (b := W) (by decide) hd j) (m + 1)
  have hvm := vf_bd (b := W) (by decide) (fun j => dig_bd (b := W) (by decide) hd j) m
  have d1 := dig_bd (b := W) (by decide) hd (m + 1)
  have d0 := dig_bd (b := W) (by decide) hd m
  have hp := pow_pos' W_two m
  have hp1 := pow_pos' W_two (m + 1)
  have e1 : W ^ (m + 1) = W ^ m * W := Int.pow_succ _ _
  have eM : vf W (dig (dg W M)) m + dig (dg W M) m * W ^ m = M := hMv
  have hW : W = 18446744073709551616 := rfl
  -- P M < W ^ (m + 1)
  have k1 : P * M < W ^ (m + 1) := by
    have a1 : M < (dig (dg W M) m + 1) * W ^ m := by rw [Int.add_mul]; omega
    have a2 := Int.mul_lt_mul_of_pos_left a1 hP
    have a3 := Int.mul_le_mul_of_nonneg_right hP1 (show 0 ≤ W ^ m by omega)
    rw [← Int.mul_assoc] at a2
    rw [e1, Int.mul_comm (W ^ m), hW]
    rw [hW] at a2 a3
    omega
  have k2 : vf W (dig vs) (m + 1 + 1) = vf W (dig vs) (m + 1) + dig vs (m + 1) * W ^ (m + 1) := rfl
  rw [hMv] at hv
  have k3 : dig vs (m + 1) = 0 := by
    rcases Int.lt_or_le 0 (dig vs (m + 1)) with g | g
    · have := Int.mul_le_mul_of_nonneg_right (show (1 : Int) ≤ dig vs (m + 1) by omega) (show 0 ≤ W ^ (m + 1) by omega)
      omega
    · omega
  rw [k3] at k2
  have k4 : vf W (dig vs) (m + 1) = P * M := by omega
  refine ⟨k4, ?_⟩
  rcases Int.lt_or_le (dig vs m) 9223372036854775808 with g | g
  · exfalso
    have a1 : vf W (dig vs) (m + 1) = vf W (dig vs) m + dig vs m * W ^ m := rfl
    have a2 : dig (dg W M) m * W ^ m ≤ M := by omega
    have a3 := Int.mul_le_mul_of_nonneg_left a2 (show 0 ≤ P by omega)
    have a4 := Int.mul_le_mul_of_nonneg_right hP0 (show 0 ≤ W ^ m by omega)
    rw [Int.mul_assoc] at a4
    have a5 := Int.mul_le_mul_of_nonneg_right (show dig vs m + 1 ≤ 9223372036854775808 by omega) (show 0 ≤ W ^ m by omega)
    rw [Int.add_mul] at a5
    omega
  · exact g
/-- The first window is below the divisor. -/
theorem div_head {N M P : Int} {a b k : Nat} {rs : List Int} (hN : 0 ≤ N) (hM : 0 < M) (ha : dl N = a) (hb : dl M = b) (hk : k + b = a + 1) (hP : 0 < P) (hd : Dig W rs) (hv : vf W (dig rs) (a + 1) = P * N) : wv rs k b < P * M := by
  have h1 : vf W (dig rs) (k + b) = vf W (dig rs) k + W ^ k * wv rs k b := vf_split W (dig rs) k b
  have h2 := vf_bd (b := W) (by decide) (fun j => dig_bd (b := W) (by decide) hd j) k
  have hp := pow_pos' W_two k
  have h3 : N < M * W ^ k := by
    have a1 := lt_dl hN (Nat.le_of_eq ha)
    have hb0 : 0 < b := by
      rcases Nat.eq_zero_or_pos b with g | g
      · rw [g] at hb; have := (dl_zero (show 0 ≤ M by omega)).1 hb; omega
      · exact g
    have a2 : W ^ (b - 1) ≤ M := by
      rcases Int.lt_or_le M (W ^ (b - 1)) with g | g
      · have := dl_le (show 0 ≤ M by omega) g; omega
      · exact g
    have a3 := Int.mul_le_mul_of_nonneg_right a2 (show 0 ≤ W ^ k by omega)
    rw [← Int.pow_add] at a3
    have e : b - 1 + k = a := by omega
    rw [e] at a3
    omega
  have h4 := Int.mul_lt_mul_of_pos_left h3 hP
  rw [hk, hv] at h1
  rcases Int.lt_or_le (wv rs k b) (P * M) with g | g
  · exact g
  · exfalso
    have a1 := Int.mul_le_mul_of_nonneg_left g (show 0 ≤ W ^ k by omega)
    rw [← Int.mul_assoc] at h4
    rw [Int.mul_comm (W ^ k) (P * M)] at a1
    omega
theorem wv_low (rs : List Int) (j b : Nat) : wv rs j (b + 1) = dig rs j + W * wv rs (j + 1) b := by
  have h := vf_split W (fun i => dig rs (j + i)) 1 b
  rw [Nat.add_comm] at h
  unfold wv
  rw [h]
  simp only [vf, Nat.add_zero]
  rw [vf_congr W (g := fun i => dig rs (j + 1 + i)) (fun i _ => by rw [Nat.add_assoc])]
  simp [show W ^ 1 = W from by simp [Int.pow_succ]]
theorem div_low {rs : List Int} {j b : Nat} {V : Int} (hd : Dig W rs) (h : wv rs (j + 1) b < V) : wv rs j (b + 1) < W * V := by
  rw [wv_low]
  have d := dig_bd (b := W) (by decide) hd j
  have : W * (wv rs (j + 1) b + 1) ≤ W * V := Int.mul_le_mul_of_nonneg_left (by omega) (by decide)
  rw [Int.mul_add] at this
  omega
theorem div_zero {ys : List Int} {j b : Nat} {V : Int} (hd : Dig W ys) (h : wv ys j (b + 1) < V) (hV : V < W ^ b) : dig ys (j + b) = 0 ∧ wv ys j b < V := by
  have h1 := wv_succ ys j b
  have h2 := wv_bd hd j b
  have d := dig_bd (b := W) (by decide) hd (j + b)
  rcases Int.lt_or_le 0 (dig ys (j + b)) with g | g
  · exfalso
    have := Int.mul_le_mul_of_nonneg_right (show (1 : Int) ≤ dig ys (j + b) by omega) (show 0 ≤ W ^ b from Int.le_of_lt (pow_pos' W_two b))
    omega
  · have : dig ys (j + b) = 0 := by omega
    refine ⟨this, ?_⟩
    rw [this] at h1
    omega
/-- A window that is changed. -/
theorem vf_window {rs ys : List Int} {j n t : Nat} (hr : ∀ i, i < j ∨ j + n ≤ i → dig ys i = dig rs i) (ht : j + n ≤ t) : vf W (dig ys) t - vf W (dig rs) t = W ^ j * (wv ys j n - wv rs j n) := by
  have a := vf_split W (dig ys) j n
  have b := vf_split W (dig rs) j n
  have c := vf_same W (f := dig ys) (g := dig rs) (k := j + n) ht (fun i hi => hr i (.inr hi))
  have d := vf_congr W (f := dig ys) (g := dig rs) (k := j) (fun i hi => hr i (.inl hi))
  have ea : vf W (fun i => dig ys (j + i)) n = wv ys j n := rfl
  have eb : vf W (fun i => dig rs (j + i)) n = wv rs j n := rfl
  rw [ea] at a
  rw [eb] at b
  rw [Int.mul_sub]
  omega
theorem vf_digit {qs : List Int} {j t : Nat} {D : Int} (hl : j < qs.length) (hq : dig qs j = 0) (ht : j < t) : vf W (dig (qs.set j D)) t = vf W (dig qs) t + D * W ^ j := by
  have h := vf_window (rs := qs) (ys := qs.set j D) (j := j) (n := 1) (t := t) (fun i hi => dig_set_ne (by omega)) (by omega)
  have e1 : wv (qs.set j D) j 1 = D := by
    unfold wv; simp only [vf, Nat.add_zero]; rw [dig_set_same hl]; simp
  have e2 : wv qs j 1 = 0 := by
    unfold wv; simp only [vf, Nat.add_zero]; rw [hq]; simp
  rw [e1, e2, Int.sub_zero, Int.mul_comm] at h
  omega
theorem div_sum {rs ys qs : List Int} {j b t t' : Nat} {D V S : Int} (hr : ∀ i, i < j ∨ j + (b + 1) ≤ i → dig ys i = dig rs i) (ht : j + (b + 1) ≤ t) (hw : wv ys j (b + 1) = wv rs j (b + 1) - D * V) (hl : j < qs.length) (hq : dig qs j = 0) (ht' : j < t')
    (h : vf W (dig rs) t + V * vf W (dig qs) t' = S) : vf W (dig ys) t + V * vf W (dig (qs.set j D)) t' = S := by
  have h1 := vf_window (t := t) hr ht
  rw [hw] at h1
  rw [vf_digit hl hq ht']
  have e1 : wv rs j (b + 1) - D * V - wv rs j (b + 1) = - (D * V) := by omega
  rw [e1] at h1
  have e2 : vf W (dig ys) t = vf W (dig rs) t - W ^ j * (D * V) := by rw [Int.mul_neg] at h1; omega
  rw [e2, ← h]
  generalize W ^ j = p
  generalize vf W (dig qs) t' = q
  generalize vf W (dig rs) t = r
  grind
/-- What is left, and its quotient. -/
theorem div_end {N M P R Q : Int} (hM : 0 < M) (hP : 0 < P) (R0 : 0 ≤ R) (R1 : R < P * M) (h : R + P * M * Q = P * N) : Q = N / M ∧ R = P * (N % M) := by
  have e : R = P * (N - M * Q) := by
    have : P * M * Q = P * (M * Q) := Int.mul_assoc _ _ _
    rw [Int.mul_sub]; omega
  have r0 : 0 ≤ N - M * Q := by
    rcases Int.lt_or_le (N - M * Q) 0 with g | g
    · have := Int.mul_lt_mul_of_pos_left g hP; simp at this; omega
    · exact g
  have r1 : N - M * Q < M := by
    rcases Int.lt_or_le (N - M * Q) M with g | g
    · exact g
    · have := Int.mul_le_mul_of_nonneg_left g (show 0 ≤ P by omega); omega
  have q : N / M = Q := by
    have e2 : N = (N - M * Q) + M * Q := by omega
    rw [e2, Int.add_mul_ediv_left _ _ (by omega), Int.ediv_eq_zero_of_lt r0 r1]; simp
  refine ⟨q.symm, ?_⟩
  rw [e]
  have := Int.emod_add_mul_ediv N M
  rw [q] at this
  congr 1; omega
theorem low_mod {rs : List Int} {s b : Nat} {r : Int} (hs : s ≤ 64) (hb : 0 < b) (h : wv rs 0 b = pw s * r) : dig rs 0 % pw s = 0 := by
  obtain ⟨m, rfl⟩ : ∃ m, b = m + 1 := ⟨b - 1, by omega⟩
  rw [wv_low] at h
  have hW : W = pw s * pw (64 - s) := (pw_mul hs).symm
  have e : dig rs 0 = pw s * (r - pw (64 - s) * wv rs (0 + 1) m) := by
    rw [hW] at h
    generalize wv rs (0 + 1) m = x at *
    grind
  rw [e]
  exact Int.mul_emod_right _ _

/-- What holds at each round's head: k digits are to come. -/
def DivR (N M P : Int) (a b k0 g1 g2 g3 : Nat) (vs : List Int) (w : World) (i : Value) (wr : World) : Prop :=
  ∃ (k : Nat) (v : Int) (rs qs : List Int), i = .int .i64 v ∧ v = (k : Int) - 1 ∧ k ≤ k0 ∧ Row wr g1 41 .u64 rs ∧ rs.length = a + 1 ∧ Dig W rs ∧ Row wr g3 41 .u64 qs ∧ qs.length = k0 ∧ Dig W qs ∧
    Row wr g2 41 .u64 vs ∧ (∀ j, k + b ≤ j → dig rs j = 0) ∧ (∀ j, j < k → dig qs j = 0) ∧ wv rs k b < P * M ∧ vf W (dig rs) (a + 1) + P * M * vf W (dig qs) k0 = P * N ∧ Below w.heap.size w wr
def QR (Q R : Int) (w : World) (e : Ending) (w' : World) : Prop :=
  ∃ B m cap B' m' cap', e = .returned (.tuple #[.slice B m cap, .slice B' m' cap']) ∧ Cn w' B m cap Q ∧ Cn w' B' m' cap' R ∧ Below w.heap.size w w' ∧ (∀ x, B = some x → w.heap.size ≤ x.block) ∧ ∀ x, B' = some x → w.heap.size ≤ x.block
theorem shr_nm {w4 : World} {g b s : Nat} {xs zs : List Int} {r : Int} (hrow : Row w4 g 41 .u64 zs) (hl : zs.length = b) (hd : Dig W zs) (h : pw s * vf W (dig zs) b = vf W (dig (xs.take b)) b - dig (xs.take b) 0 % pw s) (hx : vf W (dig xs) b = pw s * r) (hm : dig xs 0 % pw s = 0)
    (hb : 0 < b) (hb' : b ≤ 64) (hr : 0 ≤ r) : Nm w4 (some ⟨g, 0, none⟩) b b r := by
  rw [vf_congr W (g := dig xs) (fun i hi => dig_take hi), dig_take hb, hm, hx, Int.sub_zero] at h
  have e : vf W (dig zs) b = r := Int.eq_of_mul_eq_mul_left (Int.ne_of_gt (pw_pos s)) h
  exact ⟨⟨zs, hrow.rd hl (fun j x hx => by rwa [Nat.zero_add]), hd, by rw [val_vf W zs (m := b) (by omega)]; exact e⟩, Nat.le_refl _, by omega, hr⟩
end Go.Proofs.Ytcnekfpgoceblaa
/-
  What nat.Norm and nat.Div answer.
-/
namespace Go.Proofs.Ytcnekfpgoceblaa
open Go.RowKit
set_option linter.unusedVariables false
theorem splice_all {Z X : List Value} (h : X.length = Z.length) : splice Z 0 X = X := by
  unfold splice
  rw [List.take_zero, List.nil_append, Nat.zero_add, h, List.drop_length, List.append_nil]
/-- A number in new memory. -/
def Ans1 (N : Int) (w : World) (e : Ending) (w' : World) : Prop :=
  ∃ B m cap, e = .returned (.slice B m cap) ∧ Cn w' B m cap N ∧ Below w.heap.size w w' ∧ ∀ a, B = some a → w.heap.size ≤ a.block
theorem addr_add (b off j : Nat) : (⟨b, off, none⟩ : Addr).add j = ⟨b, off + j, none⟩ := by
  unfold Addr.add; split
  · rename_i h0; subst h0; rfl
  · rfl
theorem rd_pos {w : World} {A : Option Addr} {n : Nat} {X : List Int} (h : Rd .u64 w A n X) {o : Obj} : 0 < X.length → ∃ ad, A = some ad ∧ ∀ (j : Nat) (a : Int), X[j]? = some a → (w.alloc o).cell? (ad.add j) = some (.int .u64 a) := by
  intro hp
  rw [h.len] at hp
  obtain ⟨b, off, rfl, hb, hc⟩ := h.cells hp
  refine ⟨_, rfl, fun j v hv => ?_⟩
  rw [addr_add, World.cell?_alloc_lt w o ⟨b, off + j, none⟩ hb]
  exact hc j v hv
/-- 'q, r, nil'. -/
def QRE (Q R : Int) (w : World) (e : Ending) (w' : World) : Prop :=
  ∃ B m cap B' m' cap', e = .returned (.tuple #[.slice B m cap, .slice B' m' cap', .nilIface]) ∧ Cn w' B m cap Q ∧ Cn w' B' m' cap' R ∧ Below w.heap.size w w' ∧ (∀ x, B = some x → w.heap.size ≤ x.block) ∧ ∀ x, B' = some x → w.heap.size ≤ x.block
def Err2 (code : Int) (w : World) (e : Ending) (w' : World) : Prop :=
  e = .returned (.tuple #[.slice none 0 0, .slice none 0 0, .iface 57 (.int .i64 code)]) ∧ Below w.heap.size w w'
end Go.Proofs.Ytcnekfpgoceblaa
/-
  What nat.Sub answers: the difference of two numbers, ErrLong or ErrLess.
-/
namespace Go.Proofs.Ytcnekfpgoceblaa
open Go.RowKit
theorem sub_step {X Y zs : List Int} {k : Nat} {cr v c' : Int} (hk : k < zs.length) (e : v - W * c' = dig X k - dig Y k - cr)
    (h : vf W (dig zs) k - cr * W ^ k = vf W (dig X) k - vf W (dig Y) k) : vf W (dig (zs.set k v)) (k + 1) - c' * W ^ (k + 1) = vf W (dig X) (k + 1) - vf W (dig Y) (k + 1) := by
  rw [vf_set hk]
  simp only [vf]
  rw [Int.pow_succ]
  generalize vf W (dig zs) k = a at *
  generalize vf W (dig X) k = x at *
  generalize vf W (dig Y) k = y at *
  generalize W ^ k = p at *
  grind
/-- The last borrow is 0. -/
theorem sub_last {N M : Int} {zs : List Int} {cr : Int} (h0 : 0 ≤ M) (hNM : M ≤ N) (hz : zs.length = dl N) (hd : Dig W zs) (c0 : 0 ≤ cr)
    (h : vf W (dig zs) (dl N) - cr * W ^ (dl N) = vf W (dig (dg W N)) (dl N) - vf W (dig (dg W M)) (dl N)) : val W zs = N - M := by
  rw [val_dl (by omega) (Nat.le_refl _), val_dl h0 (dl_mono h0 hNM)] at h
  have hb := vf_bd (b := W) (by decide) (fun j => dig_bd (b := W) (by decide) hd j) (dl N)
  have hp := pow_pos' W_two (dl N)
  rw [val_vf W zs (m := dl N) (by omega)]
  rcases Int.lt_or_le 0 cr with g | g
  · have : W ^ dl N ≤ cr * W ^ dl N := by
      have := Int.mul_le_mul_of_nonneg_right (show (1 : Int) ≤ cr by omega) (show 0 ≤ W ^ dl N by omega)
      omega
    omega
  · have : cr = 0 := by omega
    subst this; simpa using h
def SubR (N M : Int) (w : World) (c i : Value) (wr : World) : Prop :=
  ∃ (k : Nat) (zs : List Int) (cr : Int), k ≤ dl N ∧ i = .int .i64 k ∧ c = .int .u64 cr ∧ 0 ≤ cr ∧ cr ≤ 1 ∧ Row wr w.heap.size 41 .u64 zs ∧ zs.length = dl N ∧ Dig W zs ∧
    vf W (dig zs) k - cr * W ^ k = vf W (dig (dg W N)) k - vf W (dig (dg W M)) k ∧ Below w.heap.size w wr
end Go.Proofs.Ytcnekfpgoceblaa
