/-
  Several texts in one: Cdc, Cdm.
-/
import Derived.Test.YtcnekfpgoceblaaPka
/-
  What is written is read, in one way alone: counts, numbers, bytes, lists, of plain lists of bytes. No call is spoken of.
-/
namespace Go.Proofs.Ytcnekfpgoceblaa
set_option linter.unusedVariables false
/-- Values, the bytes that tell them, and how they are read off the head of some bytes. -/
structure Cdc (α : Type) where
  enc : α → List Int
  dec : List Int → Option (α × List Int)
  ok : α → Prop
  fwd : ∀ v r, ok v → dec (enc v ++ r) = some (v, r)
  bwd : ∀ l v r, Dig 256 l → dec l = some (v, r) → ok v ∧ l = enc v ++ r
namespace Cdc
variable {α β : Type}
/-- The whole of some bytes. -/
theorem whole (c : Cdc α) {v : α} (h : c.ok v) : c.dec (c.enc v) = some (v, []) := by
  have := c.fwd v [] h
  rwa [List.append_nil] at this
/-- Two values that have the same bytes are one. -/
theorem one (c : Cdc α) {v u : α} (h : c.ok v) (h' : c.ok u) (e : c.enc v = c.enc u) : v = u := by
  have h1 := c.whole h
  rw [e, c.whole h'] at h1
  injection h1 with h1
  exact ((Prod.mk.injEq _ _ _ _).mp h1).1.symm
/-- No beginning of a value's bytes but the whole is a value's, with bytes behind or not. -/
theorem torn (c : Cdc α) {v : α} (h : c.ok v) {p s : List Int} (hd : Dig 256 p) (e : c.enc v = p ++ s) (hs : s ≠ []) : c.dec p = none := by
  cases hp : c.dec p with
  | none => rfl
  | some x =>
    exfalso
    obtain ⟨u, r⟩ := x
    obtain ⟨hu, rfl⟩ := c.bwd p u r hd hp
    have h1 := c.fwd u (r ++ s) hu
    rw [← List.append_assoc, ← e, c.whole h] at h1
    injection h1 with h1
    have h2 := ((Prod.mk.injEq _ _ _ _).mp h1).2
    have h3 := congrArg List.length h2
    simp at h3
    exact hs (List.eq_nil_of_length_eq_zero (by omega))
theorem rest_dig (c : Cdc α) {l r : List Int} {v : α} (hd : Dig 256 l) (h : c.dec l = some (v, r)) : Dig 256 r := fun x hx => by
  obtain ⟨-, rfl⟩ := c.bwd l v r hd h
  exact hd x (List.mem_append_right _ hx)
/-- One behind the other. -/
def pair (c : Cdc α) (d : Cdc β) : Cdc (α × β) where
  enc v := c.enc v.1 ++ d.enc v.2
  dec l := match c.dec l with
    | none => none
    | some (v, r) => match d.dec r with
      | none => none
      | some (u, r') => some ((v, u), r')
  ok v := c.ok v.1 ∧ d.ok v.2
  fwd := fun v r h => by
    obtain ⟨v, u⟩ := v
    simp only [List.append_assoc]
    rw [c.fwd v _ h.1]
    simp only
    rw [d.fwd u _ h.2]
  bwd := fun l v r hd h => by
    cases hc : c.dec l with
    | none => rw [hc] at h; cases h
    | some x =>
      obtain ⟨a, r1⟩ := x
      rw [hc] at h
      simp only at h
      cases hd2 : d.dec r1 with
      | none => rw [hd2] at h; cases h
      | some y =>
        obtain ⟨b, r2⟩ := y
        rw [hd2] at h
        injection h with h
        injection h with h1 h2
        subst h1 h2
        obtain ⟨k1, k2⟩ := c.bwd l a r1 hd hc
        obtain ⟨k3, k4⟩ := d.bwd r1 b r2 (c.rest_dig hd hc) hd2
        exact ⟨⟨k1, k3⟩, by rw [k2, k4, List.append_assoc]⟩
/-- So many, one behind the other. -/
def decN (c : Cdc α) : Nat → List Int → Option (List α × List Int)
  | 0, l => some ([], l)
  | n + 1, l => match c.dec l with
    | none => none
    | some (v, r) => match decN c n r with
      | none => none
      | some (vs, r') => some (v :: vs, r')
theorem decN_fwd (c : Cdc α) (vs : List α) (h : ∀ v ∈ vs, c.ok v) (r : List Int) : decN c vs.length (vs.flatMap c.enc ++ r) = some (vs, r) := by
  induction vs with
  | nil => rfl
  | cons v l ih =>
    simp only [List.length_cons, List.flatMap_cons, List.append_assoc, decN]
    rw [c.fwd v _ (h v List.mem_cons_self)]
    simp only
    rw [ih fun u hu => h u (List.mem_cons_of_mem _ hu)]
theorem decN_bwd (c : Cdc α) : ∀ (n : Nat) (l : List Int) (vs : List α) (r : List Int), Dig 256 l → decN c n l = some (vs, r) → vs.length = n ∧ (∀ v ∈ vs, c.ok v) ∧ l = vs.flatMap c.enc ++ r := by
  intro n
  induction n with
  | zero =>
    intro l vs r hd h
    simp only [decN] at h
    injection h with h
    injection h with h1 h2
    subst h1 h2
    exact ⟨rfl, fun v hv => (by cases hv), rfl⟩
  | succ n ih =>
    intro l vs r hd h
    simp only [decN] at h
    cases hc : c.dec l with
    | none => rw [hc] at h; cases h
    | some x =>
      obtain ⟨a, r1⟩ := x
      rw [hc] at h
      simp only at h
      cases hn : decN c n r1 with
      | none => rw [hn] at h; cases h
      | some y =>
        obtain ⟨us, r2⟩ := y
        rw [hn] at h
        injection h with h
        injection h with h1 h2
        subst h1 h2
        obtain ⟨k1, k2⟩ := c.bwd l a r1 hd hc
        obtain ⟨k3, k4, k5⟩ := ih r1 us r2 (c.rest_dig hd hc) hn
        refine ⟨by rw [List.length_cons, k3], fun v hv => ?_, by rw [k2, k5, List.flatMap_cons, List.append_assoc]⟩
        rcases List.mem_cons.1 hv with rfl | hv
        · exact k1
        · exact k4 v hv
/-- One value told by another one. -/
def iso (c : Cdc α) (f : α → β) (g : β → α) (fg : ∀ v, g (f v) = v) (gf : ∀ u, f (g u) = u) : Cdc β where
  enc u := c.enc (g u)
  dec l := (c.dec l).map fun x => (f x.1, x.2)
  ok u := c.ok (g u)
  fwd := fun u r h => by rw [c.fwd _ _ h]; simp [gf]
  bwd := fun l u r hd h => by
    cases hc : c.dec l with
    | none => rw [hc] at h; cases h
    | some x =>
      obtain ⟨a, r1⟩ := x
      rw [hc] at h
      injection h with h
      injection h with h1 h2
      subst h1 h2
      rw [fg]
      exact c.bwd l a r1 hd hc
end Cdc
/-! ### Counts -/
/-- A count's bytes. -/
def cntE (n : Nat) : List Int := if h : n < 128 then [(n : Int)] else ((n % 128 + 128 : Nat) : Int) :: cntE (n / 128)
termination_by n
decreasing_by omega
theorem cntE_lt {n : Nat} (h : n < 128) : cntE n = [(n : Int)] := by rw [cntE, dif_pos h]
theorem cntE_ge {n : Nat} (h : 128 ≤ n) : cntE n = ((n % 128 + 128 : Nat) : Int) :: cntE (n / 128) := by rw [cntE, dif_neg (by omega)]
theorem cntE_dig : ∀ n : Nat, Dig 256 (cntE n) := fun n => by
  induction n using Nat.strongRecOn with
  | _ n ih =>
    rcases Nat.lt_or_ge n 128 with h | h
    · rw [cntE_lt h]; intro x hx; rw [List.mem_singleton] at hx; subst hx; omega
    · rw [cntE_ge h]
      intro x hx
      rcases List.mem_cons.1 hx with rfl | hx
      · omega
      · exact ih (n / 128) (by omega) x hx
theorem cntE_len : ∀ (k n : Nat), n < 128 ^ k → 0 < k → (cntE n).length ≤ k := fun k => by
  induction k with
  | zero => intro n _ h; omega
  | succ k ih =>
    intro n hn _
    rcases Nat.lt_or_ge n 128 with h | h
    · rw [cntE_lt h]; simp
    · rw [cntE_ge h, List.length_cons]
      rcases Nat.eq_zero_or_pos k with q | q
      · subst q; simp at hn; omega
      · have := ih (n / 128) (by rw [Nat.pow_succ] at hn; omega) q
        omega
/-- A count is read. -/
def cntD : Nat → Bool → List Int → Option (Nat × List Int)
  | 0, _, _ => none
  | _ + 1, _, [] => none
  | k + 1, first, c :: l =>
    if c = 0 ∧ first = false then none
    else if c < 128 then some (c.toNat, l)
    else match cntD k false l with
      | none => none
      | some (v, r) => some ((c.toNat - 128) + 128 * v, r)
theorem cntD_fwd : ∀ (k n : Nat) (first : Bool) (r : List Int), n < 128 ^ k → (first = true ∨ 0 < n) → 0 < k → cntD k first (cntE n ++ r) = some (n, r) := fun k => by
  induction k with
  | zero => intro n _ _ _ _ h; omega
  | succ k ih =>
    intro n first r hn hf _
    rcases Nat.lt_or_ge n 128 with h | h
    · rw [cntE_lt h, List.singleton_append, cntD]
      rw [if_neg (by rintro ⟨h1, h2⟩; rcases hf with h3 | h3 <;> simp_all <;> omega), if_pos (by omega)]
      simp
    · rw [cntE_ge h, List.cons_append, cntD]
      rw [if_neg (by rintro ⟨h1, -⟩; omega), if_neg (by omega)]
      have hk : 0 < k := by
        rcases Nat.eq_zero_or_pos k with q | q
        · subst q; simp at hn; omega
        · exact q
      rw [ih (n / 128) false r (by rw [Nat.pow_succ] at hn; omega) (.inr (by omega)) hk]
      simp only [Option.some.injEq, Prod.mk.injEq, and_true]
      omega
theorem cntD_bwd : ∀ (k : Nat) (first : Bool) (l : List Int) (v : Nat) (r : List Int), Dig 256 l → cntD k first l = some (v, r) → v < 128 ^ k ∧ (first = true ∨ 0 < v) ∧ l = cntE v ++ r := fun k => by
  induction k with
  | zero => intro _ _ _ _ _ h; cases h
  | succ k ih =>
    intro first l v r hd h
    cases l with
    | nil => cases h
    | cons c l =>
      have hc := hd c List.mem_cons_self
      rw [cntD] at h
      split at h
      · cases h
      · rename_i h0
        split at h
        · rename_i h1
          injection h with h
          injection h with h2 h3
          subst h2 h3
          refine ⟨?_, ?_, ?_⟩
          · have : 1 ≤ 128 ^ k := Nat.one_le_pow _ _ (by decide)
            rw [Nat.pow_succ]; omega
          · cases first with
            | true => exact .inl rfl
            | false => right; simp at h0; omega
          · rw [cntE_lt (by omega), List.singleton_append]
            congr 1; omega
        · rename_i h1
          cases hk : cntD k false l with
          | none => rw [hk] at h; cases h
          | some x =>
            obtain ⟨u, r1⟩ := x
            rw [hk] at h
            injection h with h
            injection h with h2 h3
            subst h2 h3
            obtain ⟨k1, k2, k3⟩ := ih false l u r1 (fun x hx => hd x (List.mem_cons_of_mem _ hx)) hk
            have u0 : 0 < u := by rcases k2 with q | q; cases q; exact q
            refine ⟨by rw [Nat.pow_succ]; omega, .inr (by omega), ?_⟩
            rw [cntE_ge (by omega), List.cons_append, k3]
            congr 1
            · omega
            · rw [show (c.toNat - 128 + 128 * u) / 128 = u by omega]
def topC : Nat := 4611686018427387904
/-- Counts. -/
def cntC : Cdc Nat where
  enc := cntE
  dec l := match cntD 9 true l with
    | none => none
    | some (v, r) => if v ≤ topC then some (v, r) else none
  ok n := n ≤ topC
  fwd := fun n r h => by
    rw [cntD_fwd 9 n true r (Nat.lt_of_le_of_lt h (by decide)) (.inl rfl) (by decide)]
    simp only
    rw [if_pos h]
  bwd := fun l v r hd h => by
    cases hk : cntD 9 true l with
    | none => rw [hk] at h; cases h
    | some x =>
      obtain ⟨u, r1⟩ := x
      rw [hk] at h
      simp only at h
      split at h
      · rename_i h1
        injection h with h
        injection h with h2 h3
        subst h2 h3
        exact ⟨h1, (cntD_bwd 9 true l _ _ hd hk).2.2⟩
      · cases h
/-! ### One byte, truth -/
/-- One byte that is 0 or 1. -/
def truC : Cdc Bool where
  enc b := [if b = true then 1 else 0]
  dec l := match l with
    | [] => none
    | c :: r => if c = 0 then some (false, r) else if c = 1 then some (true, r) else none
  ok _ := True
  fwd := fun b r _ => by cases b <;> rfl
  bwd := fun l v r _ h => by
    cases l with
    | nil => cases h
    | cons c l =>
      simp only at h
      split at h
      · rename_i h1; injection h with h; injection h with h2 h3; subst h1 h2 h3; exact ⟨trivial, rfl⟩
      · split at h
        · rename_i h1; injection h with h; injection h with h2 h3; subst h1 h2 h3; exact ⟨trivial, rfl⟩
        · cases h
/-! ### Lists -/
/-- A list: how many, and each of them. -/
def listC {α : Type} (c : Cdc α) : Cdc (List α) where
  enc vs := cntE vs.length ++ vs.flatMap c.enc
  dec l := match cntC.dec l with
    | none => none
    | some (n, r) => c.decN n r
  ok vs := vs.length ≤ topC ∧ ∀ v ∈ vs, c.ok v
  fwd := fun vs r h => by
    rw [List.append_assoc]
    have h1 := cntC.fwd vs.length (vs.flatMap c.enc ++ r) h.1
    rw [show cntC.enc vs.length = cntE vs.length from rfl] at h1
    rw [h1]
    exact c.decN_fwd vs h.2 r
  bwd := fun l vs r hd h => by
    cases hk : cntC.dec l with
    | none => rw [hk] at h; cases h
    | some x =>
      obtain ⟨n, r1⟩ := x
      rw [hk] at h
      simp only at h
      obtain ⟨k1, k2⟩ := cntC.bwd l n r1 hd hk
      obtain ⟨k3, k4, k5⟩ := c.decN_bwd n r1 vs r (cntC.rest_dig hd hk) h
      subst k3
      exact ⟨⟨k1, k4⟩, by rw [k2, k5, List.append_assoc]; rfl⟩
/-! ### Bytes -/
/-- One byte. -/
def byteC : Cdc Int where
  enc x := [x]
  dec l := match l with
    | [] => none
    | c :: r => some (c, r)
  ok x := 0 ≤ x ∧ x < 256
  fwd := fun x r _ => rfl
  bwd := fun l v r hd h => by
    cases l with
    | nil => cases h
    | cons c l => injection h with h; injection h with h1 h2; subst h1 h2; exact ⟨hd _ List.mem_cons_self, rfl⟩
/-- Bytes: how many, and they themselves. -/
def bytesC : Cdc (List Int) := listC byteC
theorem bytesC_enc (bs : List Int) : bytesC.enc bs = cntE bs.length ++ bs := by
  show cntE bs.length ++ bs.flatMap byteC.enc = _
  congr 1
  induction bs with
  | nil => rfl
  | cons x l ih => rw [List.flatMap_cons, ih]; rfl
theorem byteC_decN : ∀ (n : Nat) (l : List Int), byteC.decN n l = if n ≤ l.length then some (l.take n, l.drop n) else none := fun n => by
  induction n with
  | zero => intro l; rfl
  | succ n ih =>
    intro l
    cases l with
    | nil => rfl
    | cons c l =>
      rw [Cdc.decN, show byteC.dec (c :: l) = some (c, l) from rfl]
      simp only
      rw [ih]
      by_cases h : n ≤ l.length
      · rw [if_pos h, if_pos (by simpa using h)]; rfl
      · rw [if_neg h, if_neg (by simpa using h)]
end Go.Proofs.Ytcnekfpgoceblaa
/-
  Numbers, messages and packets as bytes: what is written is read, in one way alone. No call is spoken of.
-/
namespace Go.Proofs.Ytcnekfpgoceblaa
set_option linter.unusedVariables false
/-- Only some values. -/
def Cdc.filt {α : Type} (c : Cdc α) (p : α → Bool) : Cdc α where
  enc := c.enc
  dec l := match c.dec l with
    | none => none
    | some (v, r) => if p v = true then some (v, r) else none
  ok v := c.ok v ∧ p v = true
  fwd := fun v r h => by rw [c.fwd v r h.1]; simp only; rw [if_pos h.2]
  bwd := fun l v r hd h => by
    cases hk : c.dec l with
    | none => rw [hk] at h; cases h
    | some x =>
      obtain ⟨u, r1⟩ := x
      rw [hk] at h
      simp only at h
      split at h
      · rename_i h1
        injection h with h
        injection h with h2 h3
        subst h2 h3
        obtain ⟨k1, k2⟩ := c.bwd l u r1 hd hk
        exact ⟨⟨k1, h1⟩, k2⟩
      · cases h
/-! ### Limbs -/
/-- A limb's bytes, the least one first. -/
def limE (x : Int) : List Int := (List.range 8).map fun i => x / 256 ^ i % 256
/-- What eight bytes tell. -/
def limV (l : List Int) : Int := vf 256 (dig l) 8
theorem limE_len (x : Int) : (limE x).length = 8 := by simp [limE]
theorem limE_at (x : Int) {i : Nat} (h : i < 8) : dig (limE x) i = x / 256 ^ i % 256 := by
  refine dig_lt ?_
  unfold limE
  rw [List.getElem?_map, List.getElem?_range h]; rfl
theorem limE_dig (x : Int) : Dig 256 (limE x) := fun y hy => by
  obtain ⟨i, -, rfl⟩ := List.mem_map.1 hy
  omega
theorem vf8 (f : Nat → Int) : vf 256 f 8 = f 0 + 256 * f 1 + 65536 * f 2 + 16777216 * f 3 + 4294967296 * f 4 + 1099511627776 * f 5 + 281474976710656 * f 6 + 72057594037927936 * f 7 := by
  simp only [vf]
  omega
theorem limV_E {x : Int} (h0 : 0 ≤ x) (h1 : x < 18446744073709551616) (r : List Int) : limV (limE x ++ r) = x := by
  have e : ∀ i, i < 8 → dig (limE x ++ r) i = x / 256 ^ i % 256 := fun i hi => by
    rw [← limE_at x hi]
    unfold dig
    rw [List.getD_eq_getElem?_getD, List.getD_eq_getElem?_getD, List.getElem?_append_left (by rw [limE_len]; exact hi)]
  unfold limV
  rw [vf8, e 0 (by decide), e 1 (by decide), e 2 (by decide), e 3 (by decide), e 4 (by decide), e 5 (by decide), e 6 (by decide), e 7 (by decide)]
  simp only [show (256 : Int) ^ 0 = 1 from rfl, show (256 : Int) ^ 1 = 256 from rfl, show (256 : Int) ^ 2 = 65536 from rfl, show (256 : Int) ^ 3 = 16777216 from rfl, show (256 : Int) ^ 4 = 4294967296 from rfl, show (256 : Int) ^ 5 = 1099511627776 from rfl, show (256 : Int) ^ 6 = 281474976710656 from rfl, show (256 : Int) ^ 7 = 72057594037927936 from rfl]
  omega
theorem limE_V {l : List Int} (hd : Dig 256 l) (hl : l.length = 8) : limE (limV l) = l := by
  refine ext_dig (by rw [limE_len, hl]) fun j hj => ?_
  rw [limE_len] at hj
  have b : ∀ i, 0 ≤ dig l i ∧ dig l i < 256 := fun i => dig_bd (b := 256) (by decide) hd i
  have b0 := b 0; have b1 := b 1; have b2 := b 2; have b3 := b 3; have b4 := b 4; have b5 := b 5; have b6 := b 6; have b7 := b 7
  rw [limE_at _ hj]
  unfold limV
  rw [vf8]
  rcases (show j = 0 ∨ j = 1 ∨ j = 2 ∨ j = 3 ∨ j = 4 ∨ j = 5 ∨ j = 6 ∨ j = 7 by omega) with rfl | rfl | rfl | rfl | rfl | rfl | rfl | rfl
  all_goals
    simp only [show (256 : Int) ^ 0 = 1 from rfl, show (256 : Int) ^ 1 = 256 from rfl, show (256 : Int) ^ 2 = 65536 from rfl, show (256 : Int) ^ 3 = 16777216 from rfl, show (256 : Int) ^ 4 = 4294967296 from rfl, show (256 : Int) ^ 5 = 1099511627776 from rfl, show (256 : Int) ^ 6 = 281474976710656 from rfl, show (256 : Int) ^ 7 = 72057594037927936 from rfl]
    omega
theorem limV_bd {l : List Int} (hd : Dig 256 l) : 0 ≤ limV l ∧ limV l < 18446744073709551616 := by
  have b : ∀ i, 0 ≤ dig l i ∧ dig l i < 256 := fun i => dig_bd (b := 256) (by decide) hd i
  have b0 := b 0; have b1 := b 1; have b2 := b 2; have b3 := b 3; have b4 := b 4; have b5 := b 5; have b6 := b 6; have b7 := b 7
  unfold limV
  rw [vf8]
  omega
theorem limV_take (l : List Int) (h : 8 ≤ l.length) : limV (l.take 8) = limV l := by
  unfold limV
  rw [vf8, vf8]
  have e : ∀ i, i < 8 → dig (l.take 8) i = dig l i := fun i hi => by
    unfold dig
    rw [List.getD_eq_getElem?_getD, List.getD_eq_getElem?_getD, List.getElem?_take_of_lt hi]
  rw [e 0 (by decide), e 1 (by decide), e 2 (by decide), e 3 (by decide), e 4 (by decide), e 5 (by decide), e 6 (by decide), e 7 (by decide)]
/-- Limbs. -/
def limC : Cdc Int where
  enc := limE
  dec l := if 8 ≤ l.length then some (limV l, l.drop 8) else none
  ok x := 0 ≤ x ∧ x < 18446744073709551616
  fwd := fun x r h => by
    rw [if_pos (by rw [List.length_append, limE_len]; omega), limV_E h.1 h.2, List.drop_left' (limE_len x)]
  bwd := fun l v r hd h => by
    split at h
    · rename_i h8
      injection h with h
      injection h with h1 h2
      subst h1 h2
      refine ⟨limV_bd hd, ?_⟩
      have e : limE (limV l) = l.take 8 := by
        rw [← limV_take l h8]
        exact limE_V (fun x hx => hd x (List.mem_of_mem_take hx)) (by simp; omega)
      rw [e, List.take_append_drop]
    · cases h
/-- Is the last one not nought? -/
def lastB (xs : List Int) : Bool := xs.getLast? != some 0
/-- Numbers, by their limbs. -/
def numC : Cdc (List Int) := (listC limC).filt fun xs => decide (xs.length ≤ 64) && lastB xs
theorem numC_ok {xs : List Int} : numC.ok xs ↔ Dig 18446744073709551616 xs ∧ xs.length ≤ 64 ∧ xs.getLast? ≠ some 0 := by
  show ((xs.length ≤ topC ∧ ∀ v ∈ xs, limC.ok v) ∧ (decide (xs.length ≤ 64) && lastB xs) = true) ↔ _
  unfold lastB
  simp only [Bool.and_eq_true, decide_eq_true_eq, bne_iff_ne, ne_eq]
  constructor
  · rintro ⟨⟨-, h1⟩, h2, h3⟩; exact ⟨fun x hx => h1 x hx, h2, h3⟩
  · rintro ⟨h1, h2, h3⟩; exact ⟨⟨by unfold topC; omega, fun x hx => h1 x hx⟩, h2, h3⟩
theorem numC_enc (xs : List Int) : numC.enc xs = cntE xs.length ++ xs.flatMap limE := rfl
/-! ### Messages and packets -/
abbrev Lim := List Int
/-- Lists of pairs, of proofs. -/
def prC : Cdc (Lim × (Lim × Lim)) := numC.pair (numC.pair numC)
def pfC : Cdc (Lim × Lim) := numC.pair numC
abbrev MsgT := Nat × (Nat × (Nat × (Nat × (Nat × (Nat × (Bool × (List (List (Lim × (Lim × Lim))) × (List (List (Lim × Lim)) × (List (List Int) × (Nat × Lim))))))))))
def tailC : Cdc (Bool × (List (List (Lim × (Lim × Lim))) × (List (List (Lim × Lim)) × (List (List Int) × (Nat × Lim))))) :=
  truC.pair ((listC (listC prC)).pair ((listC (listC pfC)).pair ((listC bytesC).pair (cntC.pair numC))))
def msgC : Cdc MsgT := cntC.pair (cntC.pair (cntC.pair (cntC.pair (cntC.pair (cntC.pair tailC)))))
abbrev PktT := Nat × (Nat × (Nat × (Bool × List Int)))
def pktC : Cdc PktT := cntC.pair (cntC.pair (cntC.pair (truC.pair bytesC)))
/-- What bytes are, and what is amiss: 2 too many, 9 none, 10 more behind. -/
def rdC {α : Type} (c : Cdc α) (most : Nat) (l : List Int) : Int × Option α :=
  if most < l.length then (2, none) else match c.dec l with
    | none => (9, none)
    | some (v, []) => (0, some v)
    | some (_, _ :: _) => (10, none)
theorem rdC_back {α : Type} (c : Cdc α) {most : Nat} {v : α} (h : c.ok v) (hl : (c.enc v).length ≤ most) : rdC c most (c.enc v) = (0, some v) := by
  unfold rdC
  rw [if_neg (by omega), c.whole h]
theorem rdC_torn {α : Type} (c : Cdc α) {most : Nat} {v : α} (h : c.ok v) {p s : List Int} (hd : Dig 256 p) (e : c.enc v = p ++ s) (hs : s ≠ []) (hl : (c.enc v).length ≤ most) : rdC c most p = (9, none) := by
  unfold rdC
  have := congrArg List.length e
  rw [List.length_append] at this
  rw [if_neg (by omega), c.torn h hd e hs]
theorem rdC_more {α : Type} (c : Cdc α) {most : Nat} {v : α} (h : c.ok v) {s : List Int} (hs : s ≠ []) (hl : (c.enc v).length + s.length ≤ most) : rdC c most (c.enc v ++ s) = (10, none) := by
  unfold rdC
  rw [if_neg (by rw [List.length_append]; omega), c.fwd v s h]
  cases s with
  | nil => exact absurd rfl hs
  | cons x l => rfl
end Go.Proofs.Ytcnekfpgoceblaa
