/-
  The document's way of reckoning a digest, over lists; small laws for what it appends.
-/
import Derived.Test.YtloibmemlkfkfaaGreatDoorRnu
import Derived.Test.YtloibmemlkfkfaaGreatDoorMn
import Derived.Test.YtloibmemlkfkfaaGreatDoorRhp
namespace Go.Proofs.YtloibmemlkfkfaaGreatDoor
open Go.RowKit
set_option linter.unusedVariables false
/-! ### A block's words, one by one -/
theorem ext_take (m : List Int) : ∀ {n j : Nat}, j ≤ n → (ext m n).take (m.length + j) = ext m j
  | 0, j, h => by
    obtain rfl : j = 0 := by omega
    exact List.take_of_length_le (by show m.length ≤ _; omega)
  | n + 1, j, h => by
    rcases Nat.lt_or_ge n j with g | g
    · obtain rfl : j = n + 1 := by omega
      exact List.take_of_length_le (by rw [ext_len]; omega)
    · show (ext m n ++ [nxt (ext m n)]).take (m.length + j) = ext m j
      rw [List.take_append_of_le_length (by rw [ext_len]; omega)]
      exact ext_take m g
theorem bwN_take (b : List Int) {n k : Nat} (h : k ≤ n) : (bwN b n).take k = bwN b k := by
  unfold bwN; rw [← List.map_take, List.take_range, Nat.min_eq_left h]
theorem sched_hi (b : List Int) {j : Nat} (h : j ≤ 48) : (sched b).take (16 + j) = ext (bwN b 16) j := by
  have := ext_take (bwN b 16) h
  rw [bwN_len] at this
  exact this
theorem sched_lo (b : List Int) {k : Nat} (h : k ≤ 16) : (sched b).take k = bwN b k := by
  have e := sched_hi b (j := 0) (by omega)
  have e2 : (sched b).take k = ((sched b).take (16 + 0)).take k := by rw [List.take_take, show min k (16 + 0) = k by omega]
  rw [e2, e]
  exact bwN_take b (by omega)
theorem sched_next_lo (b : List Int) {k : Nat} (h : k < 16) : (sched b).take (k + 1) = (sched b).take k ++ [wdAt b k] := by
  rw [sched_lo b (by omega), sched_lo b (by omega), bwN_succ]
theorem sched_next_hi (b : List Int) {k : Nat} (h : 16 ≤ k) (h2 : k < 64) : (sched b).take (k + 1) = (sched b).take k ++ [nxt ((sched b).take k)] := by
  obtain ⟨j, rfl⟩ : ∃ j, k = 16 + j := ⟨k - 16, by omega⟩
  rw [show 16 + j + 1 = 16 + (j + 1) by omega, sched_hi b (by omega), sched_hi b (by omega)]
  rfl
theorem sched_take_len (b : List Int) {k : Nat} (h : k ≤ 64) : ((sched b).take k).length = k := by rw [List.length_take, sched_len]; omega
theorem sched_wds {b : List Int} (h : Dig 256 b) : Wds (sched b) := ext_wds (bwN_wds h 16) 48
/-- A word, byte by byte. -/
def px (b : List Int) (i : Nat) : Nat → Int
  | 0 => 0
  | k + 1 => 256 * px b i k + dig b (4 * i + k)
theorem px_end (b : List Int) (i : Nat) : px b i 4 = wdAt b i := by simp only [px, wdAt]; rw [Nat.add_zero]; omega
theorem px_bd {b : List Int} (h : Dig 256 b) (i : Nat) : ∀ k, 0 ≤ px b i k ∧ px b i k < 256 ^ k
  | 0 => by simp [px]
  | k + 1 => by
    have h1 := px_bd h i k
    have h2 := dig_bd (b := 256) (by decide) h (4 * i + k)
    rw [Int.pow_succ]
    simp only [px]
    generalize (256 : Int) ^ k = p at *
    omega
theorem px_bd3 {b : List Int} (h : Dig 256 b) (i : Nat) {k : Nat} (hk : k < 4) : 0 ≤ px b i k ∧ px b i k < 16777216 := by
  have h1 := px_bd h i k
  have h2 : (256 : Int) ^ k ≤ 256 ^ 3 := by
    match k, hk with
    | 0, _ => decide
    | 1, _ => decide
    | 2, _ => decide
    | 3, _ => decide
  have h3 : (256 : Int) ^ 3 = 16777216 := by decide
  omega
/-- The state's words, the first k of them added. -/
def hmx (s r : St) (k : Nat) : List Int := (addS s r).l.take k ++ s.l.drop k
theorem hmx_zero (s r : St) : hmx s r 0 = s.l := rfl
theorem hmx_end (s r : St) : hmx s r 8 = (addS s r).l := rfl
theorem lt8 {k : Nat} (h : k < 8) : k = 0 ∨ k = 1 ∨ k = 2 ∨ k = 3 ∨ k = 4 ∨ k = 5 ∨ k = 6 ∨ k = 7 := by omega
theorem hmx_dig (s r : St) {k : Nat} (h : k < 8) : dig (hmx s r k) k = dig s.l k := by
  rcases lt8 h with rfl | rfl | rfl | rfl | rfl | rfl | rfl | rfl <;> rfl
theorem hmx_set (s r : St) {k : Nat} (h : k < 8) : (hmx s r k).set k (ad (dig s.l k) (dig r.l k)) = hmx s r (k + 1) := by
  rcases lt8 h with rfl | rfl | rfl | rfl | rfl | rfl | rfl | rfl <;> rfl
theorem hmx_len (s r : St) {k : Nat} (h : k ≤ 8) : (hmx s r k).length = 8 := by
  unfold hmx
  rw [List.length_append, List.length_take, List.length_drop]
  show min k 8 + (8 - k) = 8
  omega
theorem stl_at (s : St) : s.l = [s.a, s.b, s.c, s.d, s.e, s.f, s.g, s.h] := rfl
theorem fill_test (n j : Nat) (h : j ≤ fillN n) : ((n + 1 + j) % 64 = 56 ↔ j = fillN n) := by unfold fillN at *; omega
theorem fillN_lt (n : Nat) : fillN n < 64 := by unfold fillN; omega
theorem blk_dig (L : List Int) (j i : Nat) (h : i < 64) : dig ((L.drop (64 * j)).take 64) i = dig L (64 * j + i) := by rw [dig_take h, dig_drop]
/-! ### Appends -/
theorem cell_one (w : World) (v : Value) (t : TypeId) : (w.alloc (.cells #[v] t)).cell? ⟨w.heap.size, 0, none⟩ = some v := by simp [World.cell?_alloc_at]
/-- A slice just made with nothing in it. -/
theorem own_none (w : World) (t : TypeId) (k : IntKind) {base : Nat} (hb : base ≤ w.heap.size) : (w.alloc (.cells #[] t)).ownsRow base t 1 (.slice (some ⟨w.heap.size, 0, none⟩) 0 0) 0 (([] : List Int).map (Value.int k)) :=
  ⟨rfl, .inr ⟨w.heap.size, 0, _, rfl, hb, heap_alloc_new w _, Nat.zero_le _, by unfold maxLen; omega, by simp, by simp⟩⟩
theorem own_none_at (w : World) (t : TypeId) (k : IntKind) {base q : Nat} (hq : w.heap.size = q) (hb : base ≤ q) : (w.alloc (.cells #[] t)).ownsRow base t 1 (.slice (some ⟨q, 0, none⟩) 0 0) 0 (([] : List Int).map (Value.int k)) := by
  subst hq
  exact own_none w t k hb
theorem own_base {w : World} {base base' : Nat} {t : TypeId} {v : Value} {n : Nat} {xs : List Value} (h : w.ownsRow base t 1 v n xs) (hb : base' ≤ base) : w.ownsRow base' t 1 v n xs := by
  refine ⟨h.1, ?_⟩
  rcases h.2 with g | ⟨g, cap, cur, h1, h2, h3⟩
  · exact .inl g
  · exact .inr ⟨g, cap, cur, h1, Nat.le_trans hb h2, h3⟩
section
variable {P : Program} (w : World)
theorem rd_one {k : IntKind} {g : Nat} {y : Int} (hc : w.cell? ⟨g, 0, none⟩ = some (.int k y)) (hl : g < w.heap.size) : Rd k w (some ⟨g, 0, none⟩) 1 [y] :=
  ⟨rfl, fun _ => ⟨g, 0, rfl, hl, fun j x hx => by
    match j, hx with
    | 0, hx => injection hx with hx; subst hx; exact hc⟩⟩
/-- One integer more. -/
theorem wpList_app1 {ops : Array Oper} {rest : List Oper} {o : Oper} {a : Act} {Q : Exit → Act → World → Prop} (hgd : o.guard = none) (s x : Operand) (t : TypeId)
    (ho : o.op = .call { callee := .builtin .append, args := #[s, x], argTypes := #[t, t] })
    (base : Nat) (by' : Nat) (e : TypeId) (k : IntKind) (ht : P.underlying t = some (.slice e)) (hi : (P.info? e).map (fun i => (i.zero, i.size, i.bytes)) = some (some (.int k 0), 1, by'))
    (hby : by' ≤ 16) (v : Value) (n : Nat) (L : List Int) (hs : a.eval s = v) (hown : w.ownsRow base e 1 v n (L.map (Value.int k)))
    (g : Nat) (y : Int) (hx : a.eval x = .slice (some ⟨g, 0, none⟩) 1 1) (hc : w.cell? ⟨g, 0, none⟩ = some (.int k y)) (hl : g < w.heap.size) (hn : n ≤ 4398046511104) (hbase : base ≤ w.heap.size)
    (h : ∀ v' w', w'.ownsRow base e 1 v' (n + 1) ((L ++ [y]).map (Value.int k)) → w.grownBy w' v.ownBlock → wpList P ops Q rest (a.put o.dst v') w') : wpList P ops Q (o :: rest) a w :=
  wpList_catK w hgd s x t ho base by' e k ht hi hby v n L hs hown _ 1 1 [y] hx (rd_one w hc hl) (by omega) hbase h
theorem step_app1 {ops : Array Oper} {o : Oper} {a : Act} {K : Act → World → Prop} {Q : Exit → Act → World → Prop} {E : Prop} (hgd : o.guard = none) (s x : Operand) (t : TypeId)
    (ho : o.op = .call { callee := .builtin .append, args := #[s, x], argTypes := #[t, t] })
    (base : Nat) (by' : Nat) (e : TypeId) (k : IntKind) (ht : P.underlying t = some (.slice e)) (hi : (P.info? e).map (fun i => (i.zero, i.size, i.bytes)) = some (some (.int k 0), 1, by'))
    (hby : by' ≤ 16) (v : Value) (n : Nat) (L : List Int) (hs : a.eval s = v) (hown : w.ownsRow base e 1 v n (L.map (Value.int k)))
    (g : Nat) (y : Int) (hx : a.eval x = .slice (some ⟨g, 0, none⟩) 1 1) (hc : w.cell? ⟨g, 0, none⟩ = some (.int k y)) (hl : g < w.heap.size) (hn : n ≤ 4398046511104) (hbase : base ≤ w.heap.size)
    (h : ∀ v' w', w'.ownsRow base e 1 v' (n + 1) ((L ++ [y]).map (Value.int k)) → w.grownBy w' v.ownBlock → K (a.put o.dst v') w') :
    if Region.wanted o (yielded ops a.tmps) = true then Oper.wp P o a w K Q else E :=
  step_catK w hgd s x t ho base by' e k ht hi hby v n L hs hown _ 1 1 [y] hx (rd_one w hc hl) (by omega) hbase h
end
theorem info32 : (Tryz.prog.info? 156).map (fun i => (i.zero, i.size, i.bytes)) = some (some (.int .u32 0), 1, 4) := by kernel_rfl
/-! ### A slice that is turned -/
section
variable {t : TypeId} {k : IntKind} {w : World} {base : Nat} {n c : Nat} {xs : List Int}
theorem Mn.at0 {A : Option Addr} (h : Mn t k w base A n c xs) (hn : 0 < n) : ∃ g, A = some ⟨g, 0, none⟩ ∧ base ≤ g ∧ g < w.heap.size := by
  obtain ⟨g, cur, e, hg, -⟩ := h.row hn
  exact ⟨g, e, h.new _ e, (Array.getElem?_eq_some_iff.1 hg).1⟩
theorem Mn.cell {g j : Nat} (h : Mn t k w base (some ⟨g, 0, none⟩) n c xs) (hj : j < n) : w.cell? ⟨g, j, none⟩ = some (.int k (dig xs j)) := by
  obtain ⟨g', cur, e, hg, hc⟩ := h.row (by omega)
  injection e with e; injection e with e; subst e
  rw [cell_of_row w g j cur _ _ hg]
  exact hc j _ (getElem?_dig (by have := h.len; omega))
theorem Mn.frozen {g j : Nat} (h : Mn t k w base (some ⟨g, 0, none⟩) n c xs) (hj : j < n) : w.frozen? ⟨g, j, none⟩ = false := by
  obtain ⟨g', cur, e, hg, hc⟩ := h.row (by omega)
  injection e with e; injection e with e; subst e
  exact frozen_of_row w g j cur _ hg
theorem Mn.set {g j : Nat} (h : Mn t k w base (some ⟨g, 0, none⟩) n c xs) (hj : j < n) (x : Int) : Mn t k (w.setCell ⟨g, j, none⟩ (.int k x)) base (some ⟨g, 0, none⟩) n c (xs.set j x) := by
  obtain ⟨g', cur, e, hg, hc⟩ := h.row (by omega)
  have e2 := e
  injection e2 with e2; injection e2 with e2; subst e2
  refine ⟨by rw [List.length_set]; exact h.len, h.nc, h.new, fun a ha => by simp only [World.setCell, Array.size_modify]; exact h.lt a ha, fun _ => ⟨g, cur.setIfInBounds j (.int k x), rfl, ?_, fun i y hi => ?_⟩⟩
  · rw [setCell_eq_setRow w g j cur _ _ _ hg]; exact setRow_heap w g cur _ _ _ hg
  · rw [Array.getElem?_setIfInBounds]
    rw [List.getElem?_set] at hi
    have hl := h.len
    have hcj := (Array.getElem?_eq_some_iff.1 (hc j _ (getElem?_dig (by omega)))).1
    split
    · rename_i q
      subst q
      rw [if_pos rfl, if_pos (by omega)] at hi
      injection hi with hi
      subst hi
      rfl
    · rename_i q
      rw [if_neg q] at hi
      exact hc i y hi
theorem Mn.drew {A : Option Addr} (h : Mn t k w base A n c xs) : Mn t k w.drew base A n c xs := ⟨h.len, h.nc, h.new, h.lt, h.row⟩
theorem Mn.drewN {A : Option Addr} (h : Mn t k w base A n c xs) (m : Nat) : Mn t k (w.drewN m) base A n c xs := ⟨h.len, h.nc, h.new, h.lt, h.row⟩
theorem Mn.base_ {A : Option Addr} {base' : Nat} (h : Mn t k w base A n c xs) (hb : base' ≤ base) : Mn t k w base' A n c xs := ⟨h.len, h.nc, fun a ha => Nat.le_trans hb (h.new a ha), h.lt, h.row⟩
theorem Kept.set {X : Nat → Prop} {w0 : World} (h : Kept X w0 w) {g : Nat} (hg : X g) (j : Nat) (u : Value) : Kept X w0 (w.setCell ⟨g, j, none⟩ u) :=
  ⟨by simp only [World.setCell, Array.size_modify]; exact h.size, fun b hb hx => (Below.heap_setCell w ⟨g, j, none⟩ u b (by rintro rfl; exact hx hg)).trans (h.block b hb hx)⟩
theorem Kept.drew {X : Nat → Prop} {w0 : World} (h : Kept X w0 w) : Kept X w0 w.drew := ⟨h.size, h.block⟩
theorem Kept.below {X : Nat → Prop} {w0 w' : World} (h : Kept X w0 w) (hb : Below w.heap.size w w') : Kept X w0 w' := h.trans (Kept.of_below hb)
end
end Go.Proofs.YtloibmemlkfkfaaGreatDoor
