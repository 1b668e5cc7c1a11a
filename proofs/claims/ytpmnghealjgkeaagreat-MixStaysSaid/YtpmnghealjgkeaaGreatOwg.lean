/-
  A list of the call's own, that grows by append: its cells are slices of things that lie elsewhere (letters, lists of numbers).
-/
import Derived.Test.YtpmnghealjgkeaaGreatMxx
namespace Go.Proofs.YtpmnghealjgkeaaGreat
open Go.RowKit
set_option linter.unusedVariables false
/-- A kind of thing that a slice reads as: its value, that it lies in memory, and in which blocks. -/
structure Kd (κ : Type) where
  v : κ → Value
  At : World → κ → Prop
  Bl : κ → Nat → Prop
  one : ∀ s, (v s).oneCell' = true
  lt : ∀ {w : World} {s : κ} {b : Nat}, At w s → Bl s b → b < w.heap.size
  stay : ∀ {w w' : World} {s : κ}, At w s → w.heap.size ≤ w'.heap.size → (∀ b, Bl s b → w'.heap[b]? = w.heap[b]?) → At w' s
/-! ### The blocks of numbers, letters, lists -/
def BlN (A : Option Addr) (n b : Nat) : Prop := ∃ a, A = some a ∧ 0 < n ∧ a.block = b
theorem Nm.stay {w w' : World} {A : Option Addr} {n c : Nat} {N : Int} (h : Nm w A n c N) (hs : w.heap.size ≤ w'.heap.size) (hb : ∀ b, BlN A n b → w'.heap[b]? = w.heap[b]?) : Nm w' A n c N := by
  obtain ⟨⟨xs, h1, h2, h3⟩, h4, h5, h6⟩ := h
  refine ⟨⟨xs, ⟨h1.len, fun hn => ?_⟩, h2, h3⟩, h4, h5, h6⟩
  obtain ⟨b, off, e, hl, hc⟩ := h1.cells hn
  exact ⟨b, off, e, Nat.lt_of_lt_of_le hl hs, fun j x hj => (World.cell?_of_block (a := ⟨b, off + j, none⟩) (hb b ⟨_, e, hn, rfl⟩)).trans (hc j x hj)⟩
theorem Nm.blt {w : World} {A : Option Addr} {n c : Nat} {N : Int} (h : Nm w A n c N) {b : Nat} (hb : BlN A n b) : b < w.heap.size := by
  obtain ⟨a, e, hn, rfl⟩ := hb
  exact h.blk hn a e
def BlS (s : Rsl) (b : Nat) : Prop := BlN s.A s.n b ∨ ∃ i, i < s.n ∧ BlN (s.S i).A (s.S i).n b
theorem Ns.stay {w w' : World} {A : Option Addr} {n c : Nat} {S : Nat → Nsl} (h : Ns w A n c S) (hs : w.heap.size ≤ w'.heap.size) (hb : ∀ b, BlS ⟨A, n, c, S⟩ b → w'.heap[b]? = w.heap[b]?) : Ns w' A n c S := by
  refine ⟨h.nc, h.c60, fun hn => ?_, fun i hi => (h.at_ i hi).stay hs fun b g => hb b (.inr ⟨i, hi, g⟩)⟩
  obtain ⟨b, off, e, hl, hc⟩ := h.ex hn
  exact ⟨b, off, e, Nat.lt_of_lt_of_le hl hs, fun i hi => (World.cell?_of_block (a := ⟨b, off + i, none⟩) (hb b (.inl ⟨_, e, hn, rfl⟩))).trans (hc i hi)⟩
theorem Ns.blt {w : World} {A : Option Addr} {n c : Nat} {S : Nat → Nsl} (h : Ns w A n c S) {b : Nat} (hb : BlS ⟨A, n, c, S⟩ b) : b < w.heap.size := by
  rcases hb with ⟨a, e, hn, rfl⟩ | ⟨i, hi, g⟩
  · obtain ⟨b, off, e2, hl, -⟩ := h.ex hn
    simp only at e
    rw [e2] at e
    injection e with e
    rw [← e]
    exact hl
  · exact (h.at_ i hi).blt g
/-- Lists of numbers. -/
def kNs : Kd Rsl := ⟨fun s => .slice s.A s.n s.c, fun w s => Ns w s.A s.n s.c s.S, BlS, fun _ => rfl, fun h g => Ns.blt h g, fun h hs g => Ns.stay h hs g⟩
def BlL (s : Lsl) (b : Nat) : Prop := BlN s.A s.n b ∨ ∃ i, i < s.n ∧ (BlN (s.S i).A1 (s.S i).n1 b ∨ BlN (s.S i).A2 (s.S i).n2 b ∨ BlN (s.S i).A3 (s.S i).n3 b)
theorem Ch.stay {w w' : World} {A : Option Addr} {n c : Nat} {S : Nat → Stp} (h : Ch w A n c S) (hs : w.heap.size ≤ w'.heap.size) (hb : ∀ b, BlL ⟨A, n, c, S⟩ b → w'.heap[b]? = w.heap[b]?) : Ch w' A n c S := by
  refine ⟨h.nc, h.c60, fun hn => ?_, fun i hi => ⟨(h.at_ i hi).p.stay hs fun b g => hb b (.inr ⟨i, hi, .inl g⟩), (h.at_ i hi).q.stay hs fun b g => hb b (.inr ⟨i, hi, .inr (.inl g)⟩), (h.at_ i hi).a.stay hs fun b g => hb b (.inr ⟨i, hi, .inr (.inr g)⟩)⟩⟩
  obtain ⟨b, off, e, hl, hc⟩ := h.ex hn
  have hk : ∀ o, w'.cell? ⟨b, o, none⟩ = w.cell? ⟨b, o, none⟩ := fun o => World.cell?_of_block (a := ⟨b, o, none⟩) (hb b (.inl ⟨_, e, hn, rfl⟩))
  exact ⟨b, off, e, Nat.lt_of_lt_of_le hl hs, fun i hi => ⟨(hk _).trans (hc i hi).c0, (hk _).trans (hc i hi).c1, (hk _).trans (hc i hi).c2⟩⟩
theorem Ch.blt {w : World} {A : Option Addr} {n c : Nat} {S : Nat → Stp} (h : Ch w A n c S) {b : Nat} (hb : BlL ⟨A, n, c, S⟩ b) : b < w.heap.size := by
  rcases hb with ⟨a, e, hn, rfl⟩ | ⟨i, hi, g⟩
  · obtain ⟨b, off, e2, hl, -⟩ := h.ex hn
    simp only at e
    rw [e2] at e
    injection e with e
    rw [← e]
    exact hl
  · rcases g with g | g | g
    · exact (h.at_ i hi).p.blt g
    · exact (h.at_ i hi).q.blt g
    · exact (h.at_ i hi).a.blt g
/-- Letters. -/
def kCh : Kd Lsl := ⟨fun s => .slice s.A s.n s.c, fun w s => Ch w s.A s.n s.c s.S, BlL, fun _ => rfl, fun h g => Ch.blt h g, fun h hs g => Ch.stay h hs g⟩
/-! ### The list -/
section
variable {κ : Type}
/-- One more behind. -/
def snocG (S : Nat → κ) (n : Nat) (s : κ) : Nat → κ := fun i => if i < n then S i else s
theorem snocG_lt {S : Nat → κ} {n i : Nat} {s : κ} (h : i < n) : snocG S n s i = S i := if_pos h
theorem snocG_at {S : Nat → κ} {n : Nat} {s : κ} : snocG S n s n = s := if_neg (Nat.lt_irrefl n)
def owgC (K : Kd κ) (S : Nat → κ) (n : Nat) : List Value := (List.range n).map fun i => K.v (S i)
theorem owgC_len {K : Kd κ} {S : Nat → κ} {n : Nat} : (owgC K S n).length = n := by simp [owgC]
theorem owgC_at {K : Kd κ} {S : Nat → κ} {n i : Nat} (h : i < n) : (owgC K S n)[i]? = some (K.v (S i)) := by simp [owgC, h]
theorem owgC_snoc {K : Kd κ} {S : Nat → κ} {n : Nat} {s : κ} : owgC K (snocG S n s) (n + 1) = owgC K S n ++ [K.v s] := by
  unfold owgC
  rw [List.range_succ, List.map_append]
  congr 1
  · exact List.map_congr_left fun i hi => by rw [snocG_lt (List.mem_range.1 hi)]
  · simp only [List.map_cons, List.map_nil, snocG_at]
/-- A list of the call's own. -/
structure Owg (K : Kd κ) (e : TypeId) (w : World) (base : Nat) (v : Value) (n : Nat) (S : Nat → κ) : Prop where
  own : w.ownsRow base e 1 v n (owgC K S n)
  at_ : ∀ i, i < n → K.At w (S i)
  els : ∀ i, i < n → ∀ b, K.Bl (S i) b → v.ownBlock ≠ some b
variable {K : Kd κ} {e : TypeId} {w w' : World} {base : Nat} {v : Value} {n : Nat} {S : Nat → κ}
theorem Owg.nil (K : Kd κ) (e : TypeId) (w : World) (base : Nat) (S : Nat → κ) : Owg K e w base (.slice none 0 0) 0 S :=
  ⟨⟨by simp [owgC], .inl ⟨rfl, rfl⟩⟩, fun i h => absurd h (by omega), fun i h => absurd h (by omega)⟩
theorem Owg.below (h : Owg K e w base v n S) (hb : Below w.heap.size w w') : Owg K e w' base v n S :=
  ⟨own_belowV hb h.own, fun i hi => K.stay (h.at_ i hi) hb.size fun b g => hb.block b (K.lt (h.at_ i hi) g), h.els⟩
theorem Owg.lt (h : Owg K e w base v n S) {g : Nat} (hg : v.ownBlock = some g) : base ≤ g ∧ g < w.heap.size := by
  rcases h.own.2 with ⟨rfl, -⟩ | ⟨g', cap, cur, rfl, h2, h3, -⟩
  · cases hg
  · injection hg with hg; subst hg; exact ⟨h2, (Array.getElem?_eq_some_iff.1 h3).1⟩
/-- What is newer than the list lies elsewhere. -/
theorem Owg.far (h : Owg K e w base v n S) {b : Nat} (hb : w.heap.size ≤ b) : v.ownBlock ≠ some b := fun e => by have := (h.lt e).2; omega
/-- What is older than the list lies elsewhere. -/
theorem Owg.old (h : Owg K e w base v n S) {b : Nat} (hb : b < base) : v.ownBlock ≠ some b := fun e => by have := (h.lt e).1; omega
/-- It stays where another block is turned, that none of its things lie in. -/
theorem Owg.grown (h : Owg K e w base v n S) {row : Option Nat} (hg : w.grownBy w' row) (hv : v.ownBlock = none ∨ v.ownBlock ≠ row) (hne : ∀ i, i < n → ∀ b, K.Bl (S i) b → row ≠ some b) : Owg K e w' base v n S :=
  ⟨h.own.kept hg hv, fun i hi => K.stay (h.at_ i hi) hg.size fun b g => hg.block b (K.lt (h.at_ i hi) g) (fun e => hne i hi b g e.symm), h.els⟩
theorem Owg.form (h : Owg K e w base v n S) : ∃ A c, v = .slice A n c ∧ n ≤ c ∧ (∀ a, A = some a → base ≤ a.block) ∧ (0 < n → ∃ g, A = some ⟨g, 0, none⟩ ∧ g < w.heap.size ∧ ∀ i, i < n → w.cell? ⟨g, i, none⟩ = some (K.v (S i))) := by
  rcases h.own.2 with ⟨rfl, rfl⟩ | ⟨g, cap, cur, rfl, h2, h3, h4, h5, h6, h7⟩
  · exact ⟨none, 0, rfl, Nat.le_refl _, fun a ha => (by cases ha), fun h => absurd h (by omega)⟩
  · refine ⟨_, cap, rfl, h4, fun a ha => by injection ha with ha; subst ha; exact h2, fun hn => ⟨g, rfl, (Array.getElem?_eq_some_iff.1 h3).1, fun i hi => ?_⟩⟩
    have hc := h.own.cells (g := g) rfl i _ (owgC_at hi)
    have ea : (⟨g, 0, none⟩ : Addr).add i = ⟨g, i, none⟩ := by
      unfold Addr.add; split
      · rename_i h0; subst h0; rfl
      · rw [Nat.zero_add]
    rw [ea] at hc
    exact hc
end
theorem Owg.bat {e : TypeId} {w : World} {base : Nat} {v : Value} {n : Nat} {S : Nat → Lsl} (h : Owg kCh e w base v n S) (h60 : n ≤ 17592186044416) : ∃ A c, v = .slice A n c ∧ (∀ a, A = some a → base ≤ a.block) ∧ Bat w A n c S := by
  obtain ⟨A, c, rfl, hnc, hb, hc⟩ := h.form
  refine ⟨A, c, rfl, hb, hnc, h60, fun hn => ?_, fun i hi => h.at_ i hi⟩
  obtain ⟨g, eg, hl, hx⟩ := hc hn
  exact ⟨g, 0, eg, hl, fun i hi => by rw [Nat.zero_add]; exact hx i hi⟩
theorem Owg.rls {e : TypeId} {w : World} {base : Nat} {v : Value} {n : Nat} {S : Nat → Rsl} (h : Owg kNs e w base v n S) (h60 : n ≤ 17592186044416) : ∃ A c, v = .slice A n c ∧ (∀ a, A = some a → base ≤ a.block) ∧ Rls w A n c S := by
  obtain ⟨A, c, rfl, hnc, hb, hc⟩ := h.form
  refine ⟨A, c, rfl, hb, hnc, h60, fun hn => ?_, fun i hi => h.at_ i hi⟩
  obtain ⟨g, eg, hl, hx⟩ := hc hn
  exact ⟨g, 0, eg, hl, fun i hi => by rw [Nat.zero_add]; exact hx i hi⟩
section
variable {κ : Type} {K : Kd κ} {P : Program} {w : World}
/-- What is left to show of an append. -/
theorem owg_next {e : TypeId} {base : Nat} {v : Value} {n : Nat} {S : Nat → κ} {s : κ} (hown : Owg K e w base v n S) (hU : K.At w s) (hf : ∀ b, K.Bl s b → v.ownBlock ≠ some b)
    {g' cap : Nat} {w' : World} (a1 : w'.ownsRow base e 1 (.slice (some ⟨g', 0, none⟩) (n + 1) cap) (n + 1) (owgC K S n ++ [K.v s])) (a2 : w.grownBy w' v.ownBlock) (a3 : v.ownBlock = some g' ∨ g' = w.heap.size) :
    Owg K e w' base (.slice (some ⟨g', 0, none⟩) (n + 1) cap) (n + 1) (snocG S n s) := by
  have key : ∀ i, i < n + 1 → K.At w (snocG S n s i) ∧ ∀ b, K.Bl (snocG S n s i) b → v.ownBlock ≠ some b := by
    intro i hi
    rcases Nat.lt_or_ge i n with g | g
    · rw [snocG_lt g]; exact ⟨hown.at_ i g, hown.els i g⟩
    · obtain rfl : i = n := by omega
      rw [snocG_at]; exact ⟨hU, hf⟩
  refine ⟨by rw [owgC_snoc]; exact a1, fun i hi => K.stay (key i hi).1 a2.size fun b hb => a2.block b (K.lt (key i hi).1 hb) (fun e => (key i hi).2 b hb e.symm), fun i hi b hb e2 => ?_⟩
  have e3 : g' = b := by injection e2
  rcases a3 with q | q
  · exact (key i hi).2 b hb (by rw [q, e3])
  · have := K.lt (key i hi).1 hb; omega
theorem one_news {g : Nat} {u : Value} (hc : w.cell? ⟨g, 0, none⟩ = some u) : ∀ j x, [u][j]? = some x → w.cell? ((⟨g, 0, none⟩ : Addr).add j) = some x := by
  intro j x hj
  match j, hj with
  | 0, hj =>
    injection hj with hj
    subst hj
    have ea : (⟨g, 0, none⟩ : Addr).add 0 = ⟨g, 0, none⟩ := by
      unfold Addr.add; split
      · rfl
      · rfl
    rw [ea]
    exact hc
/-- One element more. -/
theorem wpList_owg {ops : Array Oper} {rest : List Oper} {o : Oper} {a : Act} {Q : Exit → Act → World → Prop} (hgd : o.guard = none) (s0 x : Operand) (t : TypeId)
    (ho : o.op = .call { callee := .builtin .append, args := #[s0, x], argTypes := #[t, t] })
    (base : Nat) (e : TypeId) (by' : Nat) (z : Value) (ht : P.underlying t = some (.slice e)) (hi : (P.info? e).map (fun i => (i.zero, i.size, i.bytes)) = some (some z, 1, by')) (hz : z.cells.size = 1)
    (v : Value) (n cm : Nat) (S : Nat → κ) (s : κ) (hs : a.eval s0 = v) (hown : Owg K e w base v n S)
    (g : Nat) (hx : a.eval x = .slice (some ⟨g, 0, none⟩) 1 cm) (hc : w.cell? ⟨g, 0, none⟩ = some (K.v s)) (hU : K.At w s)
    (hf : ∀ b, K.Bl s b → v.ownBlock ≠ some b) (h63 : n + 1 ≤ maxLen) (hbytes : (n + 1) * by' ≤ 140737488355328) (hbase : base ≤ w.heap.size)
    (h : ∀ v' w', Owg K e w' base v' (n + 1) (snocG S n s) → w.grownBy w' v.ownBlock → wpList P ops Q rest (a.put o.dst v') w') : wpList P ops Q (o :: rest) a w := by
  obtain ⟨i0, h1, h2, h3, h4⟩ := info_parts hi
  exact wpList_append_lies w hgd s0 x t ho base e i0 z 1 by' ht h1 h2 h3 h4 hz (by decide) v n (owgC K S n) hs hown.own ⟨g, 0, none⟩ 1 cm [K.v s] hx rfl (one_news hc) (fun u hu => by rw [List.mem_singleton] at hu; subst hu; exact K.one s) (by decide) h63 hbytes hbase w.heap.size rfl
    (fun g' cap w' a1 a2 a3 a4 => h _ w' (owg_next hown hU hf a1 a2 a3) a2)
/-- The same, at a step of a region that draws its order. -/
theorem step_owg {ops : Array Oper} {o : Oper} {a : Act} {K' : Act → World → Prop} {Q : Exit → Act → World → Prop} {E : Prop} (hgd : o.guard = none) (s0 x : Operand) (t : TypeId)
    (ho : o.op = .call { callee := .builtin .append, args := #[s0, x], argTypes := #[t, t] })
    (base : Nat) (e : TypeId) (by' : Nat) (z : Value) (ht : P.underlying t = some (.slice e)) (hi : (P.info? e).map (fun i => (i.zero, i.size, i.bytes)) = some (some z, 1, by')) (hz : z.cells.size = 1)
    (v : Value) (n cm : Nat) (S : Nat → κ) (s : κ) (hs : a.eval s0 = v) (hown : Owg K e w base v n S)
    (g : Nat) (hx : a.eval x = .slice (some ⟨g, 0, none⟩) 1 cm) (hc : w.cell? ⟨g, 0, none⟩ = some (K.v s)) (hU : K.At w s)
    (hf : ∀ b, K.Bl s b → v.ownBlock ≠ some b) (h63 : n + 1 ≤ maxLen) (hbytes : (n + 1) * by' ≤ 140737488355328) (hbase : base ≤ w.heap.size)
    (h : ∀ v' w', Owg K e w' base v' (n + 1) (snocG S n s) → w.grownBy w' v.ownBlock → K' (a.put o.dst v') w') : if Region.wanted o (yielded ops a.tmps) = true then Oper.wp P o a w K' Q else E := by
  obtain ⟨i0, h1, h2, h3, h4⟩ := info_parts hi
  exact step_append_lies w hgd s0 x t ho base e i0 z 1 by' ht h1 h2 h3 h4 hz (by decide) v n (owgC K S n) hs hown.own ⟨g, 0, none⟩ 1 cm [K.v s] hx rfl (one_news hc) (fun u hu => by rw [List.mem_singleton] at hu; subst hu; exact K.one s) (by decide) h63 hbytes hbase w.heap.size rfl
    (fun g' cap w' a1 a2 a3 a4 => h _ w' (owg_next hown hU hf a1 a2 a3) a2)
end
/-! ### Several lists side by side: a colour for each block: 0, or which list's row it is -/
/-- Blocks that are yet to come have no colour. -/
def Col (w : World) (c : Nat → Nat) : Prop := ∀ b, w.heap.size ≤ b → c b = 0
theorem Col.below {w w' : World} {c : Nat → Nat} (h : Col w c) (hb : w.heap.size ≤ w'.heap.size) : Col w' c := fun b g => h b (Nat.le_trans hb g)
theorem Col.none (w : World) : Col w (fun _ => 0) := fun _ _ => rfl
/-- Two colourings are the same on what is there. -/
def SameC (w : World) (c c' : Nat → Nat) : Prop := ∀ b, b < w.heap.size → c' b = c b
structure Lst {κ : Type} (K : Kd κ) (e : TypeId) (k : Nat) (c : Nat → Nat) (w : World) (base : Nat) (v : Value) (n : Nat) (S : Nat → κ) : Prop where
  l : Owg K e w base v n S
  row : ∀ g, v.ownBlock = some g → c g = k
  con : ∀ i, i < n → ∀ b, K.Bl (S i) b → c b = 0
section
variable {κ : Type} {K : Kd κ} {e : TypeId} {k : Nat} {c c' : Nat → Nat} {w w' : World} {base : Nat} {v : Value} {n : Nat} {S : Nat → κ}
theorem Lst.nil (K : Kd κ) (e : TypeId) (k : Nat) (c : Nat → Nat) (w : World) (base : Nat) (S : Nat → κ) : Lst K e k c w base (.slice none 0 0) 0 S :=
  ⟨Owg.nil K e w base S, fun g h => (by cases h), fun i h => absurd h (Nat.not_lt_zero i)⟩
theorem Lst.below (h : Lst K e k c w base v n S) (hb : Below w.heap.size w w') : Lst K e k c w' base v n S := ⟨h.l.below hb, h.row, h.con⟩
/-- Another list's row was turned. -/
theorem Lst.other (h : Lst K e k c w base v n S) {v2 : Value} {k2 : Nat} (hg : w.grownBy w' v2.ownBlock) (h2 : ∀ g, v2.ownBlock = some g → c g = k2) (hk : k ≠ k2) (h0 : k2 ≠ 0) (hs : SameC w c c') : Lst K e k c' w' base v n S := by
  refine ⟨h.l.grown hg ?_ (fun i hi b hb q => ?_), fun g q => by rw [hs g (h.l.lt q).2]; exact h.row g q, fun i hi b hb => by rw [hs b (K.lt (h.l.at_ i hi) hb)]; exact h.con i hi b hb⟩
  · cases hv : v.ownBlock with
    | none => exact .inl rfl
    | some g =>
      right
      intro q
      have h1 := h.row g hv
      have h3 := h2 g q.symm
      omega
  · have h1 := h2 b q
    have h3 := h.con i hi b hb
    omega
end
section
variable {κ : Type} {K : Kd κ} {P : Program} {w : World}
theorem lst_next {e : TypeId} {k : Nat} {c : Nat → Nat} {base : Nat} {v : Value} {n : Nat} {S : Nat → κ} {s : κ} (h : Lst K e k c w base v n S) (hcol : Col w c) (hk : k ≠ 0) (hU : K.At w s) (hf : ∀ b, K.Bl s b → c b = 0)
    {g' cap : Nat} {w' : World} (a1 : w'.ownsRow base e 1 (.slice (some ⟨g', 0, none⟩) (n + 1) cap) (n + 1) (owgC K S n ++ [K.v s])) (a2 : w.grownBy w' v.ownBlock) (a3 : v.ownBlock = some g' ∨ g' = w.heap.size) (a4 : g' < w'.heap.size) :
    ∃ c', Lst K e k c' w' base (.slice (some ⟨g', 0, none⟩) (n + 1) cap) (n + 1) (snocG S n s) ∧ SameC w c c' ∧ Col w' c' := by
  have hff : ∀ b, K.Bl s b → v.ownBlock ≠ some b := fun b hb q => by have h1 := h.row b q; have h2 := hf b hb; omega
  have hs : SameC w c (fun b => if b = g' then k else c b) := fun b hb => by
    show (if b = g' then k else c b) = c b
    split
    · rename_i q
      subst q
      rcases a3 with q | q
      · exact (h.row _ q).symm
      · omega
    · rfl
  refine ⟨fun b => if b = g' then k else c b, ⟨owg_next h.l hU hff a1 a2 a3, fun g q => ?_, fun i hi b hb => ?_⟩, hs, fun b hb => ?_⟩
  · have e3 : g' = g := by injection q
    exact if_pos e3.symm
  · rcases Nat.lt_or_ge i n with g | g
    · rw [snocG_lt g] at hb
      exact (hs b (K.lt (h.l.at_ i g) hb)).trans (h.con i g b hb)
    · obtain rfl : i = n := by omega
      rw [snocG_at] at hb
      exact (hs b (K.lt hU hb)).trans (hf b hb)
  · show (if b = g' then k else c b) = 0
    rw [if_neg (by omega)]
    exact hcol b (Nat.le_trans a2.size hb)
/-- One element more. -/
theorem wpList_lst {ops : Array Oper} {rest : List Oper} {o : Oper} {a : Act} {Q : Exit → Act → World → Prop} (hgd : o.guard = none) (s0 x : Operand) (t : TypeId)
    (ho : o.op = .call { callee := .builtin .append, args := #[s0, x], argTypes := #[t, t] })
    (base : Nat) (e : TypeId) (by' : Nat) (z : Value) (ht : P.underlying t = some (.slice e)) (hi : (P.info? e).map (fun i => (i.zero, i.size, i.bytes)) = some (some z, 1, by')) (hz : z.cells.size = 1)
    (k : Nat) (c : Nat → Nat) (hk : k ≠ 0) (hcol : Col w c)
    (v : Value) (n cm : Nat) (S : Nat → κ) (s : κ) (hs : a.eval s0 = v) (hown : Lst K e k c w base v n S)
    (g : Nat) (hx : a.eval x = .slice (some ⟨g, 0, none⟩) 1 cm) (hc : w.cell? ⟨g, 0, none⟩ = some (K.v s)) (hU : K.At w s)
    (hf : ∀ b, K.Bl s b → c b = 0) (h63 : n + 1 ≤ maxLen) (hbytes : (n + 1) * by' ≤ 140737488355328) (hbase : base ≤ w.heap.size)
    (h : ∀ v' w' c', Lst K e k c' w' base v' (n + 1) (snocG S n s) → w.grownBy w' v.ownBlock → SameC w c c' → Col w' c' → wpList P ops Q rest (a.put o.dst v') w') : wpList P ops Q (o :: rest) a w := by
  obtain ⟨i0, h1, h2, h3, h4⟩ := info_parts hi
  exact wpList_append_lies w hgd s0 x t ho base e i0 z 1 by' ht h1 h2 h3 h4 hz (by decide) v n (owgC K S n) hs hown.l.own ⟨g, 0, none⟩ 1 cm [K.v s] hx rfl (one_news hc) (fun u hu => by rw [List.mem_singleton] at hu; subst hu; exact K.one s) (by decide) h63 hbytes hbase w.heap.size rfl
    (fun g' cap w' a1 a2 a3 a4 => by
      obtain ⟨c', b1, b2, b3⟩ := lst_next hown hcol hk hU hf a1 a2 a3 a4
      exact h _ w' c' b1 a2 b2 b3)
/-- The same, at a step of a region that draws its order. -/
theorem step_lst {ops : Array Oper} {o : Oper} {a : Act} {K' : Act → World → Prop} {Q : Exit → Act → World → Prop} {E : Prop} (hgd : o.guard = none) (s0 x : Operand) (t : TypeId)
    (ho : o.op = .call { callee := .builtin .append, args := #[s0, x], argTypes := #[t, t] })
    (base : Nat) (e : TypeId) (by' : Nat) (z : Value) (ht : P.underlying t = some (.slice e)) (hi : (P.info? e).map (fun i => (i.zero, i.size, i.bytes)) = some (some z, 1, by')) (hz : z.cells.size = 1)
    (k : Nat) (c : Nat → Nat) (hk : k ≠ 0) (hcol : Col w c)
    (v : Value) (n cm : Nat) (S : Nat → κ) (s : κ) (hs : a.eval s0 = v) (hown : Lst K e k c w base v n S)
    (g : Nat) (hx : a.eval x = .slice (some ⟨g, 0, none⟩) 1 cm) (hc : w.cell? ⟨g, 0, none⟩ = some (K.v s)) (hU : K.At w s)
    (hf : ∀ b, K.Bl s b → c b = 0) (h63 : n + 1 ≤ maxLen) (hbytes : (n + 1) * by' ≤ 140737488355328) (hbase : base ≤ w.heap.size)
    (h : ∀ v' w' c', Lst K e k c' w' base v' (n + 1) (snocG S n s) → w.grownBy w' v.ownBlock → SameC w c c' → Col w' c' → K' (a.put o.dst v') w') : if Region.wanted o (yielded ops a.tmps) = true then Oper.wp P o a w K' Q else E := by
  obtain ⟨i0, h1, h2, h3, h4⟩ := info_parts hi
  exact step_append_lies w hgd s0 x t ho base e i0 z 1 by' ht h1 h2 h3 h4 hz (by decide) v n (owgC K S n) hs hown.l.own ⟨g, 0, none⟩ 1 cm [K.v s] hx rfl (one_news hc) (fun u hu => by rw [List.mem_singleton] at hu; subst hu; exact K.one s) (by decide) h63 hbytes hbase w.heap.size rfl
    (fun g' cap w' a1 a2 a3 a4 => by
      obtain ⟨c', b1, b2, b3⟩ := lst_next hown hcol hk hU hf a1 a2 a3 a4
      exact h _ w' c' b1 a2 b2 b3)
end
/-! ### Whole numbers -/
def kInt : Kd Int := ⟨fun x => .int .i64 x, fun _ _ => True, fun _ _ => False, fun _ => rfl, fun _ h => h.elim, fun _ _ _ => trivial⟩
theorem Owg.ints {e : TypeId} {w : World} {base : Nat} {v : Value} {n : Nat} {S : Nat → Int} (h : Owg kInt e w base v n S) : ∃ A c, v = .slice A n c ∧ n ≤ c ∧ (∀ a, A = some a → base ≤ a.block) ∧ Rd .i64 w A n ((List.range n).map S) := by
  obtain ⟨A, c, rfl, hnc, hb, hc⟩ := h.form
  refine ⟨A, c, rfl, hnc, hb, by simp, fun hn => ?_⟩
  obtain ⟨g, eg, hl, hx⟩ := hc hn
  refine ⟨g, 0, eg, hl, fun j x hj => ?_⟩
  have hjn : j < n := by
    rcases Nat.lt_or_ge j n with q | q
    · exact q
    · rw [List.getElem?_eq_none (by simpa using q)] at hj; cases hj
  have e1 : S j = x := by simpa [hjn] using hj
  subst e1
  rw [Nat.zero_add]
  exact hx j hjn
end Go.Proofs.YtpmnghealjgkeaaGreat
