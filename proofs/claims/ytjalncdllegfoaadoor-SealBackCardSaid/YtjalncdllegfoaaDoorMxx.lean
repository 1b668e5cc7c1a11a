/-
  Several texts in one: Nts, Owc, Owg, Mxn, Mxc, Sgn, Lv7.
-/
import Derived.Test.YtjalncdllegfoaaDoorPri
import Derived.Test.YtjalncdllegfoaaDoorPkf
import Derived.Deep.AppendLies
import Derived.Test.YtjalncdllegfoaaDoorGro
/-
  Lists of numbers, letters and batches in memory.
-/
namespace Go.Proofs.YtjalncdllegfoaaDoor
open Go.RowKit
set_option linter.unusedVariables false
/-- A number's slice. -/
structure Nsl where
  A : Option Addr
  n : Nat
  c : Nat
  N : Int
def Nsl.v (s : Nsl) : Value := .slice s.A s.n s.c
/-- A list of numbers. -/
structure Ns (w : World) (a : Option Addr) (n c : Nat) (S : Nat → Nsl) : Prop where
  nc : n ≤ c
  c60 : n ≤ 17592186044416
  ex : 0 < n → ∃ b off, a = some ⟨b, off, none⟩ ∧ b < w.heap.size ∧ ∀ i, i < n → w.cell? ⟨b, off + i, none⟩ = some (.slice (S i).A (S i).n (S i).c)
  at_ : ∀ i, i < n → Nm w (S i).A (S i).n (S i).c (S i).N
theorem Ns.below {w w' : World} {a : Option Addr} {n c : Nat} {S : Nat → Nsl} (h : Ns w a n c S) (hb : Below w.heap.size w w') : Ns w' a n c S :=
  ⟨h.nc, h.c60, fun hn => by
    obtain ⟨b, off, e, hl, hc⟩ := h.ex hn
    exact ⟨b, off, e, Nat.lt_of_lt_of_le hl hb.size, fun i hi => (hb.cell (p := ⟨b, _, none⟩) hl).trans (hc i hi)⟩, fun i hi => (h.at_ i hi).below hb⟩
theorem Ns.nil (w : World) (S : Nat → Nsl) : Ns w none 0 0 S := ⟨Nat.le_refl _, by omega, fun h => absurd h (by omega), fun i h => absurd h (by omega)⟩
/-- A letter of a batch. -/
structure Lsl where
  A : Option Addr
  n : Nat
  c : Nat
  S : Nat → Stp
/-- A batch: a list of letters. -/
structure Bat (w : World) (a : Option Addr) (n c : Nat) (B : Nat → Lsl) : Prop where
  nc : n ≤ c
  c60 : n ≤ 17592186044416
  ex : 0 < n → ∃ b off, a = some ⟨b, off, none⟩ ∧ b < w.heap.size ∧ ∀ i, i < n → w.cell? ⟨b, off + i, none⟩ = some (.slice (B i).A (B i).n (B i).c)
  at_ : ∀ i, i < n → Ch w (B i).A (B i).n (B i).c (B i).S
theorem Bat.below {w w' : World} {a : Option Addr} {n c : Nat} {S : Nat → Lsl} (h : Bat w a n c S) (hb : Below w.heap.size w w') : Bat w' a n c S :=
  ⟨h.nc, h.c60, fun hn => by
    obtain ⟨b, off, e, hl, hc⟩ := h.ex hn
    exact ⟨b, off, e, Nat.lt_of_lt_of_le hl hb.size, fun i hi => (hb.cell (p := ⟨b, _, none⟩) hl).trans (hc i hi)⟩, fun i hi => (h.at_ i hi).below hb⟩
/-- A list of a list of lists of numbers. -/
structure Rsl where
  A : Option Addr
  n : Nat
  c : Nat
  S : Nat → Nsl
/-- A list of lists of numbers. -/
structure Rls (w : World) (a : Option Addr) (n c : Nat) (B : Nat → Rsl) : Prop where
  nc : n ≤ c
  c60 : n ≤ 17592186044416
  ex : 0 < n → ∃ b off, a = some ⟨b, off, none⟩ ∧ b < w.heap.size ∧ ∀ i, i < n → w.cell? ⟨b, off + i, none⟩ = some (.slice (B i).A (B i).n (B i).c)
  at_ : ∀ i, i < n → Ns w (B i).A (B i).n (B i).c (B i).S
theorem Rls.below {w w' : World} {a : Option Addr} {n c : Nat} {S : Nat → Rsl} (h : Rls w a n c S) (hb : Below w.heap.size w w') : Rls w' a n c S :=
  ⟨h.nc, h.c60, fun hn => by
    obtain ⟨b, off, e, hl, hc⟩ := h.ex hn
    exact ⟨b, off, e, Nat.lt_of_lt_of_le hl hb.size, fun i hi => (hb.cell (p := ⟨b, _, none⟩) hl).trans (hc i hi)⟩, fun i hi => (h.at_ i hi).below hb⟩
end Go.Proofs.YtjalncdllegfoaaDoor
/-
  A list of the call's own, that grows by append: its cells are slices, and they are numbers that lie elsewhere.
-/
namespace Go.Proofs.YtjalncdllegfoaaDoor
open Go.RowKit
set_option linter.unusedVariables false
/-- The cells of slices. -/
def nslC (S : Nat → Nsl) (m : Nat) : List Value := (List.range m).map fun i => .slice (S i).A (S i).n (S i).c
theorem nslC_len (S : Nat → Nsl) (m : Nat) : (nslC S m).length = m := by simp [nslC]
theorem nslC_at {S : Nat → Nsl} {m i : Nat} (h : i < m) : (nslC S m)[i]? = some (.slice (S i).A (S i).n (S i).c) := by simp [nslC, h]
/-- One list behind another. -/
def joinS (S U : Nat → Nsl) (m : Nat) : Nat → Nsl := fun i => if i < m then S i else U (i - m)
theorem joinS_lt {S U : Nat → Nsl} {m i : Nat} (h : i < m) : joinS S U m i = S i := if_pos h
theorem joinS_ge {S U : Nat → Nsl} {m i : Nat} : joinS S U m (m + i) = U i := by unfold joinS; rw [if_neg (by omega), Nat.add_sub_cancel_left]
theorem nslC_join (S U : Nat → Nsl) (m k : Nat) : nslC (joinS S U m) (m + k) = nslC S m ++ nslC U k := by
  refine List.ext_getElem? fun i => ?_
  rcases Nat.lt_or_ge i m with h | h
  · rw [List.getElem?_append_left (by rw [nslC_len]; exact h), nslC_at (by omega), nslC_at h, joinS_lt h]
  · rw [List.getElem?_append_right (by rw [nslC_len]; exact h), nslC_len]
    rcases Nat.lt_or_ge i (m + k) with h2 | h2
    · obtain ⟨j, rfl⟩ : ∃ j, i = m + j := ⟨i - m, by omega⟩
      rw [nslC_at h2, joinS_ge, Nat.add_sub_cancel_left, nslC_at (by omega)]
    · rw [List.getElem?_eq_none (by rw [nslC_len]; exact h2), List.getElem?_eq_none (by rw [nslC_len]; omega)]
/-- A list of the call's own, of k slices an element. -/
structure Owc (e : TypeId) (k : Nat) (w : World) (base : Nat) (v : Value) (n : Nat) (S : Nat → Nsl) : Prop where
  own : w.ownsRow base e k v n (nslC S (n * k))
  at_ : ∀ i, i < n * k → Nm w (S i).A (S i).n (S i).c (S i).N
  els : ∀ i, i < n * k → ∀ a, (S i).A = some a → 0 < (S i).n → v.ownBlock ≠ some a.block
theorem Nm.blk {w : World} {A : Option Addr} {n c : Nat} {N : Int} (h : Nm w A n c N) (hn : 0 < n) : ∀ a, A = some a → a.block < w.heap.size := fun a ha => by
  obtain ⟨xs, h1, -, -⟩ := h.ex
  obtain ⟨b, off, e, hb, -⟩ := h1.cells hn
  rw [e] at ha; injection ha with ha; subst ha; exact hb
/-- A number stays where what is turned is another block. -/
theorem Nm.grown {w w' : World} {row : Option Nat} {A : Option Addr} {n c : Nat} {N : Int} (h : Nm w A n c N) (hg : w.grownBy w' row) (hne : ∀ a, A = some a → 0 < n → row ≠ some a.block) : Nm w' A n c N := by
  obtain ⟨⟨xs, h1, h2, h3⟩, h4, h5, h6⟩ := h
  refine ⟨⟨xs, ?_, h2, h3⟩, h4, h5, h6⟩
  rcases Nat.eq_zero_or_pos n with g | g
  · subst g
    obtain rfl : xs = [] := List.eq_nil_of_length_eq_zero h1.len
    exact Rd.nil _ _ _
  · obtain ⟨b, off, e, hb, hc⟩ := h1.cells g
    exact ⟨h1.len, fun _ => ⟨b, off, e, Nat.lt_of_lt_of_le hb hg.size, fun j x hj => hg.cell (hc j x hj) (fun e2 => hne _ e g e2.symm)⟩⟩
section
variable {e : TypeId} {k : Nat} {w w' : World} {base : Nat} {v : Value} {n : Nat} {S U : Nat → Nsl}
theorem Owc.nil (e : TypeId) (k : Nat) (w : World) (base : Nat) (S : Nat → Nsl) : Owc e k w base (.slice none 0 0) 0 S :=
  ⟨by rw [Nat.zero_mul]; exact ⟨by simp [nslC], .inl ⟨rfl, rfl⟩⟩, fun i h => absurd h (by omega), fun i h => absurd h (by omega)⟩
theorem own_belowV {base : Nat} {Vs : List Value} (hb : Below w.heap.size w w') (h : w.ownsRow base e k v n Vs) : w'.ownsRow base e k v n Vs := by
  refine ⟨h.1, ?_⟩
  rcases h.2 with g | ⟨g, cap, cur, h1, h2, h3, h4⟩
  · exact .inl g
  · exact .inr ⟨g, cap, cur, h1, h2, (hb.block g (Array.getElem?_eq_some_iff.1 h3).1).trans h3, h4⟩
theorem Owc.below (h : Owc e k w base v n S) (hb : Below w.heap.size w w') : Owc e k w' base v n S :=
  ⟨own_belowV hb h.own, fun i hi => (h.at_ i hi).below hb, h.els⟩
theorem Owc.lt (h : Owc e k w base v n S) {g : Nat} (hg : v.ownBlock = some g) : base ≤ g ∧ g < w.heap.size := by
  rcases h.own.2 with ⟨rfl, -⟩ | ⟨g', cap, cur, rfl, h2, h3, -⟩
  · cases hg
  · injection hg with hg; subst hg; exact ⟨h2, (Array.getElem?_eq_some_iff.1 h3).1⟩
/-- What is newer than the list lies elsewhere. -/
theorem Owc.far (h : Owc e k w base v n S) {b : Nat} (hb : w.heap.size ≤ b) : v.ownBlock ≠ some b := fun e => by have := (h.lt e).2; omega
/-- What is older than the list lies elsewhere. -/
theorem Owc.old (h : Owc e k w base v n S) {b : Nat} (hb : b < base) : v.ownBlock ≠ some b := fun e => by have := (h.lt e).1; omega
theorem Owc.form (h : Owc e k w base v n S) : ∃ A c, v = .slice A n c ∧ n ≤ c ∧ (∀ a, A = some a → base ≤ a.block) ∧ (0 < n → ∃ g, A = some ⟨g, 0, none⟩ ∧ g < w.heap.size ∧ ∀ i, i < n * k → w.cell? ⟨g, i, none⟩ = some (.slice (S i).A (S i).n (S i).c)) := by
  rcases h.own.2 with ⟨rfl, rfl⟩ | ⟨g, cap, cur, rfl, h2, h3, h4, h5, h6, h7⟩
  · exact ⟨none, 0, rfl, Nat.le_refl _, fun a ha => (by cases ha), fun h => absurd h (by omega)⟩
  · refine ⟨_, cap, rfl, h4, fun a ha => by injection ha with ha; subst ha; exact h2, fun hn => ⟨g, rfl, (Array.getElem?_eq_some_iff.1 h3).1, fun i hi => ?_⟩⟩
    have hc := h.own.cells (g := g) rfl i _ (nslC_at hi)
    have ea : (⟨g, 0, none⟩ : Addr).add i = ⟨g, i, none⟩ := by
      unfold Addr.add; split
      · rename_i h0; subst h0; rfl
      · rw [Nat.zero_add]
    rw [ea] at hc
    exact hc
/-- As a list of numbers. -/
theorem Owc.ns (h : Owc e 1 w base v n S) (h60 : n ≤ 17592186044416) : ∃ A c, v = .slice A n c ∧ (∀ a, A = some a → base ≤ a.block) ∧ Ns w A n c S := by
  obtain ⟨A, c, rfl, hnc, hb, hc⟩ := h.form
  refine ⟨A, c, rfl, hb, hnc, h60, fun hn => ?_, fun i hi => h.at_ i (by omega)⟩
  obtain ⟨g, eg, hl, hx⟩ := hc hn
  exact ⟨g, 0, eg, hl, fun i hi => by rw [Nat.zero_add]; exact hx i (by omega)⟩
/-- As a letter. -/
def stpS (S : Nat → Nsl) (j : Nat) : Stp := ⟨(S (j * 3)).A, (S (j * 3)).n, (S (j * 3)).c, (S (j * 3 + 1)).A, (S (j * 3 + 1)).n, (S (j * 3 + 1)).c, (S (j * 3 + 2)).A, (S (j * 3 + 2)).n, (S (j * 3 + 2)).c, (S (j * 3)).N, (S (j * 3 + 1)).N, (S (j * 3 + 2)).N⟩
theorem Owc.ch (h : Owc e 3 w base v n S) (h60 : n ≤ 17592186044416) : ∃ A c, v = .slice A n c ∧ (∀ a, A = some a → base ≤ a.block) ∧ Ch w A n c (stpS S) := by
  obtain ⟨A, c, rfl, hnc, hb, hc⟩ := h.form
  refine ⟨A, c, rfl, hb, hnc, h60, fun hn => ?_, fun i hi => ⟨h.at_ (i * 3) (by omega), h.at_ (i * 3 + 1) (by omega), h.at_ (i * 3 + 2) (by omega)⟩⟩
  obtain ⟨g, eg, hl, hx⟩ := hc hn
  exact ⟨g, 0, eg, hl, fun i hi => ⟨by rw [Nat.zero_add]; exact hx (i * 3) (by omega), by rw [Nat.zero_add]; exact hx (i * 3 + 1) (by omega), by rw [Nat.zero_add]; exact hx (i * 3 + 2) (by omega)⟩⟩
end
section
variable {P : Program} {w : World}
/-- Some elements more. -/
theorem wpList_owc {ops : Array Oper} {rest : List Oper} {o : Oper} {a : Act} {Q : Exit → Act → World → Prop} (hgd : o.guard = none) (s x : Operand) (t : TypeId)
    (ho : o.op = .call { callee := .builtin .append, args := #[s, x], argTypes := #[t, t] })
    (base : Nat) (e : TypeId) (k by' : Nat) (z : Value) (ht : P.underlying t = some (.slice e)) (hi : (P.info? e).map (fun i => (i.zero, i.size, i.bytes)) = some (some z, k, by')) (hz : z.cells.size = k) (hk : 0 < k)
    (v : Value) (n m cm : Nat) (S U : Nat → Nsl) (hs : a.eval s = v) (hown : Owc e k w base v n S)
    (g : Nat) (hx : a.eval x = .slice (some ⟨g, 0, none⟩) m cm) (hc : ∀ i, i < m * k → w.cell? ⟨g, i, none⟩ = some (.slice (U i).A (U i).n (U i).c)) (hU : ∀ i, i < m * k → Nm w (U i).A (U i).n (U i).c (U i).N)
    (hf : ∀ i, i < m * k → ∀ a, (U i).A = some a → 0 < (U i).n → v.ownBlock ≠ some a.block) (hm : 0 < m) (h63 : n + m ≤ maxLen) (hbytes : (n + m) * by' ≤ 140737488355328) (hbase : base ≤ w.heap.size)
    (h : ∀ v' w', Owc e k w' base v' (n + m) (joinS S U (n * k)) → w.grownBy w' v.ownBlock → wpList P ops Q rest (a.put o.dst v') w') : wpList P ops Q (o :: rest) a w := by
  obtain ⟨i0, h1, h2, h3, h4⟩ := info_parts hi
  have key : ∀ i, i < (n + m) * k → Nm w (joinS S U (n * k) i).A (joinS S U (n * k) i).n (joinS S U (n * k) i).c (joinS S U (n * k) i).N ∧ ∀ a, (joinS S U (n * k) i).A = some a → 0 < (joinS S U (n * k) i).n → v.ownBlock ≠ some a.block := by
    intro i hi
    rw [Nat.add_mul] at hi
    rcases Nat.lt_or_ge i (n * k) with g | g
    · rw [joinS_lt g]; exact ⟨hown.at_ i g, hown.els i g⟩
    · obtain ⟨j, rfl⟩ : ∃ j, i = n * k + j := ⟨i - n * k, by omega⟩
      rw [joinS_ge]; exact ⟨hU j (by omega), hf j (by omega)⟩
  refine wpList_append_lies w hgd s x t ho base e i0 z k by' ht h1 h2 h3 h4 hz hk v n (nslC S (n * k)) hs hown.own ⟨g, 0, none⟩ m cm (nslC U (m * k)) hx (by rw [nslC_len]) ?_ ?_ hm h63 hbytes hbase w.heap.size rfl (fun g' cap w' a1 a2 a3 a4 => ?_)
  · intro j u hj
    rcases Nat.lt_or_ge j (m * k) with q | q
    · rw [nslC_at q] at hj; injection hj with hj; subst hj
      have ea : (⟨g, 0, none⟩ : Addr).add j = ⟨g, j, none⟩ := by
        unfold Addr.add; split
        · rename_i h0; subst h0; rfl
        · rw [Nat.zero_add]
      rw [ea]; exact hc j q
    · rw [List.getElem?_eq_none (by rw [nslC_len]; exact q)] at hj; cases hj
  · intro u hu
    obtain ⟨i, -, rfl⟩ := List.mem_map.1 hu
    rfl
  · refine h _ w' ⟨?_, fun i hi => (key i hi).1.grown a2 (key i hi).2, fun i hi a' ha h0 e2 => ?_⟩ a2
    · rw [Nat.add_mul, nslC_join]; exact a1
    · injection e2 with e2
      rcases a3 with q | q
      · exact (key i hi).2 a' ha h0 (q.trans (congrArg some e2))
      · have := (key i hi).1.blk h0 a' ha
        have e3 : g' = a'.block := e2
        omega
/-- The same, at a step of a region that draws its order. -/
theorem step_owc {ops : Array Oper} {o : Oper} {a : Act} {K : Act → World → Prop} {Q : Exit → Act → World → Prop} {E : Prop} (hgd : o.guard = none) (s x : Operand) (t : TypeId)
    (ho : o.op = .call { callee := .builtin .append, args := #[s, x], argTypes := #[t, t] })
    (base : Nat) (e : TypeId) (k by' : Nat) (z : Value) (ht : P.underlying t = some (.slice e)) (hi : (P.info? e).map (fun i => (i.zero, i.size, i.bytes)) = some (some z, k, by')) (hz : z.cells.size = k) (hk : 0 < k)
    (v : Value) (n m cm : Nat) (S U : Nat → Nsl) (hs : a.eval s = v) (hown : Owc e k w base v n S)
    (g : Nat) (hx : a.eval x = .slice (some ⟨g, 0, none⟩) m cm) (hc : ∀ i, i < m * k → w.cell? ⟨g, i, none⟩ = some (.slice (U i).A (U i).n (U i).c)) (hU : ∀ i, i < m * k → Nm w (U i).A (U i).n (U i).c (U i).N)
    (hf : ∀ i, i < m * k → ∀ a, (U i).A = some a → 0 < (U i).n → v.ownBlock ≠ some a.block) (hm : 0 < m) (h63 : n + m ≤ maxLen) (hbytes : (n + m) * by' ≤ 140737488355328) (hbase : base ≤ w.heap.size)
    (h : ∀ v' w', Owc e k w' base v' (n + m) (joinS S U (n * k)) → w.grownBy w' v.ownBlock → K (a.put o.dst v') w') : if Region.wanted o (yielded ops a.tmps) = true then Oper.wp P o a w K Q else E := by
  obtain ⟨i0, h1, h2, h3, h4⟩ := info_parts hi
  have key : ∀ i, i < (n + m) * k → Nm w (joinS S U (n * k) i).A (joinS S U (n * k) i).n (joinS S U (n * k) i).c (joinS S U (n * k) i).N ∧ ∀ a, (joinS S U (n * k) i).A = some a → 0 < (joinS S U (n * k) i).n → v.ownBlock ≠ some a.block := by
    intro i hi
    rw [Nat.add_mul] at hi
    rcases Nat.lt_or_ge i (n * k) with g | g
    · rw [joinS_lt g]; exact ⟨hown.at_ i g, hown.els i g⟩
    · obtain ⟨j, rfl⟩ : ∃ j, i = n * k + j := ⟨i - n * k, by omega⟩
      rw [joinS_ge]; exact ⟨hU j (by omega), hf j (by omega)⟩
  refine step_append_lies w hgd s x t ho base e i0 z k by' ht h1 h2 h3 h4 hz hk v n (nslC S (n * k)) hs hown.own ⟨g, 0, none⟩ m cm (nslC U (m * k)) hx (by rw [nslC_len]) ?_ ?_ hm h63 hbytes hbase w.heap.size rfl (fun g' cap w' a1 a2 a3 a4 => ?_)
  · intro j u hj
    rcases Nat.lt_or_ge j (m * k) with q | q
    · rw [nslC_at q] at hj; injection hj with hj; subst hj
      have ea : (⟨g, 0, none⟩ : Addr).add j = ⟨g, j, none⟩ := by
        unfold Addr.add; split
        · rename_i h0; subst h0; rfl
        · rw [Nat.zero_add]
      rw [ea]; exact hc j q
    · rw [List.getElem?_eq_none (by rw [nslC_len]; exact q)] at hj; cases hj
  · intro u hu
    obtain ⟨i, -, rfl⟩ := List.mem_map.1 hu
    rfl
  · refine h _ w' ⟨?_, fun i hi => (key i hi).1.grown a2 (key i hi).2, fun i hi a' ha h0 e2 => ?_⟩ a2
    · rw [Nat.add_mul, nslC_join]; exact a1
    · injection e2 with e2
      rcases a3 with q | q
      · exact (key i hi).2 a' ha h0 (q.trans (congrArg some e2))
      · have := (key i hi).1.blk h0 a' ha
        have e3 : g' = a'.block := e2
        omega
end
end Go.Proofs.YtjalncdllegfoaaDoor
/-
  A list of the call's own, that grows by append: its cells are slices of things that lie elsewhere (letters, lists of numbers).
-/
namespace Go.Proofs.YtjalncdllegfoaaDoor
open Go.RowKit
set_option linter.unusedVariables false
/-- A kind of thing that a slice reads as: its value, that it lies in memory, and in which blocks. -/
structure Kd (κ : Type) where
  v : κ → Value
  At : World → κ → Prop
  Bl : κ → Nat → Prop
  one : ∀ s, (v s).oneCell' = true
  lt : ∀ {w : World} {s : κ} {b : Nat}, At w s → Bl s b → b < w.heap.size
  stay : ∀ {w w' : World} {s : κ}, At w s → w.heap.size ≤ w'.heap.size → (∀ b, Bl s b → w'.heap[b]? = w.heap[b]?) → At w' s
/-! ### The blocks of numbers, letters, lists -/
def BlN (A : Option Addr) (n b : Nat) : Prop := ∃ a, A = some a ∧ 0 < n ∧ a.block = b
theorem Nm.stay {w w' : World} {A : Option Addr} {n c : Nat} {N : Int} (h : Nm w A n c N) (hs : w.heap.size ≤ w'.heap.size) (hb : ∀ b, BlN A n b → w'.heap[b]? = w.heap[b]?) : Nm w' A n c N := by
  obtain ⟨⟨xs, h1, h2, h3⟩, h4, h5, h6⟩ := h
  refine ⟨⟨xs, ⟨h1.len, fun hn => ?_⟩, h2, h3⟩, h4, h5, h6⟩
  obtain ⟨b, off, e, hl, hc⟩ := h1.cells hn
  exact ⟨b, off, e, Nat.lt_of_lt_of_le hl hs, fun j x hj => (World.cell?_of_block (a := ⟨b, off + j, none⟩) (hb b ⟨_, e, hn, rfl⟩)).trans (hc j x hj)⟩
theorem Nm.blt {w : World} {A : Option Addr} {n c : Nat} {N : Int} (h : Nm w A n c N) {b : Nat} (hb : BlN A n b) : b < w.heap.size := by
  obtain ⟨a, e, hn, rfl⟩ := hb
  exact h.blk hn a e
def BlS (s : Rsl) (b : Nat) : Prop := BlN s.A s.n b ∨ ∃ i, i < s.n ∧ BlN (s.S i).A (s.S i).n b
theorem Ns.stay {w w' : World} {A : Option Addr} {n c : Nat} {S : Nat → Nsl} (h : Ns w A n c S) (hs : w.heap.size ≤ w'.heap.size) (hb : ∀ b, BlS ⟨A, n, c, S⟩ b → w'.heap[b]? = w.heap[b]?) : Ns w' A n c S := by
  refine ⟨h.nc, h.c60, fun hn => ?_, fun i hi => (h.at_ i hi).stay hs fun b g => hb b (.inr ⟨i, hi, g⟩)⟩
  obtain ⟨b, off, e, hl, hc⟩ := h.ex hn
  exact ⟨b, off, e, Nat.lt_of_lt_of_le hl hs, fun i hi => (World.cell?_of_block (a := ⟨b, off + i, none⟩) (hb b (.inl ⟨_, e, hn, rfl⟩))).trans (hc i hi)⟩
theorem Ns.blt {w : World} {A : Option Addr} {n c : Nat} {S : Nat → Nsl} (h : Ns w A n c S) {b : Nat} (hb : BlS ⟨A, n, c, S⟩ b) : b < w.heap.size := by
  rcases hb with ⟨a, e, hn, rfl⟩ | ⟨i, hi, g⟩
  · obtain ⟨b, off, e2, hl, -⟩ := h.ex hn
    simp only at e
    rw [e2] at e
    injection e with e
    rw [← e]
    exact hl
  · exact (h.at_ i hi).blt g
/-- Lists of numbers. -/
def kNs : Kd Rsl := ⟨fun s => .slice s.A s.n s.c, fun w s => Ns w s.A s.n s.c s.S, BlS, fun _ => rfl, fun h g => Ns.blt h g, fun h hs g => Ns.stay h hs g⟩
def BlL (s : Lsl) (b : Nat) : Prop := BlN s.A s.n b ∨ ∃ i, i < s.n ∧ (BlN (s.S i).A1 (s.S i).n1 b ∨ BlN (s.S i).A2 (s.S i).n2 b ∨ BlN (s.S i).A3 (s.S i).n3 b)
theorem Ch.stay {w w' : World} {A : Option Addr} {n c : Nat} {S : Nat → Stp} (h : Ch w A n c S) (hs : w.heap.size ≤ w'.heap.size) (hb : ∀ b, BlL ⟨A, n, c, S⟩ b → w'.heap[b]? = w.heap[b]?) : Ch w' A n c S := by
  refine ⟨h.nc, h.c60, fun hn => ?_, fun i hi => ⟨(h.at_ i hi).p.stay hs fun b g => hb b (.inr ⟨i, hi, .inl g⟩), (h.at_ i hi).q.stay hs fun b g => hb b (.inr ⟨i, hi, .inr (.inl g)⟩), (h.at_ i hi).a.stay hs fun b g => hb b (.inr ⟨i, hi, .inr (.inr g)⟩)⟩⟩
  obtain ⟨b, off, e, hl, hc⟩ := h.ex hn
  have hk : ∀ o, w'.cell? ⟨b, o, none⟩ = w.cell? ⟨b, o, none⟩ := fun o => World.cell?_of_block (a := ⟨b, o, none⟩) (hb b (.inl ⟨_, e, hn, rfl⟩))
  exact ⟨b, off, e, Nat.lt_of_lt_of_le hl hs, fun i hi => ⟨(hk _).trans (hc i hi).c0, (hk _).trans (hc i hi).c1, (hk _).trans (hc i hi).c2⟩⟩
theorem Ch.blt {w : World} {A : Option Addr} {n c : Nat} {S : Nat → Stp} (h : Ch w A n c S) {b : Nat} (hb : BlL ⟨A, n, c, S⟩ b) : b < w.heap.size := by
  rcases hb with ⟨a, e, hn, rfl⟩ | ⟨i, hi, g⟩
  · obtain ⟨b, off, e2, hl, -⟩ := h.ex hn
    simp only at e
    rw [e2] at e
    injection e with e
    rw [← e]
    exact hl
  · rcases g with g | g | g
    · exact (h.at_ i hi).p.blt g
    · exact (h.at_ i hi).q.blt g
    · exact (h.at_ i hi).a.blt g
/-- Letters. -/
def kCh : Kd Lsl := ⟨fun s => .slice s.A s.n s.c, fun w s => Ch w s.A s.n s.c s.S, BlL, fun _ => rfl, fun h g => Ch.blt h g, fun h hs g => Ch.stay h hs g⟩
/-! ### The list -/
section
variable {κ : Type}
/-- One more behind. -/
def snocG (S : Nat → κ) (n : Nat) (s : κ) : Nat → κ := fun i => if i < n then S i else s
theorem snocG_lt {S : Nat → κ} {n i : Nat} {s : κ} (h : i < n) : snocG S n s i = S i := if_pos h
theorem snocG_at {S : Nat → κ} {n : Nat} {s : κ} : snocG S n s n = s := if_neg (Nat.lt_irrefl n)
def owgC (K : Kd κ) (S : Nat → κ) (n : Nat) : List Value := (List.range n).map fun i => K.v (S i)
theorem owgC_len {K : Kd κ} {S : Nat → κ} {n : Nat} : (owgC K S n).length = n := by simp [owgC]
theorem owgC_at {K : Kd κ} {S : Nat → κ} {n i : Nat} (h : i < n) : (owgC K S n)[i]? = some (K.v (S i)) := by simp [owgC, h]
theorem owgC_snoc {K : Kd κ} {S : Nat → κ} {n : Nat} {s : κ} : owgC K (snocG S n s) (n + 1) = owgC K S n ++ [K.v s] := by
  unfold owgC
  rw [List.range_succ, List.map_append]
  congr 1
  · exact List.map_congr_left fun i hi => by rw [snocG_lt (List.mem_range.1 hi)]
  · simp only [List.map_cons, List.map_nil, snocG_at]
/-- A list of the call's own. -/
structure Owg (K : Kd κ) (e : TypeId) (w : World) (base : Nat) (v : Value) (n : Nat) (S : Nat → κ) : Prop where
  own : w.ownsRow base e 1 v n (owgC K S n)
  at_ : ∀ i, i < n → K.At w (S i)
  els : ∀ i, i < n → ∀ b, K.Bl (S i) b → v.ownBlock ≠ some b
variable {K : Kd κ} {e : TypeId} {w w' : World} {base : Nat} {v : Value} {n : Nat} {S : Nat → κ}
theorem Owg.nil (K : Kd κ) (e : TypeId) (w : World) (base : Nat) (S : Nat → κ) : Owg K e w base (.slice none 0 0) 0 S :=
  ⟨⟨by simp [owgC], .inl ⟨rfl, rfl⟩⟩, fun i h => absurd h (by omega), fun i h => absurd h (by omega)⟩
theorem Owg.below (h : Owg K e w base v n S) (hb : Below w.heap.size w w') : Owg K e w' base v n S :=
  ⟨own_belowV hb h.own, fun i hi => K.stay (h.at_ i hi) hb.size fun b g => hb.block b (K.lt (h.at_ i hi) g), h.els⟩
theorem Owg.lt (h : Owg K e w base v n S) {g : Nat} (hg : v.ownBlock = some g) : base ≤ g ∧ g < w.heap.size := by
  rcases h.own.2 with ⟨rfl, -⟩ | ⟨g', cap, cur, rfl, h2, h3, -⟩
  · cases hg
  · injection hg with hg; subst hg; exact ⟨h2, (Array.getElem?_eq_some_iff.1 h3).1⟩
/-- What is newer than the list lies elsewhere. -/
theorem Owg.far (h : Owg K e w base v n S) {b : Nat} (hb : w.heap.size ≤ b) : v.ownBlock ≠ some b := fun e => by have := (h.lt e).2; omega
/-- What is older than the list lies elsewhere. -/
theorem Owg.old (h : Owg K e w base v n S) {b : Nat} (hb : b < base) : v.ownBlock ≠ some b := fun e => by have := (h.lt e).1; omega
/-- It stays where another block is turned, that none of its things lie in. -/
theorem Owg.grown (h : Owg K e w base v n S) {row : Option Nat} (hg : w.grownBy w' row) (hv : v.ownBlock = none ∨ v.ownBlock ≠ row) (hne : ∀ i, i < n → ∀ b, K.Bl (S i) b → row ≠ some b) : Owg K e w' base v n S :=
  ⟨h.own.kept hg hv, fun i hi => K.stay (h.at_ i hi) hg.size fun b g => hg.block b (K.lt (h.at_ i hi) g) (fun e => hne i hi b g e.symm), h.els⟩
theorem Owg.form (h : Owg K e w base v n S) : ∃ A c, v = .slice A n c ∧ n ≤ c ∧ (∀ a, A = some a → base ≤ a.block) ∧ (0 < n → ∃ g, A = some ⟨g, 0, none⟩ ∧ g < w.heap.size ∧ ∀ i, i < n → w.cell? ⟨g, i, none⟩ = some (K.v (S i))) := by
  rcases h.own.2 with ⟨rfl, rfl⟩ | ⟨g, cap, cur, rfl, h2, h3, h4, h5, h6, h7⟩
  · exact ⟨none, 0, rfl, Nat.le_refl _, fun a ha => (by cases ha), fun h => absurd h (by omega)⟩
  · refine ⟨_, cap, rfl, h4, fun a ha => by injection ha with ha; subst ha; exact h2, fun hn => ⟨g, rfl, (Array.getElem?_eq_some_iff.1 h3).1, fun i hi => ?_⟩⟩
    have hc := h.own.cells (g := g) rfl i _ (owgC_at hi)
    have ea : (⟨g, 0, none⟩ : Addr).add i = ⟨g, i, none⟩ := by
      unfold Addr.add; split
      · rename_i h0; subst h0; rfl
      · rw [Nat.zero_add]
    rw [ea] at hc
    exact hc
end
theorem Owg.bat {e : TypeId} {w : World} {base : Nat} {v : Value} {n : Nat} {S : Nat → Lsl} (h : Owg kCh e w base v n S) (h60 : n ≤ 17592186044416) : ∃ A c, v = .slice A n c ∧ (∀ a, A = some a → base ≤ a.block) ∧ Bat w A n c S := by
  obtain ⟨A, c, rfl, hnc, hb, hc⟩ := h.form
  refine ⟨A, c, rfl, hb, hnc, h60, fun hn => ?_, fun i hi => h.at_ i hi⟩
  obtain ⟨g, eg, hl, hx⟩ := hc hn
  exact ⟨g, 0, eg, hl, fun i hi => by rw [Nat.zero_add]; exact hx i hi⟩
theorem Owg.rls {e : TypeId} {w : World} {base : Nat} {v : Value} {n : Nat} {S : Nat → Rsl} (h : Owg kNs e w base v n S) (h60 : n ≤ 17592186044416) : ∃ A c, v = .slice A n c ∧ (∀ a, A = some a → base ≤ a.block) ∧ Rls w A n c S := by
  obtain ⟨A, c, rfl, hnc, hb, hc⟩ := h.form
  refine ⟨A, c, rfl, hb, hnc, h60, fun hn => ?_, fun i hi => h.at_ i hi⟩
  obtain ⟨g, eg, hl, hx⟩ := hc hn
  exact ⟨g, 0, eg, hl, fun i hi => by rw [Nat.zero_add]; exact hx i hi⟩
section
variable {κ : Type} {K : Kd κ} {P : Program} {w : World}
/-- What is left to show of an append. -/
theorem owg_next {e : TypeId} {base : Nat} {v : Value} {n : Nat} {S : Nat → κ} {s : κ} (hown : Owg K e w base v n S) (hU : K.At w s) (hf : ∀ b, K.Bl s b → v.ownBlock ≠ some b)
    {g' cap : Nat} {w' : World} (a1 : w'.ownsRow base e 1 (.slice (some ⟨g', 0, none⟩) (n + 1) cap) (n + 1) (owgC K S n ++ [K.v s])) (a2 : w.grownBy w' v.ownBlock) (a3 : v.ownBlock = some g' ∨ g' = w.heap.size) :
    Owg K e w' base (.slice (some ⟨g', 0, none⟩) (n + 1) cap) (n + 1) (snocG S n s) := by
  have key : ∀ i, i < n + 1 → K.At w (snocG S n s i) ∧ ∀ b, K.Bl (snocG S n s i) b → v.ownBlock ≠ some b := by
    intro i hi
    rcases Nat.lt_or_ge i n with g | g
    · rw [snocG_lt g]; exact ⟨hown.at_ i g, hown.els i g⟩
    · obtain rfl : i = n := by omega
      rw [snocG_at]; exact ⟨hU, hf⟩
  refine ⟨by rw [owgC_snoc]; exact a1, fun i hi => K.stay (key i hi).1 a2.size fun b hb => a2.block b (K.lt (key i hi).1 hb) (fun e => (key i hi).2 b hb e.symm), fun i hi b hb e2 => ?_⟩
  have e3 : g' = b := by injection e2
  rcases a3 with q | q
  · exact (key i hi).2 b hb (by rw [q, e3])
  · have := K.lt (key i hi).1 hb; omega
theorem one_news {g : Nat} {u : Value} (hc : w.cell? ⟨g, 0, none⟩ = some u) : ∀ j x, [u][j]? = some x → w.cell? ((⟨g, 0, none⟩ : Addr).add j) = some x := by
  intro j x hj
  match j, hj with
  | 0, hj =>
    injection hj with hj
    subst hj
    have ea : (⟨g, 0, none⟩ : Addr).add 0 = ⟨g, 0, none⟩ := by
      unfold Addr.add; split
      · rfl
      · rfl
    rw [ea]
    exact hc
/-- One element more. -/
theorem wpList_owg {ops : Array Oper} {rest : List Oper} {o : Oper} {a : Act} {Q : Exit → Act → World → Prop} (hgd : o.guard = none) (s0 x : Operand) (t : TypeId)
    (ho : o.op = .call { callee := .builtin .append, args := #[s0, x], argTypes := #[t, t] })
    (base : Nat) (e : TypeId) (by' : Nat) (z : Value) (ht : P.underlying t = some (.slice e)) (hi : (P.info? e).map (fun i => (i.zero, i.size, i.bytes)) = some (some z, 1, by')) (hz : z.cells.size = 1)
    (v : Value) (n cm : Nat) (S : Nat → κ) (s : κ) (hs : a.eval s0 = v) (hown : Owg K e w base v n S)
    (g : Nat) (hx : a.eval x = .slice (some ⟨g, 0, none⟩) 1 cm) (hc : w.cell? ⟨g, 0, none⟩ = some (K.v s)) (hU : K.At w s)
    (hf : ∀ b, K.Bl s b → v.ownBlock ≠ some b) (h63 : n + 1 ≤ maxLen) (hbytes : (n + 1) * by' ≤ 140737488355328) (hbase : base ≤ w.heap.size)
    (h : ∀ v' w', Owg K e w' base v' (n + 1) (snocG S n s) → w.grownBy w' v.ownBlock → wpList P ops Q rest (a.put o.dst v') w') : wpList P ops Q (o :: rest) a w := by
  obtain ⟨i0, h1, h2, h3, h4⟩ := info_parts hi
  exact wpList_append_lies w hgd s0 x t ho base e i0 z 1 by' ht h1 h2 h3 h4 hz (by decide) v n (owgC K S n) hs hown.own ⟨g, 0, none⟩ 1 cm [K.v s] hx rfl (one_news hc) (fun u hu => by rw [List.mem_singleton] at hu; subst hu; exact K.one s) (by decide) h63 hbytes hbase w.heap.size rfl
    (fun g' cap w' a1 a2 a3 a4 => h _ w' (owg_next hown hU hf a1 a2 a3) a2)
/-- The same, at a step of a region that draws its order. -/
theorem step_owg {ops : Array Oper} {o : Oper} {a : Act} {K' : Act → World → Prop} {Q : Exit → Act → World → Prop} {E : Prop} (hgd : o.guard = none) (s0 x : Operand) (t : TypeId)
    (ho : o.op = .call { callee := .builtin .append, args := #[s0, x], argTypes := #[t, t] })
    (base : Nat) (e : TypeId) (by' : Nat) (z : Value) (ht : P.underlying t = some (.slice e)) (hi : (P.info? e).map (fun i => (i.zero, i.size, i.bytes)) = some (some z, 1, by')) (hz : z.cells.size = 1)
    (v : Value) (n cm : Nat) (S : Nat → κ) (s : κ) (hs : a.eval s0 = v) (hown : Owg K e w base v n S)
    (g : Nat) (hx : a.eval x = .slice (some ⟨g, 0, none⟩) 1 cm) (hc : w.cell? ⟨g, 0, none⟩ = some (K.v s)) (hU : K.At w s)
    (hf : ∀ b, K.Bl s b → v.ownBlock ≠ some b) (h63 : n + 1 ≤ maxLen) (hbytes : (n + 1) * by' ≤ 140737488355328) (hbase : base ≤ w.heap.size)
    (h : ∀ v' w', Owg K e w' base v' (n + 1) (snocG S n s) → w.grownBy w' v.ownBlock → K' (a.put o.dst v') w') : if Region.wanted o (yielded ops a.tmps) = true then Oper.wp P o a w K' Q else E := by
  obtain ⟨i0, h1, h2, h3, h4⟩ := info_parts hi
  exact step_append_lies w hgd s0 x t ho base e i0 z 1 by' ht h1 h2 h3 h4 hz (by decide) v n (owgC K S n) hs hown.own ⟨g, 0, none⟩ 1 cm [K.v s] hx rfl (one_news hc) (fun u hu => by rw [List.mem_singleton] at hu; subst hu; exact K.one s) (by decide) h63 hbytes hbase w.heap.size rfl
    (fun g' cap w' a1 a2 a3 a4 => h _ w' (owg_next hown hU hf a1 a2 a3) a2)
end
/-! ### Several lists side by side: a colour for each block: 0, or which list's row it is -/
/-- Blocks that are yet to come have no colour. -/
def Col (w : World) (c : Nat → Nat) : Prop := ∀ b, w.heap.size ≤ b → c b = 0
theorem Col.below {w w' : World} {c : Nat → Nat} (h : Col w c) (hb : w.heap.size ≤ w'.heap.size) : Col w' c := fun b g => h b (Nat.le_trans hb g)
theorem Col.none (w : World) : Col w (fun _ => 0) := fun _ _ => rfl
/-- Two colourings are the same on what is there. -/
def SameC (w : World) (c c' : Nat → Nat) : Prop := ∀ b, b < w.heap.size → c' b = c b
structure Lst {κ : Type} (K : Kd κ) (e : TypeId) (k : Nat) (c : Nat → Nat) (w : World) (base : Nat) (v : Value) (n : Nat) (S : Nat → κ) : Prop where
  l : Owg K e w base v n S
  row : ∀ g, v.ownBlock = some g → c g = k
  con : ∀ i, i < n → ∀ b, K.Bl (S i) b → c b = 0
section
variable {κ : Type} {K : Kd κ} {e : TypeId} {k : Nat} {c c' : Nat → Nat} {w w' : World} {base : Nat} {v : Value} {n : Nat} {S : Nat → κ}
theorem Lst.nil (K : Kd κ) (e : TypeId) (k : Nat) (c : Nat → Nat) (w : World) (base : Nat) (S : Nat → κ) : Lst K e k c w base (.slice none 0 0) 0 S :=
  ⟨Owg.nil K e w base S, fun g h => (by cases h), fun i h => absurd h (Nat.not_lt_zero i)⟩
theorem Lst.below (h : Lst K e k c w base v n S) (hb : Below w.heap.size w w') : Lst K e k c w' base v n S := ⟨h.l.below hb, h.row, h.con⟩
/-- Another list's row was turned. -/
theorem Lst.other (h : Lst K e k c w base v n S) {v2 : Value} {k2 : Nat} (hg : w.grownBy w' v2.ownBlock) (h2 : ∀ g, v2.ownBlock = some g → c g = k2) (hk : k ≠ k2) (h0 : k2 ≠ 0) (hs : SameC w c c') : Lst K e k c' w' base v n S := by
  refine ⟨h.l.grown hg ?_ (fun i hi b hb q => ?_), fun g q => by rw [hs g (h.l.lt q).2]; exact h.row g q, fun i hi b hb => by rw [hs b (K.lt (h.l.at_ i hi) hb)]; exact h.con i hi b hb⟩
  · cases hv : v.ownBlock with
    | none => exact .inl rfl
    | some g =>
      right
      intro q
      have h1 := h.row g hv
      have h3 := h2 g q.symm
      omega
  · have h1 := h2 b q
    have h3 := h.con i hi b hb
    omega
end
section
variable {κ : Type} {K : Kd κ} {P : Program} {w : World}
theorem lst_next {e : TypeId} {k : Nat} {c : Nat → Nat} {base : Nat} {v : Value} {n : Nat} {S : Nat → κ} {s : κ} (h : Lst K e k c w base v n S) (hcol : Col w c) (hk : k ≠ 0) (hU : K.At w s) (hf : ∀ b, K.Bl s b → c b = 0)
    {g' cap : Nat} {w' : World} (a1 : w'.ownsRow base e 1 (.slice (some ⟨g', 0, none⟩) (n + 1) cap) (n + 1) (owgC K S n ++ [K.v s])) (a2 : w.grownBy w' v.ownBlock) (a3 : v.ownBlock = some g' ∨ g' = w.heap.size) (a4 : g' < w'.heap.size) :
    ∃ c', Lst K e k c' w' base (.slice (some ⟨g', 0, none⟩) (n + 1) cap) (n + 1) (snocG S n s) ∧ SameC w c c' ∧ Col w' c' := by
  have hff : ∀ b, K.Bl s b → v.ownBlock ≠ some b := fun b hb q => by have h1 := h.row b q; have h2 := hf b hb; omega
  have hs : SameC w c (fun b => if b = g' then k else c b) := fun b hb => by
    show (if b = g' then k else c b) = c b
    split
    · rename_i q
      subst q
      rcases a3 with q | q
      · exact (h.row _ q).symm
      · omega
    · rfl
  refine ⟨fun b => if b = g' then k else c b, ⟨owg_next h.l hU hff a1 a2 a3, fun g q => ?_, fun i hi b hb => ?_⟩, hs, fun b hb => ?_⟩
  · have e3 : g' = g := by injection q
    exact if_pos e3.symm
  · rcases Nat.lt_or_ge i n with g | g
    · rw [snocG_lt g] at hb
      exact (hs b (K.lt (h.l.at_ i g) hb)).trans (h.con i g b hb)
    · obtain rfl : i = n := by omega
      rw [snocG_at] at hb
      exact (hs b (K.lt hU hb)).trans (hf b hb)
  · show (if b = g' then k else c b) = 0
    rw [if_neg (by omega)]
    exact hcol b (Nat.le_trans a2.size hb)
/-- One element more. -/
theorem wpList_lst {ops : Array Oper} {rest : List Oper} {o : Oper} {a : Act} {Q : Exit → Act → World → Prop} (hgd : o.guard = none) (s0 x : Operand) (t : TypeId)
    (ho : o.op = .call { callee := .builtin .append, args := #[s0, x], argTypes := #[t, t] })
    (base : Nat) (e : TypeId) (by' : Nat) (z : Value) (ht : P.underlying t = some (.slice e)) (hi : (P.info? e).map (fun i => (i.zero, i.size, i.bytes)) = some (some z, 1, by')) (hz : z.cells.size = 1)
    (k : Nat) (c : Nat → Nat) (hk : k ≠ 0) (hcol : Col w c)
    (v : Value) (n cm : Nat) (S : Nat → κ) (s : κ) (hs : a.eval s0 = v) (hown : Lst K e k c w base v n S)
    (g : Nat) (hx : a.eval x = .slice (some ⟨g, 0, none⟩) 1 cm) (hc : w.cell? ⟨g, 0, none⟩ = some (K.v s)) (hU : K.At w s)
    (hf : ∀ b, K.Bl s b → c b = 0) (h63 : n + 1 ≤ maxLen) (hbytes : (n + 1) * by' ≤ 140737488355328) (hbase : base ≤ w.heap.size)
    (h : ∀ v' w' c', Lst K e k c' w' base v' (n + 1) (snocG S n s) → w.grownBy w' v.ownBlock → SameC w c c' → Col w' c' → wpList P ops Q rest (a.put o.dst v') w') : wpList P ops Q (o :: rest) a w := by
  obtain ⟨i0, h1, h2, h3, h4⟩ := info_parts hi
  exact wpList_append_lies w hgd s0 x t ho base e i0 z 1 by' ht h1 h2 h3 h4 hz (by decide) v n (owgC K S n) hs hown.l.own ⟨g, 0, none⟩ 1 cm [K.v s] hx rfl (one_news hc) (fun u hu => by rw [List.mem_singleton] at hu; subst hu; exact K.one s) (by decide) h63 hbytes hbase w.heap.size rfl
    (fun g' cap w' a1 a2 a3 a4 => by
      obtain ⟨c', b1, b2, b3⟩ := lst_next hown hcol hk hU hf a1 a2 a3 a4
      exact h _ w' c' b1 a2 b2 b3)
/-- The same, at a step of a region that draws its order. -/
theorem step_lst {ops : Array Oper} {o : Oper} {a : Act} {K' : Act → World → Prop} {Q : Exit → Act → World → Prop} {E : Prop} (hgd : o.guard = none) (s0 x : Operand) (t : TypeId)
    (ho : o.op = .call { callee := .builtin .append, args := #[s0, x], argTypes := #[t, t] })
    (base : Nat) (e : TypeId) (by' : Nat) (z : Value) (ht : P.underlying t = some (.slice e)) (hi : (P.info? e).map (fun i => (i.zero, i.size, i.bytes)) = some (some z, 1, by')) (hz : z.cells.size = 1)
    (k : Nat) (c : Nat → Nat) (hk : k ≠ 0) (hcol : Col w c)
    (v : Value) (n cm : Nat) (S : Nat → κ) (s : κ) (hs : a.eval s0 = v) (hown : Lst K e k c w base v n S)
    (g : Nat) (hx : a.eval x = .slice (some ⟨g, 0, none⟩) 1 cm) (hc : w.cell? ⟨g, 0, none⟩ = some (K.v s)) (hU : K.At w s)
    (hf : ∀ b, K.Bl s b → c b = 0) (h63 : n + 1 ≤ maxLen) (hbytes : (n + 1) * by' ≤ 140737488355328) (hbase : base ≤ w.heap.size)
    (h : ∀ v' w' c', Lst K e k c' w' base v' (n + 1) (snocG S n s) → w.grownBy w' v.ownBlock → SameC w c c' → Col w' c' → K' (a.put o.dst v') w') : if Region.wanted o (yielded ops a.tmps) = true then Oper.wp P o a w K' Q else E := by
  obtain ⟨i0, h1, h2, h3, h4⟩ := info_parts hi
  exact step_append_lies w hgd s0 x t ho base e i0 z 1 by' ht h1 h2 h3 h4 hz (by decide) v n (owgC K S n) hs hown.l.own ⟨g, 0, none⟩ 1 cm [K.v s] hx rfl (one_news hc) (fun u hu => by rw [List.mem_singleton] at hu; subst hu; exact K.one s) (by decide) h63 hbytes hbase w.heap.size rfl
    (fun g' cap w' a1 a2 a3 a4 => by
      obtain ⟨c', b1, b2, b3⟩ := lst_next hown hcol hk hU hf a1 a2 a3 a4
      exact h _ w' c' b1 a2 b2 b3)
end
/-! ### Whole numbers -/
def kInt : Kd Int := ⟨fun x => .int .i64 x, fun _ _ => True, fun _ _ => False, fun _ => rfl, fun _ h => h.elim, fun _ _ _ => trivial⟩
theorem Owg.ints {e : TypeId} {w : World} {base : Nat} {v : Value} {n : Nat} {S : Nat → Int} (h : Owg kInt e w base v n S) : ∃ A c, v = .slice A n c ∧ n ≤ c ∧ (∀ a, A = some a → base ≤ a.block) ∧ Rd .i64 w A n ((List.range n).map S) := by
  obtain ⟨A, c, rfl, hnc, hb, hc⟩ := h.form
  refine ⟨A, c, rfl, hnc, hb, by simp, fun hn => ?_⟩
  obtain ⟨g, eg, hl, hx⟩ := hc hn
  refine ⟨g, 0, eg, hl, fun j x hj => ?_⟩
  have hjn : j < n := by
    rcases Nat.lt_or_ge j n with q | q
    · exact q
    · rw [List.getElem?_eq_none (by simpa using q)] at hj; cases hj
  have e1 : S j = x := by simpa [hjn] using hj
  subst e1
  rw [Nat.zero_add]
  exact hx j hjn
end Go.Proofs.YtjalncdllegfoaaDoor
/-
  What a mix does, in numbers: pairs sealed, sealed anew, stripped, turned; and how these go together.
-/
namespace Go.Proofs.YtjalncdllegfoaaDoor
set_option linter.unusedVariables false
/-- A pair's numbers. -/
structure Trp where
  a : Int
  b : Int
  c : Int
/-- A power in the group: the exponent counts modulo Q. -/
def gx (P Q g s : Int) : Int := g ^ (s % Q).toNat % P
def sealN (P Q G k m r : Int) : Trp := ⟨gx P Q G r, m * gx P Q k r % P, 1⟩
def anewN (P Q G k : Int) (p : Trp) (r : Int) : Trp := ⟨p.a * gx P Q G r % P, p.b * gx P Q k r % P, p.c⟩
def stripN (P Q G s nx : Int) (p : Trp) (v : Int) : Trp := ⟨p.a, p.b * iv P Q (gx P Q p.a s) % P * gx P Q nx v % P, p.c * gx P Q G v % P⟩
def turnN (p : Trp) : Trp := ⟨p.c, p.b, 1⟩
/-- A pair of elements. -/
structure ElT (P Q : Int) (p : Trp) : Prop where
  a : El P Q p.a
  b : El P Q p.b
  c : El P Q p.c
section
variable {P Q G k m r s : Int} {p : Trp}
theorem gx_el (hP : 2 ≤ P) (hQ : 1 ≤ Q) {g : Int} (h : El P Q g) (s : Int) : El P Q (gx P Q g s) := h.pow hP hQ _
theorem gx_mod (hQ : 1 ≤ Q) (g s : Int) : gx P Q g (s % Q) = gx P Q g s := by unfold gx; rw [Int.emod_emod_of_dvd _ (Int.dvd_refl Q)]
theorem sealN_el (hP : 2 ≤ P) (hQ : 1 ≤ Q) (hG : El P Q G) (hk : El P Q k) (hm : El P Q m) (r : Int) : ElT P Q (sealN P Q G k m r) :=
  ⟨gx_el hP hQ hG r, hm.mul hP hQ (gx_el hP hQ hk r), el_one hP⟩
theorem anewN_el (hP : 2 ≤ P) (hQ : 1 ≤ Q) (hG : El P Q G) (hk : El P Q k) (hp : ElT P Q p) (r : Int) : ElT P Q (anewN P Q G k p r) :=
  ⟨hp.a.mul hP hQ (gx_el hP hQ hG r), hp.b.mul hP hQ (gx_el hP hQ hk r), hp.c⟩
theorem stripN_el (hP : 2 ≤ P) (hQ : 1 ≤ Q) (hG : El P Q G) {nx : Int} (hn : El P Q nx) (hp : ElT P Q p) (s v : Int) : ElT P Q (stripN P Q G s nx p v) :=
  ⟨hp.a, ((hp.b.mul hP hQ ((gx_el hP hQ hp.a s).iv hP hQ))).mul hP hQ (gx_el hP hQ hn v), hp.c.mul hP hQ (gx_el hP hQ hG v)⟩
theorem turnN_el (hP : 2 ≤ P) (hp : ElT P Q p) : ElT P Q (turnN p) := ⟨hp.c, hp.b, el_one hP⟩
/-! ### Sums of scalars -/
theorem gx_eqm (hP : 2 ≤ P) (hQ : 1 ≤ Q) {g : Int} (h : El P Q g) {s : Int} (hs : 0 ≤ s) : Eqm P (gx P Q g s) (g ^ s.toNat) := by
  unfold gx
  rw [h.red hP hQ hs]
  exact Eqm.mod P _
theorem gx_add (hP : 2 ≤ P) (hQ : 1 ≤ Q) {g : Int} (h : El P Q g) {s t : Int} (hs : 0 ≤ s) (ht : 0 ≤ t) : gx P Q g s * gx P Q g t % P = gx P Q g (s + t) := by
  unfold gx
  rw [h.sum hP hQ hs ht, h.red hP hQ hs, h.red hP hQ ht]
theorem gx_zero (hP : 2 ≤ P) (hQ : 1 ≤ Q) (g : Int) : gx P Q g 0 = 1 := by
  unfold gx
  rw [Int.zero_emod, Int.toNat_zero, Int.pow_zero]
  exact Int.emod_eq_of_lt (show (0 : Int) ≤ 1 by decide) (by omega)
theorem one_gx (hP : 2 ≤ P) (s : Int) : gx P Q 1 s = 1 := by
  unfold gx
  rw [Int.one_pow]
  exact Int.emod_eq_of_lt (show (0 : Int) ≤ 1 by decide) (by omega)
theorem el_mul_one (h : El P Q m) : m * 1 % P = m := by rw [Int.mul_one, h.self]
theorem mul_rest (a b : Int) : a % P * b % P = a * b % P := by rw [Int.mul_emod, Int.emod_emod_of_dvd _ (Int.dvd_refl P), ← Int.mul_emod]
theorem rest_mul (a b : Int) : a * (b % P) % P = a * b % P := by rw [Int.mul_emod, Int.emod_emod_of_dvd _ (Int.dvd_refl P), ← Int.mul_emod]
theorem mul_assoc_rest (a b c : Int) : a * b % P * c % P = a * (b * c % P) % P := by rw [mul_rest, rest_mul, Int.mul_assoc]
theorem mul_swap_rest (a b c : Int) : a * b % P * c % P = a * c % P * b % P := by rw [mul_rest, mul_rest, Int.mul_assoc, Int.mul_comm b c, Int.mul_assoc]
/-- Sealed, and sealed anew: sealed with both scalars' sum. -/
theorem anew_seal (hP : 2 ≤ P) (hQ : 1 ≤ Q) (hG : El P Q G) (hk : El P Q k) (r0 : 0 ≤ r) (s0 : 0 ≤ s) : anewN P Q G k (sealN P Q G k m r) s = sealN P Q G k m (r + s) := by
  unfold anewN sealN
  rw [gx_add hP hQ hG r0 s0, mul_assoc_rest, gx_add hP hQ hk r0 s0]
/-- Sealed anew twice. -/
theorem anew_anew (hP : 2 ≤ P) (hQ : 1 ≤ Q) (hG : El P Q G) (hk : El P Q k) (r0 : 0 ≤ r) (s0 : 0 ≤ s) : anewN P Q G k (anewN P Q G k p r) s = anewN P Q G k p (r + s) := by
  unfold anewN
  rw [mul_assoc_rest, mul_assoc_rest, gx_add hP hQ hG r0 s0, gx_add hP hQ hk r0 s0]
theorem sealN_mod (hQ : 1 ≤ Q) : sealN P Q G k m (r % Q) = sealN P Q G k m r := by unfold sealN; rw [gx_mod hQ, gx_mod hQ]
theorem anewN_mod (hQ : 1 ≤ Q) : anewN P Q G k p (r % Q) = anewN P Q G k p r := by unfold anewN; rw [gx_mod hQ, gx_mod hQ]
/-! ### Shares -/
theorem iv_mul (hP : 2 ≤ P) (hQ : 1 ≤ Q) {a b : Int} (ha : El P Q a) (hb : El P Q b) : iv P Q (a * b % P) = iv P Q a * iv P Q b % P := by
  symm
  have ia := ha.iv hP hQ
  have ib := hb.iv hP hQ
  have h1 := ia.mul hP hQ ib
  refine (ha.mul hP hQ hb).uniq hP hQ h1.1 h1.2.1 ?_
  have e1 := (ha.inv hP hQ).mul (hb.inv hP hQ)
  rw [Int.one_mul] at e1
  refine Eqm.trans ?_ e1
  have e2 := (Eqm.mod P (a * b)).mul (Eqm.mod P (iv P Q a * iv P Q b))
  rw [show a * iv P Q a * (b * iv P Q b) = a * b * (iv P Q a * iv P Q b) by grind]
  exact e2
theorem iv_one (hP : 2 ≤ P) : iv P Q 1 = 1 := by
  unfold iv; rw [Int.one_pow]; exact Int.emod_eq_of_lt (show (0 : Int) ≤ 1 by decide) (by omega)
/-- Two shares, one behind the other, on to no key. -/
theorem strip_strip (hP : 2 ≤ P) (hQ : 1 ≤ Q) (hG : El P Q G) (hp : ElT P Q p) (r0 : 0 ≤ r) (s0 : 0 ≤ s) : stripN P Q G s 1 (stripN P Q G r 1 p 0) 0 = stripN P Q G (r + s) 1 p 0 := by
  have hr := gx_el hP hQ hp.a r
  have hs := gx_el hP hQ hp.a s
  have h1 := hp.b.mul hP hQ (hr.iv hP hQ)
  unfold stripN
  simp only
  rw [gx_zero hP hQ, gx_zero hP hQ, el_mul_one h1, el_mul_one (h1.mul hP hQ (hs.iv hP hQ)), mul_assoc_rest, ← iv_mul hP hQ hr hs, gx_add hP hQ hp.a r0 s0,
    el_mul_one (hp.b.mul hP hQ ((gx_el hP hQ hp.a (r + s)).iv hP hQ)), el_mul_one hp.c, el_mul_one hp.c]
/-- What was sealed is a share's: of the key's power. -/
theorem seal_out (hP : 2 ≤ P) (hQ : 1 ≤ Q) (hG : El P Q G) (hm : El P Q m) {x t : Int} (x0 : 0 ≤ x) (t0 : 0 ≤ t) : m * gx P Q (gx P Q G x) t % P * iv P Q (gx P Q (gx P Q G t) x) % P = m := by
  have e : gx P Q (gx P Q G t) x = gx P Q (gx P Q G x) t := by
    have h1 := (gx_eqm hP hQ hG x0).pow t.toNat
    have h2 := (gx_eqm hP hQ hG t0).pow x.toNat
    have h3 := gx_eqm hP hQ (gx_el hP hQ hG t) x0
    have h4 := gx_eqm hP hQ (gx_el hP hQ hG x) t0
    rw [← Int.pow_mul] at h1 h2
    rw [Nat.mul_comm] at h2
    have h5 := Eqm.iff.1 ((h3.trans h2).trans (h4.trans h1).symm)
    rw [(gx_el hP hQ (gx_el hP hQ hG t) x).self, (gx_el hP hQ (gx_el hP hQ hG x) t).self] at h5
    exact h5
  rw [e]
  exact hm.back hP hQ (gx_el hP hQ (gx_el hP hQ hG x) t)
end
end Go.Proofs.YtjalncdllegfoaaDoor
/-
  What is amiss with what a mix is asked; letters and batches that were answered.
-/
namespace Go.Proofs.YtjalncdllegfoaaDoor
open Go.RowKit
set_option linter.unusedVariables false
def Trp.of (s : Stp) : Trp := ⟨s.P, s.Q, s.A⟩
/-! ### What is amiss -/
open Classical in
/-- Shape, length, elements: 0 where nothing is amiss. -/
noncomputable def fitC (n m : Nat) (lg el : Prop) : Int := if 1 ≤ n ∧ n ≤ 32 ∧ n = m then (if lg then 2 else if el then 0 else 8) else 1
section
variable {n m : Nat} {lg el : Prop}
theorem fitC_arg (h : ¬ (1 ≤ n ∧ n ≤ 32 ∧ n = m)) : fitC n m lg el = 1 := if_neg h
theorem fitC_long (h : 1 ≤ n ∧ n ≤ 32 ∧ n = m) (hl : lg) : fitC n m lg el = 2 := by unfold fitC; rw [if_pos h, if_pos hl]
theorem fitC_ok (h : 1 ≤ n ∧ n ≤ 32 ∧ n = m) (hl : ¬ lg) (he : el) : fitC n m lg el = 0 := by unfold fitC; rw [if_pos h, if_neg hl, if_pos he]
theorem fitC_no (h : 1 ≤ n ∧ n ≤ 32 ∧ n = m) (hl : ¬ lg) (he : ¬ el) : fitC n m lg el = 8 := by unfold fitC; rw [if_pos h, if_neg hl, if_neg he]
theorem fitC_zero (h : fitC n m lg el = 0) : (1 ≤ n ∧ n ≤ 32 ∧ n = m) ∧ ¬ lg ∧ el := by
  by_cases h1 : 1 ≤ n ∧ n ≤ 32 ∧ n = m
  · by_cases h2 : lg
    · rw [fitC_long h1 h2] at h; exact absurd h (by decide)
    · by_cases h3 : el
      · exact ⟨h1, h2, h3⟩
      · rw [fitC_no h1 h2 h3] at h; exact absurd h (by decide)
  · rw [fitC_arg h1] at h; exact absurd h (by decide)
theorem fitC_is (n m : Nat) (lg el : Prop) : fitC n m lg el = 0 ∨ fitC n m lg el = 1 ∨ fitC n m lg el = 2 ∨ fitC n m lg el = 8 := by
  by_cases h1 : 1 ≤ n ∧ n ≤ 32 ∧ n = m
  · by_cases h2 : lg
    · exact .inr (.inr (.inl (fitC_long h1 h2)))
    · by_cases h3 : el
      · exact .inl (fitC_ok h1 h2 h3)
      · exact .inr (.inr (.inr (fitC_no h1 h2 h3)))
  · exact .inr (.inl (fitC_arg h1))
end
/-- One scalar is too long. -/
def LgS (R : Nat → Nsl) (n : Nat) : Prop := ∃ i, i < n ∧ 64 < dl (R i).N
def ElS (P Q : Int) (M : Nat → Nsl) (n : Nat) : Prop := ∀ i, i < n → El P Q (M i).N
def ElL (P Q : Int) (S : Nat → Stp) (n : Nat) : Prop := ∀ i, i < n → ElT P Q (Trp.of (S i))
noncomputable def sealC (P Q K : Int) (M : Nat → Nsl) (nm : Nat) (R : Nat → Nsl) (nr : Nat) : Int := fitC nm nr (LgS R nr) (El P Q K ∧ ElS P Q M nm)
noncomputable def anewC (P Q K : Int) (S : Nat → Stp) (n : Nat) (R : Nat → Nsl) (nr : Nat) : Int := fitC n nr (LgS R nr) (El P Q K ∧ ElL P Q S n)
noncomputable def stripC (P Q s K : Int) (S : Nat → Stp) (n : Nat) (R : Nat → Nsl) (nr : Nat) : Int := fitC n nr (64 < dl s ∨ LgS R nr) (El P Q K ∧ ElL P Q S n)
noncomputable def turnC (P Q : Int) (S : Nat → Stp) (n : Nat) : Int := fitC n n False (ElL P Q S n)
/-- The shape of a batch, its permutation and its scalars. -/
def MixF (B : Nat → Lsl) (nb : Nat) (perm : Nat → Int) (np : Nat) (R : Nat → Rsl) (nr : Nat) : Prop :=
  nb ≤ 256 ∧ np = nb ∧ nr = nb ∧ (∀ i, i < nb → 1 ≤ (B i).n ∧ (B i).n ≤ 32 ∧ (B i).n = (R i).n ∧ (B i).n = (B 0).n ∧ 0 ≤ perm i ∧ perm i < nb) ∧ ∀ i k, k < i → i < nb → perm k ≠ perm i
open Classical in
noncomputable def mixC (P Q K : Int) (B : Nat → Lsl) (nb : Nat) (perm : Nat → Int) (np : Nat) (R : Nat → Rsl) (nr : Nat) : Int :=
  if MixF B nb perm np R nr then (if ∃ i, i < nb ∧ LgS (R i).S (R i).n then 2 else if El P Q K ∧ ∀ i, i < nb → ElL P Q (B i).S (B i).n then 0 else 8) else 1
/-! ### What was answered -/
/-- A letter's numbers are told without noughts behind. -/
def CanL (S : Nat → Stp) (n : Nat) : Prop := ∀ i, i < n → (S i).n1 = dl (S i).P ∧ (S i).n2 = dl (S i).Q ∧ (S i).n3 = dl (S i).A
def CanS (S : Nat → Nsl) (n : Nat) : Prop := ∀ i, i < n → (S i).n = dl (S i).N
/-- A letter that was answered, all of it in memory newer than base. -/
structure Lo (w : World) (base : Nat) (A : Option Addr) (n c : Nat) (S : Nat → Stp) : Prop where
  ch : Ch w A n c S
  can : CanL S n
  newA : ∀ a, A = some a → base ≤ a.block
  newS : ∀ i, i < n → (∀ a, (S i).A1 = some a → base ≤ a.block) ∧ (∀ a, (S i).A2 = some a → base ≤ a.block) ∧ ∀ a, (S i).A3 = some a → base ≤ a.block
theorem Lo.below {w w' : World} {base : Nat} {A : Option Addr} {n c : Nat} {S : Nat → Stp} (h : Lo w base A n c S) (hb : Below w.heap.size w w') : Lo w' base A n c S := ⟨h.ch.below hb, h.can, h.newA, h.newS⟩
theorem Lo.base {w : World} {base base' : Nat} {A : Option Addr} {n c : Nat} {S : Nat → Stp} (h : Lo w base A n c S) (hb : base' ≤ base) : Lo w base' A n c S :=
  ⟨h.ch, h.can, fun a ha => Nat.le_trans hb (h.newA a ha), fun i hi => ⟨fun a ha => Nat.le_trans hb ((h.newS i hi).1 a ha), fun a ha => Nat.le_trans hb ((h.newS i hi).2.1 a ha), fun a ha => Nat.le_trans hb ((h.newS i hi).2.2 a ha)⟩⟩
def LetA (T : Nat → Trp) (n : Nat) (w : World) (e : Ending) (w' : World) : Prop :=
  ∃ A c S, e = .returned (.tuple #[.slice A n c, .nilIface]) ∧ Lo w' w.heap.size A n c S ∧ (∀ i, i < n → Trp.of (S i) = T i) ∧ Below w.heap.size w w'
/-- A letter, or a Code. -/
def LetP (code : Int) (T : Nat → Trp) (n : Nat) (w : World) (e : Ending) (w' : World) : Prop := (code = 0 ∧ LetA T n w e w') ∨ (code ≠ 0 ∧ Err1 code w e w')
/-- A letter of the document's, or a number. -/
def DetP (code : Int) (T : Nat → Trp) (n : Nat) (w : World) (e : Ending) (w' : World) : Prop :=
  (code = 0 ∧ ∃ A c S, e = .returned (.tuple #[.slice A n c, .int .i64 0]) ∧ Ch w' A n c S ∧ CanL S n ∧ (∀ i, i < n → Trp.of (S i) = T i) ∧ Below w.heap.size w w') ∨
  (code ≠ 0 ∧ e = .returned (.tuple #[.slice none 0 0, .int .i64 code]) ∧ Below w.heap.size w w')
/-- A list of numbers, or a Code. -/
def NumP (code : Int) (T : Nat → Int) (n : Nat) (w : World) (e : Ending) (w' : World) : Prop :=
  (code = 0 ∧ ∃ A c S, e = .returned (.tuple #[.slice A n c, .nilIface]) ∧ Ns w' A n c S ∧ CanS S n ∧ (∀ i, i < n → (S i).N = T i) ∧ (∀ a, A = some a → w.heap.size ≤ a.block) ∧ Below w.heap.size w w') ∨ (code ≠ 0 ∧ Err1 code w e w')
/-- A batch, or a Code. -/
def BatP (code : Int) (T : Nat → Nat → Trp) (n m : Nat) (w : World) (e : Ending) (w' : World) : Prop :=
  (code = 0 ∧ ∃ A c B, e = .returned (.tuple #[.slice A n c, .nilIface]) ∧ Bat w' A n c B ∧ (∀ i, i < n → (B i).n = m ∧ Lo w' w.heap.size (B i).A (B i).n (B i).c (B i).S ∧ ∀ j, j < m → Trp.of ((B i).S j) = T i j) ∧ (∀ a, A = some a → w.heap.size ≤ a.block) ∧ Below w.heap.size w w') ∨
  (code ≠ 0 ∧ Err1 code w e w')
end Go.Proofs.YtjalncdllegfoaaDoor
/-
  What a proof does, in numbers: its answer, what is asked of it; that two answers to one beginning give the scalar away.
-/
namespace Go.Proofs.YtjalncdllegfoaaDoor
set_option linter.unusedVariables false
/-- The answer to a challenge. -/
def respN (Q e s k : Int) : Int := (k + e * s) % Q
/-- An element to the Z, over another one to the E. -/
def backE (P Q a y z e : Int) : Int := gx P Q a z * iv P Q (gx P Q y e) % P
section
variable {P Q a e f s k z : Int}
theorem toNat_mul (h : 0 ≤ e) (h' : 0 ≤ s) : s.toNat * e.toNat = (e * s).toNat := by
  obtain ⟨m, rfl⟩ := Int.eq_ofNat_of_zero_le h'
  obtain ⟨n, rfl⟩ := Int.eq_ofNat_of_zero_le h
  rw [← Int.natCast_mul, Int.toNat_natCast, Int.toNat_natCast, Int.toNat_natCast, Nat.mul_comm]
theorem gx_gx (hP : 2 ≤ P) (hQ : 1 ≤ Q) (h : El P Q a) (s0 : 0 ≤ s) (e0 : 0 ≤ e) : gx P Q (gx P Q a s) e = gx P Q a (e * s) := by
  have h1 := (gx_eqm hP hQ h s0).pow e.toNat
  have h3 := gx_eqm hP hQ (gx_el hP hQ h s) e0
  have h4 := gx_eqm hP hQ h (Int.mul_nonneg e0 s0)
  rw [← Int.pow_mul, toNat_mul e0 s0] at h1
  have h5 := Eqm.iff.1 ((h3.trans h1).trans h4.symm)
  rw [(gx_el hP hQ (gx_el hP hQ h s) e).self, (gx_el hP hQ h (e * s)).self] at h5
  exact h5
theorem gx_more (hQ : 1 ≤ Q) : gx P Q a (z + Q) = gx P Q a z := by
  rw [← gx_mod hQ a (z + Q), ← gx_mod hQ a z]
  congr 1
  have h := Int.add_mul_emod_self_right z 1 Q
  rwa [Int.one_mul] at h
/-- A proof that was made holds: what is asked anew is what it began with. -/
theorem back_holds (hP : 2 ≤ P) (hQ : 1 ≤ Q) (h : El P Q a) (s0 : 0 ≤ s) (e0 : 0 ≤ e) (k0 : 0 ≤ k) : backE P Q a (gx P Q a s) (respN Q e s k) e = gx P Q a k := by
  unfold backE respN
  rw [gx_mod hQ, ← gx_add hP hQ h k0 (Int.mul_nonneg e0 s0), gx_gx hP hQ h s0 e0]
  exact (gx_el hP hQ h k).back hP hQ (gx_el hP hQ h (e * s))
theorem back_more (hQ : 1 ≤ Q) {y : Int} : backE P Q a y (z + Q) e = backE P Q a y z e := by
  unfold backE
  rw [gx_more hQ]
theorem backE_el (hP : 2 ≤ P) (hQ : 1 ≤ Q) {y : Int} (ha : El P Q a) (hy : El P Q y) : El P Q (backE P Q a y z e) := (gx_el hP hQ ha z).mul hP hQ ((gx_el hP hQ hy e).iv hP hQ)
/-- What is less than a prime has nothing in common with it. -/
theorem pr_gcd {v : Int} (h : Pr Q) (v0 : 0 < v) (v1 : v < Q) : Int.gcd Q v = 1 := by
  have d1 : ((Int.gcd Q v : Nat) : Int) ∣ Q := Int.gcd_dvd_left Q v
  have d2 : ((Int.gcd Q v : Nat) : Int) ∣ v := Int.gcd_dvd_right Q v
  have l1 := Int.le_of_dvd v0 d2
  have l0 : Int.gcd Q v ≠ 0 := fun e => by
    rw [e] at d2
    have := Int.zero_dvd.1 d2
    omega
  rcases Nat.lt_or_ge (Int.gcd Q v) 2 with g | g
  · omega
  · exact absurd (Int.emod_eq_zero_of_dvd d1) (h.2 _ (by omega) (by omega))
/-! ### Two answers to one beginning -/
theorem sound_diff : ((k + e * s % Q) % Q - (k + f * s % Q) % Q) % Q = ((e - f) % Q * s) % Q := by
  have h1 : Eqm Q ((k + e * s % Q) % Q) (k + e * s) := (Eqm.mod Q _).trans ((Eqm.refl Q k).add (Eqm.mod Q _))
  have h2 : Eqm Q ((k + f * s % Q) % Q) (k + f * s) := (Eqm.mod Q _).trans ((Eqm.refl Q k).add (Eqm.mod Q _))
  have h3 := h1.sub h2
  have h4 : Eqm Q ((e - f) % Q * s) ((e - f) * s) := (Eqm.mod Q _).mul (Eqm.refl Q s)
  have e1 : k + e * s - (k + f * s) = (e - f) * s := by grind
  rw [e1] at h3
  exact Eqm.emod (h3.trans h4.symm)
theorem sound_scalar {i v : Int} (hi : Eqm Q (v * i) 1) : (v * s % Q * i) % Q = s % Q := by
  have h1 : Eqm Q (v * s % Q * i) (v * s * i) := (Eqm.mod Q _).mul (Eqm.refl Q i)
  have h2 := hi.mul (Eqm.refl Q s)
  have e1 : v * s * i = v * i * s := by grind
  rw [e1] at h1
  rw [Int.one_mul] at h2
  exact Eqm.emod (h1.trans h2)
theorem sound_zero (h : (e - f) % Q = 0) : ((k + e * s % Q) % Q - (k + f * s % Q) % Q) % Q = 0 := by rw [sound_diff, h, Int.zero_mul, Int.zero_emod]
end
end Go.Proofs.YtjalncdllegfoaaDoor
/-
  Answers of layer 7's calls in one form, for the laws that hold the program against the document: a letter (none where something is amiss), and an error's number.
-/
namespace Go.Proofs.YtjalncdllegfoaaDoor
open Go.RowKit
set_option linter.unusedVariables false
/-- An error of a number; none is 0. -/
def ErV (E : Value) (code : Int) : Prop := (code = 0 ∧ E = .nilIface) ∨ ((1 ≤ code ∧ code ≤ 15) ∧ E = .iface 43 (.int .i64 code))
/-- How long the answer is. -/
def lenV (code : Int) (n : Nat) : Nat := if code = 0 then n else 0
/-- A letter, and an error. -/
def LetV (code : Int) (T : Nat → Trp) (n : Nat) (w : World) (e : Ending) (w' : World) : Prop :=
  ∃ A c S E, e = .returned (.tuple #[.slice A (lenV code n) c, E]) ∧ ErV E code ∧ Ch w' A (lenV code n) c S ∧ CanL S (lenV code n) ∧ (∀ i, i < lenV code n → Trp.of (S i) = T i) ∧ Below w.heap.size w w'
/-- The document's. -/
def DetV (code : Int) (T : Nat → Trp) (n : Nat) (w : World) (e : Ending) (w' : World) : Prop :=
  ∃ A c S, e = .returned (.tuple #[.slice A (lenV code n) c, .int .i64 code]) ∧ Ch w' A (lenV code n) c S ∧ CanL S (lenV code n) ∧ (∀ i, i < lenV code n → Trp.of (S i) = T i) ∧ Below w.heap.size w w'
theorem ch_nil (w : World) (S : Nat → Stp) : Ch w none 0 0 S := ⟨Nat.le_refl _, by omega, fun h => absurd h (by omega), fun i h => absurd h (by omega)⟩
def stp0 : Nat → Stp := fun _ => ⟨none, 0, 0, none, 0, 0, none, 0, 0, 0, 0, 0⟩
theorem lenV0 (n : Nat) : lenV 0 n = n := rfl
theorem lenVn {code : Int} (h : code ≠ 0) (n : Nat) : lenV code n = 0 := if_neg h
section
variable {code : Int} {T : Nat → Trp} {n : Nat} {w w' : World} {e : Ending}
theorem LetP.v (h : LetP code T n w e w') (hc : code ≠ 0 → 1 ≤ code ∧ code ≤ 15) : LetV code T n w e w' := by
  rcases h with ⟨rfl, A, c, S, rfl, h1, h2, h3⟩ | ⟨h0, rfl, h3⟩
  · exact ⟨A, c, S, .nilIface, rfl, .inl ⟨rfl, rfl⟩, h1.ch, h1.can, h2, h3⟩
  · unfold LetV
    rw [lenVn h0]
    exact ⟨none, 0, stp0, _, rfl, .inr ⟨hc h0, rfl⟩, ch_nil _ _, fun i hi => absurd hi (Nat.not_lt_zero i), fun i hi => absurd hi (Nat.not_lt_zero i), h3⟩
theorem DetP.v (h : DetP code T n w e w') : DetV code T n w e w' := by
  rcases h with ⟨rfl, A, c, S, rfl, h1, h2, h3, h4⟩ | ⟨h0, rfl, h3⟩
  · exact ⟨A, c, S, rfl, h1, h2, h3, h4⟩
  · unfold DetV
    rw [lenVn h0]
    exact ⟨none, 0, stp0, rfl, ch_nil _ _, fun i hi => absurd hi (Nat.not_lt_zero i), fun i hi => absurd hi (Nat.not_lt_zero i), h3⟩
/-- A list of numbers, and an error. -/
def NumV (code : Int) (T : Nat → Int) (n : Nat) (w : World) (e : Ending) (w' : World) : Prop :=
  ∃ A c S E, e = .returned (.tuple #[.slice A (lenV code n) c, E]) ∧ ErV E code ∧ Ns w' A (lenV code n) c S ∧ CanS S (lenV code n) ∧ (∀ i, i < lenV code n → (S i).N = T i) ∧ Below w.heap.size w w'
theorem NumP.v {T : Nat → Int} (h : NumP code T n w e w') (hc : code ≠ 0 → 1 ≤ code ∧ code ≤ 15) : NumV code T n w e w' := by
  rcases h with ⟨rfl, A, c, S, rfl, h1, h2, h3, -, h4⟩ | ⟨h0, rfl, h3⟩
  · exact ⟨A, c, S, .nilIface, rfl, .inl ⟨rfl, rfl⟩, h1, h2, h3, h4⟩
  · unfold NumV
    rw [lenVn h0]
    exact ⟨none, 0, fun _ => ⟨none, 0, 0, 0⟩, _, rfl, .inr ⟨hc h0, rfl⟩, Ns.nil _ _, fun i hi => absurd hi (Nat.not_lt_zero i), fun i hi => absurd hi (Nat.not_lt_zero i), h3⟩
theorem fitC_rng {n m : Nat} {lg el : Prop} : fitC n m lg el ≠ 0 → 1 ≤ fitC n m lg el ∧ fitC n m lg el ≤ 15 := fun h => by
  rcases fitC_is n m lg el with g | g | g | g
  · exact absurd g h
  · rw [g]; decide
  · rw [g]; decide
  · rw [g]; decide
end
end Go.Proofs.YtjalncdllegfoaaDoor
