/-
  Several texts in one: Nts, Owc, Owg, Owk, Oun, Mgm.
-/
import Derived.Test.YtcnekfpgoceblaaPri
import Derived.Test.YtcnekfpgoceblaaPkf
import Derived.Deep.AppendLies
import Derived.Test.YtcnekfpgoceblaaPca
/-
  Lists of numbers, letters and batches in memory.
-/
namespace Go.Proofs.Ytcnekfpgoceblaa
open Go.RowKit
set_option linter.unusedVariables false
/-- A number's slice. -/
structure Nsl where
  A : Option Addr
  n : Nat
  c : Nat
  N : Int
def Nsl.v (s : Nsl) : Value := .slice s.A s.n s.c
/-- A list of numbers. -/
structure Ns (w : World) (a : Option Addr) (n c : Nat) (S : Nat → Nsl) : Prop where
  nc : n ≤ c
  c60 : n ≤ 17592186044416
  ex : 0 < n → ∃ b off, a = some ⟨b, off, none⟩ ∧ b < w.heap.size ∧ ∀ i, i < n → w.cell? ⟨b, off + i, none⟩ = some (.slice (S i).A (S i).n (S i).c)
  at_ : ∀ i, i < n → Nm w (S i).A (S i).n (S i).c (S i).N
theorem Ns.below {w w' : World} {a : Option Addr} {n c : Nat} {S : Nat → Nsl} (h : Ns w a n c S) (hb : Below w.heap.size w w') : Ns w' a n c S :=
  ⟨h.nc, h.c60, fun hn => by
    obtain ⟨b, off, e, hl, hc⟩ := h.ex hn
    exact ⟨b, off, e, Nat.lt_of_lt_of_le hl hb.size, fun i hi => (hb.cell (p := ⟨b, _, none⟩) hl).trans (hc i hi)⟩, fun i hi => (h.at_ i hi).below hb⟩
theorem Ns.nil (w : World) (S : Nat → Nsl) : Ns w none 0 0 S := ⟨Nat.le_refl _, by omega, fun h => absurd h (by omega), fun i h => absurd h (by omega)⟩
/-- A letter of a batch. -/
structure Lsl where
  A : Option Addr
  n : Nat
  c : Nat
  S : Nat → Stp
/-- A batch: a list of letters. -/
structure Bat (w : World) (a : Option Addr) (n c : Nat) (B : Nat → Lsl) : Prop where
  nc : n ≤ c
  c60 : n ≤ 17592186044416
  ex : 0 < n → ∃ b off, a = some ⟨b, off, none⟩ ∧ b < w.heap.size ∧ ∀ i, i < n → w.cell? ⟨b, off + i, none⟩ = some (.slice (B i).A (B i).n (B i).c)
  at_ : ∀ i, i < n → Ch w (B i).A (B i).n (B i).c (B i).S
theorem Bat.below {w w' : World} {a : Option Addr} {n c : Nat} {S : Nat → Lsl} (h : Bat w a n c S) (hb : Below w.heap.size w w') : Bat w' a n c S :=
  ⟨h.nc, h.c60, fun hn => by
    obtain ⟨b, off, e, hl, hc⟩ := h.ex hn
    exact ⟨b, off, e, Nat.lt_of_lt_of_le hl hb.size, fun i hi => (hb.cell (p := ⟨b, _, none⟩) hl).trans (hc i hi)⟩, fun i hi => (h.at_ i hi).below hb⟩
/-- A list of a list of lists of numbers. -/
structure Rsl where
  A : Option Addr
  n : Nat
  c : Nat
  S : Nat → Nsl
/-- A list of lists of numbers. -/
structure Rls (w : World) (a : Option Addr) (n c : Nat) (B : Nat → Rsl) : Prop where
  nc : n ≤ c
  c60 : n ≤ 17592186044416
  ex : 0 < n → ∃ b off, a = some ⟨b, off, none⟩ ∧ b < w.heap.size ∧ ∀ i, i < n → w.cell? ⟨b, off + i, none⟩ = some (.slice (B i).A (B i).n (B i).c)
  at_ : ∀ i, i < n → Ns w (B i).A (B i).n (B i).c (B i).S
theorem Rls.below {w w' : World} {a : Option Addr} {n c : Nat} {S : Nat → Rsl} (h : Rls w a n c S) (hb : Below w.heap.size w w') : Rls w' a n c S :=
  ⟨h.nc, h.c60, fun hn => by
    obtain ⟨b, off, e, hl, hc⟩ := h.ex hn
    exact ⟨b, off, e, Nat.lt_of_lt_of_le hl hb.size, fun i hi => (hb.cell (p := ⟨b, _, none⟩) hl).trans (hc i hi)⟩, fun i hi => (h.at_ i hi).below hb⟩
end Go.Proofs.Ytcnekfpgoceblaa
/-
  A list of the call's own, that grows by append: its cells are slices, and they are numbers that lie elsewhere.
-/
namespace Go.Proofs.Ytcnekfpgoceblaa
open Go.RowKit
set_option linter.unusedVariables false
/-- The cells of slices. -/
def nslC (S : Nat → Nsl) (m : Nat) : List Value := (List.range m).map fun i => .slice (S i).A (S i).n (S i).c
theorem nslC_len (S : Nat → Nsl) (m : Nat) : (nslC S m).length = m := by simp [nslC]
theorem nslC_at {S : Nat → Nsl} {m i : Nat} (h : i < m) : (nslC S m)[i]? = some (.slice (S i).A (S i).n (S i).c) := by simp [nslC, h]
/-- One list behind another. -/
def joinS (S U : Nat → Nsl) (m : Nat) : Nat → Nsl := fun i => if i < m then S i else U (i - m)
theorem joinS_lt {S U : Nat → Nsl} {m i : Nat} (h : i < m) : joinS S U m i = S i := if_pos h
theorem joinS_ge {S U : Nat → Nsl} {m i : Nat} : joinS S U m (m + i) = U i := by unfold joinS; rw [if_neg (by omega), Nat.add_sub_cancel_left]
theorem nslC_join (S U : Nat → Nsl) (m k : Nat) : nslC (joinS S U m) (m + k) = nslC S m ++ nslC U k := by
  refine List.ext_getElem? fun i => ?_
  rcases Nat.lt_or_ge i m with h | h
  · rw [List.getElem?_append_left (by rw [nslC_len]; exact h), nslC_at (by omega), nslC_at h, joinS_lt h]
  · rw [List.getElem?_append_right (by rw [nslC_len]; exact h), nslC_len]
    rcases Nat.lt_or_ge i (m + k) with h2 | h2
    · obtain ⟨j, rfl⟩ : ∃ j, i = m + j := ⟨i - m, by omega⟩
      rw [nslC_at h2, joinS_ge, Nat.add_sub_cancel_left, nslC_at (by omega)]
    · rw [List.getElem?_eq_none (by rw [nslC_len]; exact h2), List.getElem?_eq_none (by rw [nslC_len]; omega)]
/-- A list of the call's own, of k slices an element. -/
structure Owc (e : TypeId) (k : Nat) (w : World) (base : Nat) (v : Value) (n : Nat) (S : Nat → Nsl) : Prop where
  own : w.ownsRow base e k v n (nslC S (n * k))
  at_ : ∀ i, i < n * k → Nm w (S i).A (S i).n (S i).c (S i).N
  els : ∀ i, i < n * k → ∀ a, (S i).A = some a → 0 < (S i).n → v.ownBlock ≠ some a.block
theorem Nm.blk {w : World} {A : Option Addr} {n c : Nat} {N : Int} (h : Nm w A n c N) (hn : 0 < n) : ∀ a, A = some a → a.block < w.heap.size := fun a ha => by
  obtain ⟨xs, h1, -, -⟩ := h.ex
  obtain ⟨b, off, e, hb, -⟩ := h1.cells hn
  rw [e] at ha; injection ha with ha; subst ha; exact hb
/-- A number stays where what is turned is another block. -/
theorem Nm.grown {w w' : World} {row : Option Nat} {A : Option Addr} {n c : Nat} {N : Int} (h : Nm w A n c N) (hg : w.grownBy w' row) (hne : ∀ a, A = some a → 0 < n → row ≠ some a.block) : Nm w' A n c N := by
  obtain ⟨⟨xs, h1, h2, h3⟩, h4, h5, h6⟩ := h
  refine ⟨⟨xs, ?_, h2, h3⟩, h4, h5, h6⟩
  rcases Nat.eq_zero_or_pos n with g | g
  · subst g
    obtain rfl : xs = [] := List.eq_nil_of_length_eq_zero h1.len
    exact Rd.nil _ _ _
  · obtain ⟨b, off, e, hb, hc⟩ := h1.cells g
    exact ⟨h1.len, fun _ => ⟨b, off, e, Nat.lt_of_lt_of_le hb hg.size, fun j x hj => hg.cell (hc j x hj) (fun e2 => hne _ e g e2.symm)⟩⟩
section
variable {e : TypeId} {k : Nat} {w w' : World} {base : Nat} {v : Value} {n : Nat} {S U : Nat → Nsl}
theorem Owc.nil (e : TypeId) (k : Nat) (w : World) (base : Nat) (S : Nat → Nsl) : Owc e k w base (.slice none 0 0) 0 S :=
  ⟨by rw [Nat.zero_mul]; exact ⟨by simp [nslC], .inl ⟨rfl, rfl⟩⟩, fun i h => absurd h (by omega), fun i h => absurd h (by omega)⟩
theorem own_belowV {base : Nat} {Vs : List Value} (hb : Below w.heap.size w w') (h : w.ownsRow base e k v n Vs) : w'.ownsRow base e k v n Vs := by
  refine ⟨h.1, ?_⟩
  rcases h.2 with g | ⟨g, cap, cur, h1, h2, h3, h4⟩
  · exact .inl g
  · exact .inr ⟨g, cap, cur, h1, h2, (hb.block g (Array.getElem?_eq_some_iff.1 h3).1).trans h3, h4⟩
theorem Owc.below (h : Owc e k w base v n S) (hb : Below w.heap.size w w') : Owc e k w' base v n S :=
  ⟨own_belowV hb h.own, fun i hi => (h.at_ i hi).below hb, h.els⟩
theorem Owc.lt (h : Owc e k w base v n S) {g : Nat} (hg : v.ownBlock = some g) : base ≤ g ∧ g < w.heap.size := by
  rcases h.own.2 with ⟨rfl, -⟩ | ⟨g', cap, cur, rfl, h2, h3, -⟩
  · cases hg
  · injection hg with hg; subst hg; exact ⟨h2, (Array.getElem?_eq_some_iff.1 h3).1⟩
/-- What is newer than the list lies elsewhere. -/
theorem Owc.far (h : Owc e k w base v n S) {b : Nat} (hb : w.heap.size ≤ b) : v.ownBlock ≠ some b := fun e => by have := (h.lt e).2; omega
/-- What is older than the list lies elsewhere. -/
theorem Owc.old (h : Owc e k w base v n S) {b : Nat} (hb : b < base) : v.ownBlock ≠ some b := fun e => by have := (h.lt e).1; omega
theorem Owc.form (h : Owc e k w base v n S) : ∃ A c, v = .slice A n c ∧ n ≤ c ∧ (∀ a, A = some a → base ≤ a.block) ∧ (0 < n → ∃ g, A = some ⟨g, 0, none⟩ ∧ g < w.heap.size ∧ ∀ i, i < n * k → w.cell? ⟨g, i, none⟩ = some (.slice (S i).A (S i).n (S i).c)) := by
  rcases h.own.2 with ⟨rfl, rfl⟩ | ⟨g, cap, cur, rfl, h2, h3, h4, h5, h6, h7⟩
  · exact ⟨none, 0, rfl, Nat.le_refl _, fun a ha => (by cases ha), fun h => absurd h (by omega)⟩
  · refine ⟨_, cap, rfl, h4, fun a ha => by injection ha with ha; subst ha; exact h2, fun hn => ⟨g, rfl, (Array.getElem?_eq_some_iff.1 h3).1, fun i hi => ?_⟩⟩
    have hc := h.own.cells (g := g) rfl i _ (nslC_at hi)
    have ea : (⟨g, 0, none⟩ : Addr).add i = ⟨g, i, none⟩ := by
      unfold Addr.add; split
      · rename_i h0; subst h0; rfl
      · rw [Nat.zero_add]
    rw [ea] at hc
    exact hc
/-- As a list of numbers. -/
theorem Owc.ns (h : Owc e 1 w base v n S) (h60 : n ≤ 17592186044416) : ∃ A c, v = .slice A n c ∧ (∀ a, A = some a → base ≤ a.block) ∧ Ns w A n c S := by
  obtain ⟨A, c, rfl, hnc, hb, hc⟩ := h.form
  refine ⟨A, c, rfl, hb, hnc, h60, fun hn => ?_, fun i hi => h.at_ i (by omega)⟩
  obtain ⟨g, eg, hl, hx⟩ := hc hn
  exact ⟨g, 0, eg, hl, fun i hi => by rw [Nat.zero_add]; exact hx i (by omega)⟩
/-- As a letter. -/
def stpS (S : Nat → Nsl) (j : Nat) : Stp := ⟨(S (j * 3)).A, (S (j * 3)).n, (S (j * 3)).c, (S (j * 3 + 1)).A, (S (j * 3 + 1)).n, (S (j * 3 + 1)).c, (S (j * 3 + 2)).A, (S (j * 3 + 2)).n, (S (j * 3 + 2)).c, (S (j * 3)).N, (S (j * 3 + 1)).N, (S (j * 3 + 2)).N⟩
theorem Owc.ch (h : Owc e 3 w base v n S) (h60 : n ≤ 17592186044416) : ∃ A c, v = .slice A n c ∧ (∀ a, A = some a → base ≤ a.block) ∧ Ch w A n c (stpS S) := by
  obtain ⟨A, c, rfl, hnc, hb, hc⟩ := h.form
  refine ⟨A, c, rfl, hb, hnc, h60, fun hn => ?_, fun i hi => ⟨h.at_ (i * 3) (by omega), h.at_ (i * 3 + 1) (by omega), h.at_ (i * 3 + 2) (by omega)⟩⟩
  obtain ⟨g, eg, hl, hx⟩ := hc hn
  exact ⟨g, 0, eg, hl, fun i hi => ⟨by rw [Nat.zero_add]; exact hx (i * 3) (by omega), by rw [Nat.zero_add]; exact hx (i * 3 + 1) (by omega), by rw [Nat.zero_add]; exact hx (i * 3 + 2) (by omega)⟩⟩
end
section
variable {P : Program} {w : World}
/-- Some elements more. -/
theorem wpList_owc {ops : Array Oper} {rest : List Oper} {o : Oper} {a : Act} {Q : Exit → Act → World → Prop} (hgd : o.guard = none) (s x : Operand) (t : TypeId)
    (ho : o.op = .call { callee := .builtin .append, args := #[s, x], argTypes := #[t, t] })
    (base : Nat) (e : TypeId) (k by' : Nat) (z : Value) (ht : P.underlying t = some (.slice e)) (hi : (P.info? e).map (fun i => (i.zero, i.size, i.bytes)) = some (some z, k, by')) (hz : z.cells.size = k) (hk : 0 < k)
    (v : Value) (n m cm : Nat) (S U : Nat → Nsl) (hs : a.eval s = v) (hown : Owc e k w base v n S)
    (g : Nat) (hx : a.eval x = .slice (some ⟨g, 0, none⟩) m cm) (hc : ∀ i, i < m * k → w.cell? ⟨g, i, none⟩ = some (.slice (U i).A (U i).n (U i).c)) (hU : ∀ i, i < m * k → Nm w (U i).A (U i).n (U i).c (U i).N)
    (hf : ∀ i, i < m * k → ∀ a, (U i).A = some a → 0 < (U i).n → v.ownBlock ≠ some a.block) (hm : 0 < m) (h63 : n + m ≤ maxLen) (hbytes : (n + m) * by' ≤ 140737488355328) (hbase : base ≤ w.heap.size)
    (h : ∀ v' w', Owc e k w' base v' (n + m) (joinS S U (n * k)) → w.grownBy w' v.ownBlock → wpList P ops Q rest (a.put o.dst v') w') : wpList P ops Q (o :: rest) a w := by
  obtain ⟨i0, h1, h2, h3, h4⟩ := info_parts hi
  have key : ∀ i, i < (n + m) * k → Nm w (joinS S U (n * k) i).A (joinS S U (n * k) i).n (joinS S U (n * k) i).c (joinS S U (n * k) i).N ∧ ∀ a, (joinS S U (n * k) i).A = some a → 0 < (joinS S U (n * k) i).n → v.ownBlock ≠ some a.block := by
    intro i hi
    rw [Nat.add_mul] at hi
    rcases Nat.lt_or_ge i (n * k) with g | g
    · rw [joinS_lt g]; exact ⟨hown.at_ i g, hown.els i g⟩
    · obtain ⟨j, rfl⟩ : ∃ j, i = n * k + j := ⟨i - n * k, by omega⟩
      rw [joinS_ge]; exact ⟨hU j (by omega), hf j (by omega)⟩
  refine wpList_append_lies w hgd s x t ho base e i0 z k by' ht h1 h2 h3 h4 hz hk v n (nslC S (n * k)) hs hown.own ⟨g, 0, none⟩ m cm (nslC U (m * k)) hx (by rw [nslC_len]) ?_ ?_ hm h63 hbytes hbase w.heap.size rfl (fun g' cap w' a1 a2 a3 a4 => ?_)
  · intro j u hj
    rcases Nat.lt_or_ge j (m * k) with q | q
    · rw [nslC_at q] at hj; injection hj with hj; subst hj
      have ea : (⟨g, 0, none⟩ : Addr).add j = ⟨g, j, none⟩ := by
        unfold Addr.add; split
        · rename_i h0; subst h0; rfl
        · rw [Nat.zero_add]
      rw [ea]; exact hc j q
    · rw [List.getElem?_eq_none (by rw [nslC_len]; exact q)] at hj; cases hj
  · intro u hu
    obtain ⟨i, -, rfl⟩ := List.mem_map.1 hu
    rfl
  · refine h _ w' ⟨?_, fun i hi => (key i hi).1.grown a2 (key i hi).2, fun i hi a' ha h0 e2 => ?_⟩ a2
    · rw [Nat.add_mul, nslC_join]; exact a1
    · injection e2 with e2
      rcases a3 with q | q
      · exact (key i hi).2 a' ha h0 (q.trans (congrArg some e2))
      · have := (key i hi).1.blk h0 a' ha
        have e3 : g' = a'.block := e2
        omega
/-- The same, at a step of a region that draws its order. -/
theorem step_owc {ops : Array Oper} {o : Oper} {a : Act} {K : Act → World → Prop} {Q : Exit → Act → World → Prop} {E : Prop} (hgd : o.guard = none) (s x : Operand) (t : TypeId)
    (ho : o.op = .call { callee := .builtin .append, args := #[s, x], argTypes := #[t, t] })
    (base : Nat) (e : TypeId) (k by' : Nat) (z : Value) (ht : P.underlying t = some (.slice e)) (hi : (P.info? e).map (fun i => (i.zero, i.size, i.bytes)) = some (some z, k, by')) (hz : z.cells.size = k) (hk : 0 < k)
    (v : Value) (n m cm : Nat) (S U : Nat → Nsl) (hs : a.eval s = v) (hown : Owc e k w base v n S)
    (g : Nat) (hx : a.eval x = .slice (some ⟨g, 0, none⟩) m cm) (hc : ∀ i, i < m * k → w.cell? ⟨g, i, none⟩ = some (.slice (U i).A (U i).n (U i).c)) (hU : ∀ i, i < m * k → Nm w (U i).A (U i).n (U i).c (U i).N)
    (hf : ∀ i, i < m * k → ∀ a, (U i).A = some a → 0 < (U i).n → v.ownBlock ≠ some a.block) (hm : 0 < m) (h63 : n + m ≤ maxLen) (hbytes : (n + m) * by' ≤ 140737488355328) (hbase : base ≤ w.heap.size)
    (h : ∀ v' w', Owc e k w' base v' (n + m) (joinS S U (n * k)) → w.grownBy w' v.ownBlock → K (a.put o.dst v') w') : if Region.wanted o (yielded ops a.tmps) = true then Oper.wp P o a w K Q else E := by
  obtain ⟨i0, h1, h2, h3, h4⟩ := info_parts hi
  have key : ∀ i, i < (n + m) * k → Nm w (joinS S U (n * k) i).A (joinS S U (n * k) i).n (joinS S U (n * k) i).c (joinS S U (n * k) i).N ∧ ∀ a, (joinS S U (n * k) i).A = some a → 0 < (joinS S U (n * k) i).n → v.ownBlock ≠ some a.block := by
    intro i hi
    rw [Nat.add_mul] at hi
    rcases Nat.lt_or_ge i (n * k) with g | g
    · rw [joinS_lt g]; exact ⟨hown.at_ i g, hown.els i g⟩
    · obtain ⟨j, rfl⟩ : ∃ j, i = n * k + j := ⟨i - n * k, by omega⟩
      rw [joinS_ge]; exact ⟨hU j (by omega), hf j (by omega)⟩
  refine step_append_lies w hgd s x t ho base e i0 z k by' ht h1 h2 h3 h4 hz hk v n (nslC S (n * k)) hs hown.own ⟨g, 0, none⟩ m cm (nslC U (m * k)) hx (by rw [nslC_len]) ?_ ?_ hm h63 hbytes hbase w.heap.size rfl (fun g' cap w' a1 a2 a3 a4 => ?_)
  · intro j u hj
    rcases Nat.lt_or_ge j (m * k) with q | q
    · rw [nslC_at q] at hj; injection hj with hj; subst hj
      have ea : (⟨g, 0, none⟩ : Addr).add j = ⟨g, j, none⟩ := by
        unfold Addr.add; split
        · rename_i h0; subst h0; rfl
        · rw [Nat.zero_add]
      rw [ea]; exact hc j q
    · rw [List.getElem?_eq_none (by rw [nslC_len]; exact q)] at hj; cases hj
  · intro u hu
    obtain ⟨i, -, rfl⟩ := List.mem_map.1 hu
    rfl
  · refine h _ w' ⟨?_, fun i hi => (key i hi).1.grown a2 (key i hi).2, fun i hi a' ha h0 e2 => ?_⟩ a2
    · rw [Nat.add_mul, nslC_join]; exact a1
    · injection e2 with e2
      rcases a3 with q | q
      · exact (key i hi).2 a' ha h0 (q.trans (congrArg some e2))
      · have := (key i hi).1.blk h0 a' ha
        have e3 : g' = a'.block := e2
        omega
end
end Go.Proofs.Ytcnekfpgoceblaa
/-
  A list of the call's own, that grows by append: its cells are slices of things that lie elsewhere (letters, lists of numbers).
-/
namespace Go.Proofs.Ytcnekfpgoceblaa
open Go.RowKit
set_option linter.unusedVariables false
/-- A kind of thing that a slice reads as: its value, that it lies in memory, and in which blocks. -/
structure Kd (κ : Type) where
  v : κ → Value
  At : World → κ → Prop
  Bl : κ → Nat → Prop
  one : ∀ s, (v s).oneCell' = true
  lt : ∀ {w : World} {s : κ} {b : Nat}, At w s → Bl s b → b < w.heap.size
  stay : ∀ {w w' : World} {s : κ}, At w s → w.heap.size ≤ w'.heap.size → (∀ b, Bl s b → w'.heap[b]? = w.heap[b]?) → At w' s
/-! ### The blocks of numbers, letters, lists -/
def BlN (A : Option Addr) (n b : Nat) : Prop := ∃ a, A = some a ∧ 0 < n ∧ a.block = b
theorem Nm.stay {w w' : World} {A : Option Addr} {n c : Nat} {N : Int} (h : Nm w A n c N) (hs : w.heap.size ≤ w'.heap.size) (hb : ∀ b, BlN A n b → w'.heap[b]? = w.heap[b]?) : Nm w' A n c N := by
  obtain ⟨⟨xs, h1, h2, h3⟩, h4, h5, h6⟩ := h
  refine ⟨⟨xs, ⟨h1.len, fun hn => ?_⟩, h2, h3⟩, h4, h5, h6⟩
  obtain ⟨b, off, e, hl, hc⟩ := h1.cells hn
  exact ⟨b, off, e, Nat.lt_of_lt_of_le hl hs, fun j x hj => (World.cell?_of_block (a := ⟨b, off + j, none⟩) (hb b ⟨_, e, hn, rfl⟩)).trans (hc j x hj)⟩
theorem Nm.blt {w : World} {A : Option Addr} {n c : Nat} {N : Int} (h : Nm w A n c N) {b : Nat} (hb : BlN A n b) : b < w.heap.size := by
  obtain ⟨a, e, hn, rfl⟩ := hb
  exact h.blk hn a e
def BlS (s : Rsl) (b : Nat) : Prop := BlN s.A s.n b ∨ ∃ i, i < s.n ∧ BlN (s.S i).A (s.S i).n b
theorem Ns.stay {w w' : World} {A : Option Addr} {n c : Nat} {S : Nat → Nsl} (h : Ns w A n c S) (hs : w.heap.size ≤ w'.heap.size) (hb : ∀ b, BlS ⟨A, n, c, S⟩ b → w'.heap[b]? = w.heap[b]?) : Ns w' A n c S := by
  refine ⟨h.nc, h.c60, fun hn => ?_, fun i hi => (h.at_ i hi).stay hs fun b g => hb b (.inr ⟨i, hi, g⟩)⟩
  obtain ⟨b, off, e, hl, hc⟩ := h.ex hn
  exact ⟨b, off, e, Nat.lt_of_lt_of_le hl hs, fun i hi => (World.cell?_of_block (a := ⟨b, off + i, none⟩) (hb b (.inl ⟨_, e, hn, rfl⟩))).trans (hc i hi)⟩
theorem Ns.blt {w : World} {A : Option Addr} {n c : Nat} {S : Nat → Nsl} (h : Ns w A n c S) {b : Nat} (hb : BlS ⟨A, n, c, S⟩ b) : b < w.heap.size := by
  rcases hb with ⟨a, e, hn, rfl⟩ | ⟨i, hi, g⟩
  · obtain ⟨b, off, e2, hl, -⟩ := h.ex hn
    simp only at e
    rw [e2] at e
    injection e with e
    rw [← e]
    exact hl
  · exact (h.at_ i hi).blt g
/-- Lists of numbers. -/
def kNs : Kd Rsl := ⟨fun s => .slice s.A s.n s.c, fun w s => Ns w s.A s.n s.c s.S, BlS, fun _ => rfl, fun h g => Ns.blt h g, fun h hs g => Ns.stay h hs g⟩
def BlL (s : Lsl) (b : Nat) : Prop := BlN s.A s.n b ∨ ∃ i, i < s.n ∧ (BlN (s.S i).A1 (s.S i).n1 b ∨ BlN (s.S i).A2 (s.S i).n2 b ∨ BlN (s.S i).A3 (s.S i).n3 b)
theorem Ch.stay {w w' : World} {A : Option Addr} {n c : Nat} {S : Nat → Stp} (h : Ch w A n c S) (hs : w.heap.size ≤ w'.heap.size) (hb : ∀ b, BlL ⟨A, n, c, S⟩ b → w'.heap[b]? = w.heap[b]?) : Ch w' A n c S := by
  refine ⟨h.nc, h.c60, fun hn => ?_, fun i hi => ⟨(h.at_ i hi).p.stay hs fun b g => hb b (.inr ⟨i, hi, .inl g⟩), (h.at_ i hi).q.stay hs fun b g => hb b (.inr ⟨i, hi, .inr (.inl g)⟩), (h.at_ i hi).a.stay hs fun b g => hb b (.inr ⟨i, hi, .inr (.inr g)⟩)⟩⟩
  obtain ⟨b, off, e, hl, hc⟩ := h.ex hn
  have hk : ∀ o, w'.cell? ⟨b, o, none⟩ = w.cell? ⟨b, o, none⟩ := fun o => World.cell?_of_block (a := ⟨b, o, none⟩) (hb b (.inl ⟨_, e, hn, rfl⟩))
  exact ⟨b, off, e, Nat.lt_of_lt_of_le hl hs, fun i hi => ⟨(hk _).trans (hc i hi).c0, (hk _).trans (hc i hi).c1, (hk _).trans (hc i hi).c2⟩⟩
theorem Ch.blt {w : World} {A : Option Addr} {n c : Nat} {S : Nat → Stp} (h : Ch w A n c S) {b : Nat} (hb : BlL ⟨A, n, c, S⟩ b) : b < w.heap.size := by
  rcases hb with ⟨a, e, hn, rfl⟩ | ⟨i, hi, g⟩
  · obtain ⟨b, off, e2, hl, -⟩ := h.ex hn
    simp only at e
    rw [e2] at e
    injection e with e
    rw [← e]
    exact hl
  · rcases g with g | g | g
    · exact (h.at_ i hi).p.blt g
    · exact (h.at_ i hi).q.blt g
    · exact (h.at_ i hi).a.blt g
/-- Letters. -/
def kCh : Kd Lsl := ⟨fun s => .slice s.A s.n s.c, fun w s => Ch w s.A s.n s.c s.S, BlL, fun _ => rfl, fun h g => Ch.blt h g, fun h hs g => Ch.stay h hs g⟩
/-! ### The list -/
section
variable {κ : Type}
/-- One more behind. -/
def snocG (S : Nat → κ) (n : Nat) (s : κ) : Nat → κ := fun i => if i < n then S i else s
theorem snocG_lt {S : Nat → κ} {n i : Nat} {s : κ} (h : i < n) : snocG S n s i = S i := if_pos h
theorem snocG_at {S : Nat → κ} {n : Nat} {s : κ} : snocG S n s n = s := if_neg (Nat.lt_irrefl n)
def owgC (K : Kd κ) (S : Nat → κ) (n : Nat) : List Value := (List.range n).map fun i => K.v (S i)
theorem owgC_len {K : Kd κ} {S : Nat → κ} {n : Nat} : (owgC K S n).length = n := by simp [owgC]
theorem owgC_at {K : Kd κ} {S : Nat → κ} {n i : Nat} (h : i < n) : (owgC K S n)[i]? = some (K.v (S i)) := by simp [owgC, h]
theorem owgC_snoc {K : Kd κ} {S : Nat → κ} {n : Nat} {s : κ} : owgC K (snocG S n s) (n + 1) = owgC K S n ++ [K.v s] := by
  unfold owgC
  rw [List.range_succ, List.map_append]
  congr 1
  · exact List.map_congr_left fun i hi => by rw [snocG_lt (List.mem_range.1 hi)]
  · simp only [List.map_cons, List.map_nil, snocG_at]
/-- A list of the call's own. -/
structure Owg (K : Kd κ) (e : TypeId) (w : World) (base : Nat) (v : Value) (n : Nat) (S : Nat → κ) : Prop where
  own : w.ownsRow base e 1 v n (owgC K S n)
  at_ : ∀ i, i < n → K.At w (S i)
  els : ∀ i, i < n → ∀ b, K.Bl (S i) b → v.ownBlock ≠ some b
variable {K : Kd κ} {e : TypeId} {w w' : World} {base : Nat} {v : Value} {n : Nat} {S : Nat → κ}
theorem Owg.nil (K : Kd κ) (e : TypeId) (w : World) (base : Nat) (S : Nat → κ) : Owg K e w base (.slice none 0 0) 0 S :=
  ⟨⟨by simp [owgC], .inl ⟨rfl, rfl⟩⟩, fun i h => absurd h (by omega), fun i h => absurd h (by omega)⟩
theorem Owg.below (h : Owg K e w base v n S) (hb : Below w.heap.size w w') : Owg K e w' base v n S :=
  ⟨own_belowV hb h.own, fun i hi => K.stay (h.at_ i hi) hb.size fun b g => hb.block b (K.lt (h.at_ i hi) g), h.els⟩
theorem Owg.lt (h : Owg K e w base v n S) {g : Nat} (hg : v.ownBlock = some g) : base ≤ g ∧ g < w.heap.size := by
  rcases h.own.2 with ⟨rfl, -⟩ | ⟨g', cap, cur, rfl, h2, h3, -⟩
  · cases hg
  · injection hg with hg; subst hg; exact ⟨h2, (Array.getElem?_eq_some_iff.1 h3).1⟩
/-- What is newer than the list lies elsewhere. -/
theorem Owg.far (h : Owg K e w base v n S) {b : Nat} (hb : w.heap.size ≤ b) : v.ownBlock ≠ some b := fun e => by have := (h.lt e).2; omega
/-- What is older than the list lies elsewhere. -/
theorem Owg.old (h : Owg K e w base v n S) {b : Nat} (hb : b < base) : v.ownBlock ≠ some b := fun e => by have := (h.lt e).1; omega
/-- It stays where another block is turned, that none of its things lie in. -/
theorem Owg.grown (h : Owg K e w base v n S) {row : Option Nat} (hg : w.grownBy w' row) (hv : v.ownBlock = none ∨ v.ownBlock ≠ row) (hne : ∀ i, i < n → ∀ b, K.Bl (S i) b → row ≠ some b) : Owg K e w' base v n S :=
  ⟨h.own.kept hg hv, fun i hi => K.stay (h.at_ i hi) hg.size fun b g => hg.block b (K.lt (h.at_ i hi) g) (fun e => hne i hi b g e.symm), h.els⟩
theorem Owg.form (h : Owg K e w base v n S) : ∃ A c, v = .slice A n c ∧ n ≤ c ∧ (∀ a, A = some a → base ≤ a.block) ∧ (0 < n → ∃ g, A = some ⟨g, 0, none⟩ ∧ g < w.heap.size ∧ ∀ i, i < n → w.cell? ⟨g, i, none⟩ = some (K.v (S i))) := by
  rcases h.own.2 with ⟨rfl, rfl⟩ | ⟨g, cap, cur, rfl, h2, h3, h4, h5, h6, h7⟩
  · exact ⟨none, 0, rfl, Nat.le_refl _, fun a ha => (by cases ha), fun h => absurd h (by omega)⟩
  · refine ⟨_, cap, rfl, h4, fun a ha => by injection ha with ha; subst ha; exact h2, fun hn => ⟨g, rfl, (Array.getElem?_eq_some_iff.1 h3).1, fun i hi => ?_⟩⟩
    have hc := h.own.cells (g := g) rfl i _ (owgC_at hi)
    have ea : (⟨g, 0, none⟩ : Addr).add i = ⟨g, i, none⟩ := by
      unfold Addr.add; split
      · rename_i h0; subst h0; rfl
      · rw [Nat.zero_add]
    rw [ea] at hc
    exact hc
end
theorem Owg.bat {e : TypeId} {w : World} {base : Nat} {v : Value} {n : Nat} {S : Nat → Lsl} (h : Owg kCh e w base v n S) (h60 : n ≤ 17592186044416) : ∃ A c, v = .slice A n c ∧ (∀ a, A = some a → base ≤ a.block) ∧ Bat w A n c S := by
  obtain ⟨A, c, rfl, hnc, hb, hc⟩ := h.form
  refine ⟨A, c, rfl, hb, hnc, h60, fun hn => ?_, fun i hi => h.at_ i hi⟩
  obtain ⟨g, eg, hl, hx⟩ := hc hn
  exact ⟨g, 0, eg, hl, fun i hi => by rw [Nat.zero_add]; exact hx i hi⟩
theorem Owg.rls {e : TypeId} {w : World} {base : Nat} {v : Value} {n : Nat} {S : Nat → Rsl} (h : Owg kNs e w base v n S) (h60 : n ≤ 17592186044416) : ∃ A c, v = .slice A n c ∧ (∀ a, A = some a → base ≤ a.block) ∧ Rls w A n c S := by
  obtain ⟨A, c, rfl, hnc, hb, hc⟩ := h.form
  refine ⟨A, c, rfl, hb, hnc, h60, fun hn => ?_, fun i hi => h.at_ i hi⟩
  obtain ⟨g, eg, hl, hx⟩ := hc hn
  exact ⟨g, 0, eg, hl, fun i hi => by rw [Nat.zero_add]; exact hx i hi⟩
section
variable {κ : Type} {K : Kd κ} {P : Program} {w : World}
/-- What is left to show of an append. -/
theorem owg_next {e : TypeId} {base : Nat} {v : Value} {n : Nat} {S : Nat → κ} {s : κ} (hown : Owg K e w base v n S) (hU : K.At w s) (hf : ∀ b, K.Bl s b → v.ownBlock ≠ some b)
    {g' cap : Nat} {w' : World} (a1 : w'.ownsRow base e 1 (.slice (some ⟨g', 0, none⟩) (n + 1) cap) (n + 1) (owgC K S n ++ [K.v s])) (a2 : w.grownBy w' v.ownBlock) (a3 : v.ownBlock = some g' ∨ g' = w.heap.size) :
    Owg K e w' base (.slice (some ⟨g', 0, none⟩) (n + 1) cap) (n + 1) (snocG S n s) := by
  have key : ∀ i, i < n + 1 → K.At w (snocG S n s i) ∧ ∀ b, K.Bl (snocG S n s i) b → v.ownBlock ≠ some b := by
    intro i hi
    rcases Nat.lt_or_ge i n with g | g
    · rw [snocG_lt g]; exact ⟨hown.at_ i g, hown.els i g⟩
    · obtain rfl : i = n := by omega
      rw [snocG_at]; exact ⟨hU, hf⟩
  refine ⟨by rw [owgC_snoc]; exact a1, fun i hi => K.stay (key i hi).1 a2.size fun b hb => a2.block b (K.lt (key i hi).1 hb) (fun e => (key i hi).2 b hb e.symm), fun i hi b hb e2 => ?_⟩
  have e3 : g' = b := by injection e2
  rcases a3 with q | q
  · exact (key i hi).2 b hb (by rw [q, e3])
  · have := K.lt (key i hi).1 hb; omega
theorem one_news {g : Nat} {u : Value} (hc : w.cell? ⟨g, 0, none⟩ = some u) : ∀ j x, [u][j]? = some x → w.cell? ((⟨g, 0, none⟩ : Addr).add j) = some x := by
  intro j x hj
  match j, hj with
  | 0, hj =>
    injection hj with hj
    subst hj
    have ea : (⟨g, 0, none⟩ : Addr).add 0 = ⟨g, 0, none⟩ := by
      unfold Addr.add; split
      · rfl
      · rfl
    rw [ea]
    exact hc
/-- One element more. -/
theorem wpList_owg {ops : Array Oper} {rest : List Oper} {o : Oper} {a : Act} {Q : Exit → Act → World → Prop} (hgd : o.guard = none) (s0 x : Operand) (t : TypeId)
    (ho : o.op = .call { callee := .builtin .append, args := #[s0, x], argTypes := #[t, t] })
    (base : Nat) (e : TypeId) (by' : Nat) (z : Value) (ht : P.underlying t = some (.slice e)) (hi : (P.info? e).map (fun i => (i.zero, i.size, i.bytes)) = some (some z, 1, by')) (hz : z.cells.size = 1)
    (v : Value) (n cm : Nat) (S : Nat → κ) (s : κ) (hs : a.eval s0 = v) (hown : Owg K e w base v n S)
    (g : Nat) (hx : a.eval x = .slice (some ⟨g, 0, none⟩) 1 cm) (hc : w.cell? ⟨g, 0, none⟩ = some (K.v s)) (hU : K.At w s)
    (hf : ∀ b, K.Bl s b → v.ownBlock ≠ some b) (h63 : n + 1 ≤ maxLen) (hbytes : (n + 1) * by' ≤ 140737488355328) (hbase : base ≤ w.heap.size)
    (h : ∀ v' w', Owg K e w' base v' (n + 1) (snocG S n s) → w.grownBy w' v.ownBlock → wpList P ops Q rest (a.put o.dst v') w') : wpList P ops Q (o :: rest) a w := by
  obtain ⟨i0, h1, h2, h3, h4⟩ := info_parts hi
  exact wpList_append_lies w hgd s0 x t ho base e i0 z 1 by' ht h1 h2 h3 h4 hz (by decide) v n (owgC K S n) hs hown.own ⟨g, 0, none⟩ 1 cm [K.v s] hx rfl (one_news hc) (fun u hu => by rw [List.mem_singleton] at hu; subst hu; exact K.one s) (by decide) h63 hbytes hbase w.heap.size rfl
    (fun g' cap w' a1 a2 a3 a4 => h _ w' (owg_next hown hU hf a1 a2 a3) a2)
/-- The same, at a step of a region that draws its order. -/
theorem step_owg {ops : Array Oper} {o : Oper} {a : Act} {K' : Act → World → Prop} {Q : Exit → Act → World → Prop} {E : Prop} (hgd : o.guard = none) (s0 x : Operand) (t : TypeId)
    (ho : o.op = .call { callee := .builtin .append, args := #[s0, x], argTypes := #[t, t] })
    (base : Nat) (e : TypeId) (by' : Nat) (z : Value) (ht : P.underlying t = some (.slice e)) (hi : (P.info? e).map (fun i => (i.zero, i.size, i.bytes)) = some (some z, 1, by')) (hz : z.cells.size = 1)
    (v : Value) (n cm : Nat) (S : Nat → κ) (s : κ) (hs : a.eval s0 = v) (hown : Owg K e w base v n S)
    (g : Nat) (hx : a.eval x = .slice (some ⟨g, 0, none⟩) 1 cm) (hc : w.cell? ⟨g, 0, none⟩ = some (K.v s)) (hU : K.At w s)
    (hf : ∀ b, K.Bl s b → v.ownBlock ≠ some b) (h63 : n + 1 ≤ maxLen) (hbytes : (n + 1) * by' ≤ 140737488355328) (hbase : base ≤ w.heap.size)
    (h : ∀ v' w', Owg K e w' base v' (n + 1) (snocG S n s) → w.grownBy w' v.ownBlock → K' (a.put o.dst v') w') : if Region.wanted o (yielded ops a.tmps) = true then Oper.wp P o a w K' Q else E := by
  obtain ⟨i0, h1, h2, h3, h4⟩ := info_parts hi
  exact step_append_lies w hgd s0 x t ho base e i0 z 1 by' ht h1 h2 h3 h4 hz (by decide) v n (owgC K S n) hs hown.own ⟨g, 0, none⟩ 1 cm [K.v s] hx rfl (one_news hc) (fun u hu => by rw [List.mem_singleton] at hu; subst hu; exact K.one s) (by decide) h63 hbytes hbase w.heap.size rfl
    (fun g' cap w' a1 a2 a3 a4 => h _ w' (owg_next hown hU hf a1 a2 a3) a2)
end
/-! ### Several lists side by side: a colour for each block: 0, or which list's row it is -/
/-- Blocks that are yet to come have no colour. -/
def Col (w : World) (c : Nat → Nat) : Prop := ∀ b, w.heap.size ≤ b → c b = 0
theorem Col.below {w w' : World} {c : Nat → Nat} (h : Col w c) (hb : w.heap.size ≤ w'.heap.size) : Col w' c := fun b g => h b (Nat.le_trans hb g)
theorem Col.none (w : World) : Col w (fun _ => 0) := fun _ _ => rfl
/-- Two colourings are the same on what is there. -/
def SameC (w : World) (c c' : Nat → Nat) : Prop := ∀ b, b < w.heap.size → c' b = c b
structure Lst {κ : Type} (K : Kd κ) (e : TypeId) (k : Nat) (c : Nat → Nat) (w : World) (base : Nat) (v : Value) (n : Nat) (S : Nat → κ) : Prop where
  l : Owg K e w base v n S
  row : ∀ g, v.ownBlock = some g → c g = k
  con : ∀ i, i < n → ∀ b, K.Bl (S i) b → c b = 0
section
variable {κ : Type} {K : Kd κ} {e : TypeId} {k : Nat} {c c' : Nat → Nat} {w w' : World} {base : Nat} {v : Value} {n : Nat} {S : Nat → κ}
theorem Lst.nil (K : Kd κ) (e : TypeId) (k : Nat) (c : Nat → Nat) (w : World) (base : Nat) (S : Nat → κ) : Lst K e k c w base (.slice none 0 0) 0 S :=
  ⟨Owg.nil K e w base S, fun g h => (by cases h), fun i h => absurd h (Nat.not_lt_zero i)⟩
theorem Lst.below (h : Lst K e k c w base v n S) (hb : Below w.heap.size w w') : Lst K e k c w' base v n S := ⟨h.l.below hb, h.row, h.con⟩
/-- Another list's row was turned. -/
theorem Lst.other (h : Lst K e k c w base v n S) {v2 : Value} {k2 : Nat} (hg : w.grownBy w' v2.ownBlock) (h2 : ∀ g, v2.ownBlock = some g → c g = k2) (hk : k ≠ k2) (h0 : k2 ≠ 0) (hs : SameC w c c') : Lst K e k c' w' base v n S := by
  refine ⟨h.l.grown hg ?_ (fun i hi b hb q => ?_), fun g q => by rw [hs g (h.l.lt q).2]; exact h.row g q, fun i hi b hb => by rw [hs b (K.lt (h.l.at_ i hi) hb)]; exact h.con i hi b hb⟩
  · cases hv : v.ownBlock with
    | none => exact .inl rfl
    | some g =>
      right
      intro q
      have h1 := h.row g hv
      have h3 := h2 g q.symm
      omega
  · have h1 := h2 b q
    have h3 := h.con i hi b hb
    omega
end
section
variable {κ : Type} {K : Kd κ} {P : Program} {w : World}
theorem lst_next {e : TypeId} {k : Nat} {c : Nat → Nat} {base : Nat} {v : Value} {n : Nat} {S : Nat → κ} {s : κ} (h : Lst K e k c w base v n S) (hcol : Col w c) (hk : k ≠ 0) (hU : K.At w s) (hf : ∀ b, K.Bl s b → c b = 0)
    {g' cap : Nat} {w' : World} (a1 : w'.ownsRow base e 1 (.slice (some ⟨g', 0, none⟩) (n + 1) cap) (n + 1) (owgC K S n ++ [K.v s])) (a2 : w.grownBy w' v.ownBlock) (a3 : v.ownBlock = some g' ∨ g' = w.heap.size) (a4 : g' < w'.heap.size) :
    ∃ c', Lst K e k c' w' base (.slice (some ⟨g', 0, none⟩) (n + 1) cap) (n + 1) (snocG S n s) ∧ SameC w c c' ∧ Col w' c' := by
  have hff : ∀ b, K.Bl s b → v.ownBlock ≠ some b := fun b hb q => by have h1 := h.row b q; have h2 := hf b hb; omega
  have hs : SameC w c (fun b => if b = g' then k else c b) := fun b hb => by
    show (if b = g' then k else c b) = c b
    split
    · rename_i q
      subst q
      rcases a3 with q | q
      · exact (h.row _ q).symm
      · omega
    · rfl
  refine ⟨fun b => if b = g' then k else c b, ⟨owg_next h.l hU hff a1 a2 a3, fun g q => ?_, fun i hi b hb => ?_⟩, hs, fun b hb => ?_⟩
  · have e3 : g' = g := by injection q
    exact if_pos e3.symm
  · rcases Nat.lt_or_ge i n with g | g
    · rw [snocG_lt g] at hb
      exact (hs b (K.lt (h.l.at_ i g) hb)).trans (h.con i g b hb)
    · obtain rfl : i = n := by omega
      rw [snocG_at] at hb
      exact (hs b (K.lt hU hb)).trans (hf b hb)
  · show (if b = g' then k else c b) = 0
    rw [if_neg (by omega)]
    exact hcol b (Nat.le_trans a2.size hb)
/-- One element more. -/
theorem wpList_lst {ops : Array Oper} {rest : List Oper} {o : Oper} {a : Act} {Q : Exit → Act → World → Prop} (hgd : o.guard = none) (s0 x : Operand) (t : TypeId)
    (ho : o.op = .call { callee := .builtin .append, args := #[s0, x], argTypes := #[t, t] })
    (base : Nat) (e : TypeId) (by' : Nat) (z : Value) (ht : P.underlying t = some (.slice e)) (hi : (P.info? e).map (fun i => (i.zero, i.size, i.bytes)) = some (some z, 1, by')) (hz : z.cells.size = 1)
    (k : Nat) (c : Nat → Nat) (hk : k ≠ 0) (hcol : Col w c)
    (v : Value) (n cm : Nat) (S : Nat → κ) (s : κ) (hs : a.eval s0 = v) (hown : Lst K e k c w base v n S)
    (g : Nat) (hx : a.eval x = .slice (some ⟨g, 0, none⟩) 1 cm) (hc : w.cell? ⟨g, 0, none⟩ = some (K.v s)) (hU : K.At w s)
    (hf : ∀ b, K.Bl s b → c b = 0) (h63 : n + 1 ≤ maxLen) (hbytes : (n + 1) * by' ≤ 140737488355328) (hbase : base ≤ w.heap.size)
    (h : ∀ v' w' c', Lst K e k c' w' base v' (n + 1) (snocG S n s) → w.grownBy w' v.ownBlock → SameC w c c' → Col w' c' → wpList P ops Q rest (a.put o.dst v') w') : wpList P ops Q (o :: rest) a w := by
  obtain ⟨i0, h1, h2, h3, h4⟩ := info_parts hi
  exact wpList_append_lies w hgd s0 x t ho base e i0 z 1 by' ht h1 h2 h3 h4 hz (by decide) v n (owgC K S n) hs hown.l.own ⟨g, 0, none⟩ 1 cm [K.v s] hx rfl (one_news hc) (fun u hu => by rw [List.mem_singleton] at hu; subst hu; exact K.one s) (by decide) h63 hbytes hbase w.heap.size rfl
    (fun g' cap w' a1 a2 a3 a4 => by
      obtain ⟨c', b1, b2, b3⟩ := lst_next hown hcol hk hU hf a1 a2 a3 a4
      exact h _ w' c' b1 a2 b2 b3)
/-- The same, at a step of a region that draws its order. -/
theorem step_lst {ops : Array Oper} {o : Oper} {a : Act} {K' : Act → World → Prop} {Q : Exit → Act → World → Prop} {E : Prop} (hgd : o.guard = none) (s0 x : Operand) (t : TypeId)
    (ho : o.op = .call { callee := .builtin .append, args := #[s0, x], argTypes := #[t, t] })
    (base : Nat) (e : TypeId) (by' : Nat) (z : Value) (ht : P.underlying t = some (.slice e)) (hi : (P.info? e).map (fun i => (i.zero, i.size, i.bytes)) = some (some z, 1, by')) (hz : z.cells.size = 1)
    (k : Nat) (c : Nat → Nat) (hk : k ≠ 0) (hcol : Col w c)
    (v : Value) (n cm : Nat) (S : Nat → κ) (s : κ) (hs : a.eval s0 = v) (hown : Lst K e k c w base v n S)
    (g : Nat) (hx : a.eval x = .slice (some ⟨g, 0, none⟩) 1 cm) (hc : w.cell? ⟨g, 0, none⟩ = some (K.v s)) (hU : K.At w s)
    (hf : ∀ b, K.Bl s b → c b = 0) (h63 : n + 1 ≤ maxLen) (hbytes : (n + 1) * by' ≤ 140737488355328) (hbase : base ≤ w.heap.size)
    (h : ∀ v' w' c', Lst K e k c' w' base v' (n + 1) (snocG S n s) → w.grownBy w' v.ownBlock → SameC w c c' → Col w' c' → K' (a.put o.dst v') w') : if Region.wanted o (yielded ops a.tmps) = true then Oper.wp P o a w K' Q else E := by
  obtain ⟨i0, h1, h2, h3, h4⟩ := info_parts hi
  exact step_append_lies w hgd s0 x t ho base e i0 z 1 by' ht h1 h2 h3 h4 hz (by decide) v n (owgC K S n) hs hown.l.own ⟨g, 0, none⟩ 1 cm [K.v s] hx rfl (one_news hc) (fun u hu => by rw [List.mem_singleton] at hu; subst hu; exact K.one s) (by decide) h63 hbytes hbase w.heap.size rfl
    (fun g' cap w' a1 a2 a3 a4 => by
      obtain ⟨c', b1, b2, b3⟩ := lst_next hown hcol hk hU hf a1 a2 a3 a4
      exact h _ w' c' b1 a2 b2 b3)
end
/-! ### Whole numbers -/
def kInt : Kd Int := ⟨fun x => .int .i64 x, fun _ _ => True, fun _ _ => False, fun _ => rfl, fun _ h => h.elim, fun _ _ _ => trivial⟩
theorem Owg.ints {e : TypeId} {w : World} {base : Nat} {v : Value} {n : Nat} {S : Nat → Int} (h : Owg kInt e w base v n S) : ∃ A c, v = .slice A n c ∧ n ≤ c ∧ (∀ a, A = some a → base ≤ a.block) ∧ Rd .i64 w A n ((List.range n).map S) := by
  obtain ⟨A, c, rfl, hnc, hb, hc⟩ := h.form
  refine ⟨A, c, rfl, hnc, hb, by simp, fun hn => ?_⟩
  obtain ⟨g, eg, hl, hx⟩ := hc hn
  refine ⟨g, 0, eg, hl, fun j x hj => ?_⟩
  have hjn : j < n := by
    rcases Nat.lt_or_ge j n with q | q
    · exact q
    · rw [List.getElem?_eq_none (by simpa using q)] at hj; cases hj
  have e1 : S j = x := by simpa [hjn] using hj
  subst e1
  rw [Nat.zero_add]
  exact hx j hjn
end Go.Proofs.Ytcnekfpgoceblaa
/-
  A list of the call's own, that grows by append, whose elements have several cells each; shares.
-/
namespace Go.Proofs.Ytcnekfpgoceblaa
open Go.RowKit
set_option linter.unusedVariables false
/-- A kind of thing of k cells: its cells, that it lies in memory, and in which blocks what it points at lies. -/
structure Kk (κ : Type) (k : Nat) where
  v : κ → List Value
  At : World → κ → Prop
  Bl : κ → Nat → Prop
  len : ∀ s, (v s).length = k
  one : ∀ s, ∀ u ∈ v s, u.oneCell' = true
  lt : ∀ {w : World} {s : κ} {b : Nat}, At w s → Bl s b → b < w.heap.size
  stay : ∀ {w w' : World} {s : κ}, At w s → w.heap.size ≤ w'.heap.size → (∀ b, Bl s b → w'.heap[b]? = w.heap[b]?) → At w' s
section
variable {κ : Type} {k : Nat}
def owkC (K : Kk κ k) (S : Nat → κ) : Nat → List Value
  | 0 => []
  | n + 1 => owkC K S n ++ K.v (S n)
theorem owkC_len {K : Kk κ k} {S : Nat → κ} : ∀ n, (owkC K S n).length = n * k
  | 0 => by simp [owkC]
  | n + 1 => by rw [owkC, List.length_append, owkC_len n, K.len, Nat.add_mul, Nat.one_mul]
theorem owkC_congr {K : Kk κ k} {S T : Nat → κ} : ∀ n, (∀ i, i < n → S i = T i) → owkC K S n = owkC K T n
  | 0, _ => rfl
  | n + 1, h => by rw [owkC, owkC, owkC_congr n fun i hi => h i (by omega), h n (by omega)]
theorem owkC_snoc {K : Kk κ k} {S : Nat → κ} {n : Nat} {s : κ} : owkC K (snocG S n s) (n + 1) = owkC K S n ++ K.v s := by
  rw [owkC, snocG_at, owkC_congr n fun i hi => snocG_lt hi]
theorem owkC_at {K : Kk κ k} {S : Nat → κ} {i j : Nat} (hj : j < k) : ∀ n, i < n → (owkC K S n)[i * k + j]? = (K.v (S i))[j]?
  | 0, h => absurd h (by omega)
  | n + 1, h => by
    rw [owkC]
    rcases Nat.lt_or_ge i n with g | g
    · have : i * k + j < n * k := by
        have h1 : (i + 1) * k ≤ n * k := Nat.mul_le_mul_right _ g
        rw [Nat.add_mul, Nat.one_mul] at h1
        omega
      rw [List.getElem?_append_left (by rw [owkC_len]; exact this)]
      exact owkC_at hj n g
    · obtain rfl : i = n := by omega
      rw [List.getElem?_append_right (by rw [owkC_len]; omega), owkC_len, Nat.add_sub_cancel_left]
/-- A list of the call's own. -/
structure Owk (K : Kk κ k) (e : TypeId) (w : World) (base : Nat) (v : Value) (n : Nat) (S : Nat → κ) : Prop where
  own : w.ownsRow base e k v n (owkC K S n)
  at_ : ∀ i, i < n → K.At w (S i)
  els : ∀ i, i < n → ∀ b, K.Bl (S i) b → v.ownBlock ≠ some b
variable {K : Kk κ k} {e : TypeId} {w w' : World} {base : Nat} {v : Value} {n : Nat} {S : Nat → κ}
theorem Owk.nil (K : Kk κ k) (e : TypeId) (w : World) (base : Nat) (S : Nat → κ) : Owk K e w base (.slice none 0 0) 0 S :=
  ⟨⟨by simp [owkC], .inl ⟨rfl, rfl⟩⟩, fun i h => absurd h (by omega), fun i h => absurd h (by omega)⟩
theorem Owk.below (h : Owk K e w base v n S) (hb : Below w.heap.size w w') : Owk K e w' base v n S :=
  ⟨own_belowV hb h.own, fun i hi => K.stay (h.at_ i hi) hb.size fun b g => hb.block b (K.lt (h.at_ i hi) g), h.els⟩
theorem Owk.lt (h : Owk K e w base v n S) {g : Nat} (hg : v.ownBlock = some g) : base ≤ g ∧ g < w.heap.size := by
  rcases h.own.2 with ⟨rfl, -⟩ | ⟨g', cap, cur, rfl, h2, h3, -⟩
  · cases hg
  · injection hg with hg; subst hg; exact ⟨h2, (Array.getElem?_eq_some_iff.1 h3).1⟩
theorem Owk.far (h : Owk K e w base v n S) {b : Nat} (hb : w.heap.size ≤ b) : v.ownBlock ≠ some b := fun e => by have := (h.lt e).2; omega
theorem Owk.old (h : Owk K e w base v n S) {b : Nat} (hb : b < base) : v.ownBlock ≠ some b := fun e => by have := (h.lt e).1; omega
/-- It stays where another block is turned, that none of its things lie in. -/
theorem Owk.grown (h : Owk K e w base v n S) {row : Option Nat} (hg : w.grownBy w' row) (hv : v.ownBlock = none ∨ v.ownBlock ≠ row) (hne : ∀ i, i < n → ∀ b, K.Bl (S i) b → row ≠ some b) : Owk K e w' base v n S :=
  ⟨h.own.kept hg hv, fun i hi => K.stay (h.at_ i hi) hg.size fun b g => hg.block b (K.lt (h.at_ i hi) g) (fun e => hne i hi b g e.symm), h.els⟩
theorem Owk.form (h : Owk K e w base v n S) : ∃ A c, v = .slice A n c ∧ n ≤ c ∧ (∀ a, A = some a → base ≤ a.block) ∧ (0 < n → ∃ g, A = some ⟨g, 0, none⟩ ∧ g < w.heap.size ∧ ∀ i j u, i < n → (K.v (S i))[j]? = some u → w.cell? ⟨g, i * k + j, none⟩ = some u) := by
  rcases h.own.2 with ⟨rfl, rfl⟩ | ⟨g, cap, cur, rfl, h2, h3, h4, h5, h6, h7⟩
  · exact ⟨none, 0, rfl, Nat.le_refl _, fun a ha => (by cases ha), fun h => absurd h (by omega)⟩
  · refine ⟨_, cap, rfl, h4, fun a ha => by injection ha with ha; subst ha; exact h2, fun hn => ⟨g, rfl, (Array.getElem?_eq_some_iff.1 h3).1, fun i j u hi hu => ?_⟩⟩
    have hj : j < k := by
      have := (List.getElem?_eq_some_iff.1 hu).1
      rwa [K.len] at this
    have hc := h.own.cells (g := g) rfl (i * k + j) u (by rw [owkC_at hj n hi]; exact hu)
    have ea : (⟨g, 0, none⟩ : Addr).add (i * k + j) = ⟨g, i * k + j, none⟩ := by
      unfold Addr.add; split
      · rename_i h0; rw [h0]
      · rw [Nat.zero_add]
    rw [ea] at hc
    exact hc
theorem owk_next {s : κ} (hown : Owk K e w base v n S) (hU : K.At w s) (hf : ∀ b, K.Bl s b → v.ownBlock ≠ some b)
    {g' cap : Nat} {w' : World} (a1 : w'.ownsRow base e k (.slice (some ⟨g', 0, none⟩) (n + 1) cap) (n + 1) (owkC K S n ++ K.v s)) (a2 : w.grownBy w' v.ownBlock) (a3 : v.ownBlock = some g' ∨ g' = w.heap.size) :
    Owk K e w' base (.slice (some ⟨g', 0, none⟩) (n + 1) cap) (n + 1) (snocG S n s) := by
  have key : ∀ i, i < n + 1 → K.At w (snocG S n s i) ∧ ∀ b, K.Bl (snocG S n s i) b → v.ownBlock ≠ some b := by
    intro i hi
    rcases Nat.lt_or_ge i n with g | g
    · rw [snocG_lt g]; exact ⟨hown.at_ i g, hown.els i g⟩
    · obtain rfl : i = n := by omega
      rw [snocG_at]; exact ⟨hU, hf⟩
  refine ⟨by rw [owkC_snoc]; exact a1, fun i hi => K.stay (key i hi).1 a2.size fun b hb => a2.block b (K.lt (key i hi).1 hb) (fun e => (key i hi).2 b hb e.symm), fun i hi b hb e2 => ?_⟩
  have e3 : g' = b := by injection e2
  rcases a3 with q | q
  · exact (key i hi).2 b hb (by rw [q, e3])
  · have := K.lt (key i hi).1 hb; omega
end
section
variable {κ : Type} {k : Nat} {K : Kk κ k} {P : Program} {w : World}
/-- One element more. -/
theorem wpList_owk {ops : Array Oper} {rest : List Oper} {o : Oper} {a : Act} {Q : Exit → Act → World → Prop} (hgd : o.guard = none) (s0 x : Operand) (t : TypeId)
    (ho : o.op = .call { callee := .builtin .append, args := #[s0, x], argTypes := #[t, t] })
    (base : Nat) (e : TypeId) (by' : Nat) (z : Value) (ht : P.underlying t = some (.slice e)) (hi : (P.info? e).map (fun i => (i.zero, i.size, i.bytes)) = some (some z, k, by')) (hz : z.cells.size = k) (hk : 0 < k)
    (v : Value) (n cm : Nat) (S : Nat → κ) (s : κ) (hs : a.eval s0 = v) (hown : Owk K e w base v n S)
    (g : Nat) (hx : a.eval x = .slice (some ⟨g, 0, none⟩) 1 cm) (hc : ∀ j u, (K.v s)[j]? = some u → w.cell? ⟨g, j, none⟩ = some u) (hU : K.At w s)
    (hf : ∀ b, K.Bl s b → v.ownBlock ≠ some b) (h63 : n + 1 ≤ maxLen) (hbytes : (n + 1) * by' ≤ 140737488355328) (hbase : base ≤ w.heap.size)
    (h : ∀ v' w', Owk K e w' base v' (n + 1) (snocG S n s) → w.grownBy w' v.ownBlock → wpList P ops Q rest (a.put o.dst v') w') : wpList P ops Q (o :: rest) a w := by
  obtain ⟨i0, h1, h2, h3, h4⟩ := info_parts hi
  exact wpList_append_lies w hgd s0 x t ho base e i0 z k by' ht h1 h2 h3 h4 hz hk v n (owkC K S n) hs hown.own ⟨g, 0, none⟩ 1 cm (K.v s) hx (by rw [K.len, Nat.one_mul])
    (fun j u hj => by
      have ea : (⟨g, 0, none⟩ : Addr).add j = ⟨g, j, none⟩ := by
        unfold Addr.add; split
        · rename_i h0; rw [h0]
        · rw [Nat.zero_add]
      rw [ea]; exact hc j u hj) (K.one s) (by decide) h63 hbytes hbase w.heap.size rfl
    (fun g' cap w' a1 a2 a3 a4 => h _ w' (owk_next hown hU hf a1 a2 a3) a2)
/-- The same, at a step of a region that draws its order. -/
theorem step_owk {ops : Array Oper} {o : Oper} {a : Act} {K' : Act → World → Prop} {Q : Exit → Act → World → Prop} {E : Prop} (hgd : o.guard = none) (s0 x : Operand) (t : TypeId)
    (ho : o.op = .call { callee := .builtin .append, args := #[s0, x], argTypes := #[t, t] })
    (base : Nat) (e : TypeId) (by' : Nat) (z : Value) (ht : P.underlying t = some (.slice e)) (hi : (P.info? e).map (fun i => (i.zero, i.size, i.bytes)) = some (some z, k, by')) (hz : z.cells.size = k) (hk : 0 < k)
    (v : Value) (n cm : Nat) (S : Nat → κ) (s : κ) (hs : a.eval s0 = v) (hown : Owk K e w base v n S)
    (g : Nat) (hx : a.eval x = .slice (some ⟨g, 0, none⟩) 1 cm) (hc : ∀ j u, (K.v s)[j]? = some u → w.cell? ⟨g, j, none⟩ = some u) (hU : K.At w s)
    (hf : ∀ b, K.Bl s b → v.ownBlock ≠ some b) (h63 : n + 1 ≤ maxLen) (hbytes : (n + 1) * by' ≤ 140737488355328) (hbase : base ≤ w.heap.size)
    (h : ∀ v' w', Owk K e w' base v' (n + 1) (snocG S n s) → w.grownBy w' v.ownBlock → K' (a.put o.dst v') w') : if Region.wanted o (yielded ops a.tmps) = true then Oper.wp P o a w K' Q else E := by
  obtain ⟨i0, h1, h2, h3, h4⟩ := info_parts hi
  exact step_append_lies w hgd s0 x t ho base e i0 z k by' ht h1 h2 h3 h4 hz hk v n (owkC K S n) hs hown.own ⟨g, 0, none⟩ 1 cm (K.v s) hx (by rw [K.len, Nat.one_mul])
    (fun j u hj => by
      have ea : (⟨g, 0, none⟩ : Addr).add j = ⟨g, j, none⟩ := by
        unfold Addr.add; split
        · rename_i h0; rw [h0]
        · rw [Nat.zero_add]
      rw [ea]; exact hc j u hj) (K.one s) (by decide) h63 hbytes hbase w.heap.size rfl
    (fun g' cap w' a1 a2 a3 a4 => h _ w' (owk_next hown hU hf a1 a2 a3) a2)
end
/-- Numbers, a slice each. -/
def kNm : Kd Nsl := ⟨Nsl.v, fun w s => Nm w s.A s.n s.c s.N, fun s b => BlN s.A s.n b, fun _ => rfl, fun h g => Nm.blt h g, fun h hs g => Nm.stay h hs g⟩
theorem Owg.nsl {e : TypeId} {w : World} {base : Nat} {v : Value} {n : Nat} {S : Nat → Nsl} (h : Owg kNm e w base v n S) (h60 : n ≤ 17592186044416) : ∃ A c, v = .slice A n c ∧ (∀ a, A = some a → base ≤ a.block) ∧ Ns w A n c S := by
  obtain ⟨A, c, rfl, hnc, hb, hc⟩ := h.form
  refine ⟨A, c, rfl, hb, hnc, h60, fun hn => ?_, fun i hi => h.at_ i hi⟩
  obtain ⟨g, eg, hl, hx⟩ := hc hn
  refine ⟨g, 0, eg, hl, fun i hi => ?_⟩
  rw [Nat.zero_add]; exact hx i hi
/-! ### Shares -/
structure Shr where
  I : Int
  A : Option Addr
  n : Nat
  c : Nat
  N : Int
/-- A share lies in memory: its place is an int's, its value a number's slice. -/
def Shr.At (w : World) (s : Shr) : Prop := (-9223372036854775808 ≤ s.I ∧ s.I ≤ 9223372036854775807) ∧ Nm w s.A s.n s.c s.N
theorem Shr.At.below {w w' : World} {s : Shr} (h : s.At w) (hb : Below w.heap.size w w') : s.At w' := ⟨h.1, h.2.below hb⟩
/-- A share: its index, its value. -/
def kSh : Kk Shr 2 := ⟨fun s => [.int .i64 s.I, .slice s.A s.n s.c], fun w s => s.At w, fun s b => BlN s.A s.n b, fun _ => rfl, fun s u hu => by
    rcases List.mem_cons.1 hu with rfl | hu
    · rfl
    · rw [List.mem_singleton] at hu; subst hu; rfl, fun h g => Nm.blt h.2 g, fun h hs g => ⟨h.1, Nm.stay h.2 hs g⟩⟩
/-- A list of shares in memory. -/
structure Shs (w : World) (a : Option Addr) (n c : Nat) (S : Nat → Shr) : Prop where
  nc : n ≤ c
  c60 : n ≤ 17592186044416
  ex : 0 < n → ∃ b off, a = some ⟨b, off, none⟩ ∧ b < w.heap.size ∧ ∀ i, i < n → w.cell? ⟨b, off + i * 2, none⟩ = some (.int .i64 (S i).I) ∧ w.cell? ⟨b, off + i * 2 + 1, none⟩ = some (.slice (S i).A (S i).n (S i).c)
  at_ : ∀ i, i < n → (S i).At w
theorem Shs.below {w w' : World} {a : Option Addr} {n c : Nat} {S : Nat → Shr} (h : Shs w a n c S) (hb : Below w.heap.size w w') : Shs w' a n c S :=
  ⟨h.nc, h.c60, fun hn => by
    obtain ⟨b, off, e, hl, hc⟩ := h.ex hn
    exact ⟨b, off, e, Nat.lt_of_lt_of_le hl hb.size, fun i hi => ⟨(hb.cell (p := ⟨b, _, none⟩) hl).trans (hc i hi).1, (hb.cell (p := ⟨b, _, none⟩) hl).trans (hc i hi).2⟩⟩, fun i hi => (h.at_ i hi).below hb⟩
theorem Shs.nil (w : World) (S : Nat → Shr) : Shs w none 0 0 S := ⟨Nat.le_refl _, by omega, fun h => absurd h (by omega), fun i h => absurd h (by omega)⟩
theorem Owk.shs {e : TypeId} {w : World} {base : Nat} {v : Value} {n : Nat} {S : Nat → Shr} (h : Owk kSh e w base v n S) (h60 : n ≤ 17592186044416) : ∃ A c, v = .slice A n c ∧ (∀ a, A = some a → base ≤ a.block) ∧ Shs w A n c S := by
  obtain ⟨A, c, rfl, hnc, hb, hc⟩ := h.form
  refine ⟨A, c, rfl, hb, hnc, h60, fun hn => ?_, fun i hi => h.at_ i hi⟩
  obtain ⟨g, eg, hl, hx⟩ := hc hn
  refine ⟨g, 0, eg, hl, fun i hi => ⟨?_, ?_⟩⟩
  · rw [Nat.zero_add]; exact hx i 0 _ hi rfl
  · rw [Nat.zero_add]; exact hx i 1 _ hi rfl
end Go.Proofs.Ytcnekfpgoceblaa
/-
  The document's way of writing, in numbers: what has been written, and what is amiss. No call is spoken of.
-/
namespace Go.Proofs.Ytcnekfpgoceblaa
set_option linter.unusedVariables false
/-- What has been written, and what is amiss (0: nothing). -/
structure OuS where
  b : List Int
  bad : Int
namespace OuS
def fail (s : OuS) (k : Int) : OuS := ⟨s.b, if s.bad = 0 ∨ k = 1 then k else s.bad⟩
def put (s : OuS) (l : List Int) : OuS := ⟨s.b ++ l, s.bad⟩
def cnt (s : OuS) (n : Int) : OuS := if n < 0 ∨ 4611686018427387904 < n then s.fail 1 else s.put (cntE n.toNat)
/-- A number's bytes. -/
def numE (N : Int) : List Int := cntE (dl N) ++ (dg W N).flatMap limE
def num (s : OuS) (N : Int) : OuS := if 64 < dl N then s.fail 2 else s.put (numE N)
def tru (s : OuS) (q : Bool) : OuS := s.put [if q = true then 1 else 0]
def byt (s : OuS) (l : List Int) : OuS := (s.cnt (l.length : Int)).put l
/-- What comes out: the bytes, or what is amiss. -/
def done (s : OuS) (most : Nat) : OuS := if most < s.b.length then s.fail 2 else s
theorem cnt_ok {s : OuS} {n : Nat} (h : n ≤ topC) : s.cnt n = s.put (cntE n) := by
  unfold cnt topC at *
  rw [if_neg (by omega)]
  rfl
theorem put_put (s : OuS) (a b : List Int) : (s.put a).put b = s.put (a ++ b) := by unfold put; rw [List.append_assoc]
end OuS
/-- The limbs of a number are what numC reads. -/
theorem dgW_can {N : Int} (h0 : 0 ≤ N) (h : dl N ≤ 64) : numC.ok (dg W N) := by
  refine numC_ok.2 ⟨?_, h, fun e => ?_⟩
  · intro x hx
    have := dig_dg W_two h0 x hx
    unfold W at this
    omega
  · rcases Int.lt_or_eq_of_le h0 with q | q
    · have h1 := dg_top W_two q
      rw [List.getLast?_eq_getElem?] at e
      have h2 := dig_lt e
      unfold dig at h1 h2
      omega
    · subst q
      rw [dg_zero] at e
      cases e
theorem numE_enc (N : Int) : OuS.numE N = numC.enc (dg W N) := by rw [numC_enc]; rfl
end Go.Proofs.Ytcnekfpgoceblaa
/-
  A message in memory: its numbers, its letters, its proofs, its texts, its share.
-/
namespace Go.Proofs.Ytcnekfpgoceblaa
open Go.RowKit
set_option linter.unusedVariables false
/-- A proof: two numbers. -/
structure Pf2 where
  A1 : Option Addr
  n1 : Nat
  c1 : Nat
  E : Int
  A2 : Option Addr
  n2 : Nat
  c2 : Nat
  Z : Int
/-- A list of proofs. -/
structure Pfs (w : World) (a : Option Addr) (n c : Nat) (S : Nat → Pf2) : Prop where
  nc : n ≤ c
  c60 : n ≤ 17592186044416
  ex : 0 < n → ∃ b off, a = some ⟨b, off, none⟩ ∧ b < w.heap.size ∧ ∀ i, i < n → w.cell? ⟨b, off + i * 2, none⟩ = some (.slice (S i).A1 (S i).n1 (S i).c1) ∧ w.cell? ⟨b, off + i * 2 + 1, none⟩ = some (.slice (S i).A2 (S i).n2 (S i).c2)
  at_ : ∀ i, i < n → Nm w (S i).A1 (S i).n1 (S i).c1 (S i).E ∧ Nm w (S i).A2 (S i).n2 (S i).c2 (S i).Z
section
variable {w w' : World} {a : Option Addr} {n c : Nat}
theorem Pfs.below {S : Nat → Pf2} (h : Pfs w a n c S) (hb : Below w.heap.size w w') : Pfs w' a n c S :=
  ⟨h.nc, h.c60, fun hn => by
    obtain ⟨b, off, e, hl, hc⟩ := h.ex hn
    exact ⟨b, off, e, Nat.lt_of_lt_of_le hl hb.size, fun i hi => ⟨(hb.cell (p := ⟨b, _, none⟩) hl).trans (hc i hi).1, (hb.cell (p := ⟨b, _, none⟩) hl).trans (hc i hi).2⟩⟩, fun i hi => ⟨(h.at_ i hi).1.below hb, (h.at_ i hi).2.below hb⟩⟩
/-- A list of lists of proofs. -/
structure Psl where
  A : Option Addr
  n : Nat
  c : Nat
  S : Nat → Pf2
structure Pba (w : World) (a : Option Addr) (n c : Nat) (B : Nat → Psl) : Prop where
  nc : n ≤ c
  c60 : n ≤ 17592186044416
  ex : 0 < n → ∃ b off, a = some ⟨b, off, none⟩ ∧ b < w.heap.size ∧ ∀ i, i < n → w.cell? ⟨b, off + i, none⟩ = some (.slice (B i).A (B i).n (B i).c)
  at_ : ∀ i, i < n → Pfs w (B i).A (B i).n (B i).c (B i).S
theorem Pba.below {S : Nat → Psl} (h : Pba w a n c S) (hb : Below w.heap.size w w') : Pba w' a n c S :=
  ⟨h.nc, h.c60, fun hn => by
    obtain ⟨b, off, e, hl, hc⟩ := h.ex hn
    exact ⟨b, off, e, Nat.lt_of_lt_of_le hl hb.size, fun i hi => (hb.cell (p := ⟨b, _, none⟩) hl).trans (hc i hi)⟩, fun i hi => (h.at_ i hi).below hb⟩
/-- Texts. -/
structure Txt where
  A : Option Addr
  c : Nat
  xs : List Int
structure Txs (w : World) (a : Option Addr) (n c : Nat) (T : Nat → Txt) : Prop where
  nc : n ≤ c
  c60 : n ≤ 17592186044416
  ex : 0 < n → ∃ b off, a = some ⟨b, off, none⟩ ∧ b < w.heap.size ∧ ∀ i, i < n → w.cell? ⟨b, off + i, none⟩ = some (.slice (T i).A (T i).xs.length (T i).c)
  at_ : ∀ i, i < n → Rd .u8 w (T i).A (T i).xs.length (T i).xs ∧ Dig 256 (T i).xs
theorem Txs.below {S : Nat → Txt} (h : Txs w a n c S) (hb : Below w.heap.size w w') : Txs w' a n c S :=
  ⟨h.nc, h.c60, fun hn => by
    obtain ⟨b, off, e, hl, hc⟩ := h.ex hn
    exact ⟨b, off, e, Nat.lt_of_lt_of_le hl hb.size, fun i hi => (hb.cell (p := ⟨b, _, none⟩) hl).trans (hc i hi)⟩, fun i hi => ⟨(h.at_ i hi).1.below hb, (h.at_ i hi).2⟩⟩
end
/-- A message. -/
structure Mgd where
  k : Int
  g : Int
  l : Int
  p : Int
  s : Int
  u : Int
  ok : Bool
  Ab : Option Addr
  nb : Nat
  cb : Nat
  B : Nat → Lsl
  Ap : Option Addr
  np : Nat
  cp : Nat
  P : Nat → Psl
  At : Option Addr
  nt : Nat
  ct : Nat
  T : Nat → Txt
  i : Int
  Av : Option Addr
  nv : Nat
  cv : Nat
  V : Int
def Mgd.cells (m : Mgd) : Array Value := #[.int .i64 m.k, .int .i64 m.g, .int .i64 m.l, .int .i64 m.p, .int .i64 m.s, .int .i64 m.u, .bool m.ok, .slice m.Ab m.nb m.cb, .slice m.Ap m.np m.cp, .slice m.At m.nt m.ct, .int .i64 m.i, .slice m.Av m.nv m.cv]
structure Mg (w : World) (m : Mgd) : Prop where
  b : Bat w m.Ab m.nb m.cb m.B
  p : Pba w m.Ap m.np m.cp m.P
  t : Txs w m.At m.nt m.ct m.T
  v : Nm w m.Av m.nv m.cv m.V
theorem Mg.below {w w' : World} {m : Mgd} (h : Mg w m) (hb : Below w.heap.size w w') : Mg w' m := ⟨h.b.below hb, h.p.below hb, h.t.below hb, h.v.below hb⟩
/-! ### What the document's way writes -/
def letO (s : OuS) (S : Nat → Stp) (n : Nat) : OuS := (List.range n).foldl (fun s i => ((s.num (S i).P).num (S i).Q).num (S i).A) s
def batO (s : OuS) (B : Nat → Lsl) (n : Nat) : OuS := (List.range n).foldl (fun s i => letO (s.cnt ((B i).n : Int)) (B i).S (B i).n) s
def pflO (s : OuS) (S : Nat → Pf2) (n : Nat) : OuS := (List.range n).foldl (fun s i => (s.num (S i).E).num (S i).Z) s
def pbaO (s : OuS) (B : Nat → Psl) (n : Nat) : OuS := (List.range n).foldl (fun s i => pflO (s.cnt ((B i).n : Int)) (B i).S (B i).n) s
def txtO (s : OuS) (T : Nat → Txt) (n : Nat) : OuS := (List.range n).foldl (fun s i => (s.cnt ((T i).xs.length : Int)).put (T i).xs) s
theorem letO_succ (s : OuS) (S : Nat → Stp) (n : Nat) : letO s S (n + 1) = (((letO s S n).num (S n).P).num (S n).Q).num (S n).A := by unfold letO; rw [List.range_succ, List.foldl_append]; rfl
theorem batO_succ (s : OuS) (B : Nat → Lsl) (n : Nat) : batO s B (n + 1) = letO ((batO s B n).cnt ((B n).n : Int)) (B n).S (B n).n := by unfold batO; rw [List.range_succ, List.foldl_append]; rfl
theorem pflO_succ (s : OuS) (S : Nat → Pf2) (n : Nat) : pflO s S (n + 1) = ((pflO s S n).num (S n).E).num (S n).Z := by unfold pflO; rw [List.range_succ, List.foldl_append]; rfl
theorem pbaO_succ (s : OuS) (B : Nat → Psl) (n : Nat) : pbaO s B (n + 1) = pflO ((pbaO s B n).cnt ((B n).n : Int)) (B n).S (B n).n := by unfold pbaO; rw [List.range_succ, List.foldl_append]; rfl
theorem txtO_succ (s : OuS) (T : Nat → Txt) (n : Nat) : txtO s T (n + 1) = ((txtO s T n).cnt ((T n).xs.length : Int)).put (T n).xs := by unfold txtO; rw [List.range_succ, List.foldl_append]; rfl
theorem cntE_len9' {n : Nat} (h : n ≤ 4611686018427387904) : (cntE n).length ≤ 9 := cntE_len 9 n (Nat.lt_of_le_of_lt h (by decide)) (by decide)
/-- How much a call adds at most. -/
theorem OuS.fail_b (s : OuS) (k : Int) : (s.fail k).b = s.b := rfl
theorem OuS.put_b (s : OuS) (l : List Int) : (s.put l).b = s.b ++ l := rfl
theorem OuS.cnt_len (s : OuS) (n : Int) : (s.cnt n).b.length ≤ s.b.length + 9 := by
  by_cases h : n < 0 ∨ 4611686018427387904 < n
  · have e : s.cnt n = s.fail 1 := if_pos h
    rw [e, OuS.fail_b]
    omega
  · have e : s.cnt n = s.put (cntE n.toNat) := if_neg h
    rw [e, OuS.put_b, List.length_append]
    have := cntE_len9' (n := n.toNat) (by omega)
    omega
theorem flat8_len (l : List Int) : (l.flatMap limE).length = 8 * l.length := by
  induction l with
  | nil => rfl
  | cons x l ih => rw [List.flatMap_cons, List.length_append, limE_len, ih, List.length_cons]; omega
theorem OuS.num_len (s : OuS) (N : Int) : (s.num N).b.length ≤ s.b.length + 521 := by
  by_cases h : 64 < dl N
  · have e : s.num N = s.fail 2 := if_pos h
    rw [e, OuS.fail_b]
    omega
  · have e : s.num N = s.put (OuS.numE N) := if_neg h
    rw [e, OuS.put_b, List.length_append]
    unfold OuS.numE
    rw [List.length_append, flat8_len, show (dg W N).length = dl N from rfl]
    have := cntE_len9' (n := dl N) (by omega)
    omega
set_option maxRecDepth 100000 in
theorem letO_len (s : OuS) (S : Nat → Stp) (n : Nat) : (letO s S n).b.length ≤ s.b.length + 1563 * n := by
  induction n with
  | zero => exact Nat.le_refl _
  | succ n ih =>
    rw [letO_succ]
    have h1 := OuS.num_len (((letO s S n).num (S n).P).num (S n).Q) (S n).A
    have h2 := OuS.num_len ((letO s S n).num (S n).P) (S n).Q
    have h3 := OuS.num_len (letO s S n) (S n).P
    omega
set_option maxRecDepth 100000 in
theorem pflO_len (s : OuS) (S : Nat → Pf2) (n : Nat) : (pflO s S n).b.length ≤ s.b.length + 1042 * n := by
  induction n with
  | zero => exact Nat.le_refl _
  | succ n ih =>
    rw [pflO_succ]
    have h2 := OuS.num_len ((pflO s S n).num (S n).E) (S n).Z
    have h3 := OuS.num_len (pflO s S n) (S n).E
    omega
theorem batO_len (s : OuS) (B : Nat → Lsl) (n : Nat) (h : ∀ i, i < n → (B i).n ≤ 3000) : (batO s B n).b.length ≤ s.b.length + 4689009 * n := by
  induction n with
  | zero => exact Nat.le_refl _
  | succ n ih =>
    rw [batO_succ]
    have h1 := letO_len ((batO s B n).cnt ((B n).n : Int)) (B n).S (B n).n
    have h2 := OuS.cnt_len (batO s B n) ((B n).n : Int)
    have h3 := ih fun i hi => h i (by omega)
    have h4 := h n (Nat.lt_succ_self n)
    omega
theorem pbaO_len (s : OuS) (B : Nat → Psl) (n : Nat) (h : ∀ i, i < n → (B i).n ≤ 3000) : (pbaO s B n).b.length ≤ s.b.length + 3126009 * n := by
  induction n with
  | zero => exact Nat.le_refl _
  | succ n ih =>
    rw [pbaO_succ]
    have h1 := pflO_len ((pbaO s B n).cnt ((B n).n : Int)) (B n).S (B n).n
    have h2 := OuS.cnt_len (pbaO s B n) ((B n).n : Int)
    have h3 := ih fun i hi => h i (by omega)
    have h4 := h n (Nat.lt_succ_self n)
    omega
theorem txtO_len (s : OuS) (T : Nat → Txt) (n : Nat) (h : ∀ i, i < n → (T i).xs.length ≤ 1073741824) : (txtO s T n).b.length ≤ s.b.length + 1073741833 * n := by
  induction n with
  | zero => exact Nat.le_refl _
  | succ n ih =>
    rw [txtO_succ]
    show (((txtO s T n).cnt _).b ++ _).length ≤ _
    rw [List.length_append]
    have h2 := OuS.cnt_len (txtO s T n) ((T n).xs.length : Int)
    have h3 := ih fun i hi => h i (by omega)
    have h4 := h n (Nat.lt_succ_self n)
    omega
/-- All of a message. -/
def msg0 (m : Mgd) : OuS := ((((((((⟨[], 0⟩ : OuS).cnt m.k).cnt m.g).cnt m.l).cnt m.p).cnt m.s).cnt m.u).tru m.ok).cnt (m.nb : Int)
def msg1 (m : Mgd) : OuS := (batO (msg0 m) m.B m.nb).cnt (m.np : Int)
def msg2 (m : Mgd) : OuS := (pbaO (msg1 m) m.P m.np).cnt (m.nt : Int)
def msgO (m : Mgd) : OuS := ((txtO (msg2 m) m.T m.nt).cnt m.i).num m.V
theorem tru_len (s : OuS) (q : Bool) : (s.tru q).b.length = s.b.length + 1 := by
  show (s.b ++ [_]).length = _
  rw [List.length_append]; rfl
theorem msg0_len (m : Mgd) : (msg0 m).b.length ≤ 64 := by
  unfold msg0
  have h1 := OuS.cnt_len (⟨[], 0⟩ : OuS) m.k
  have h2 := OuS.cnt_len ((⟨[], 0⟩ : OuS).cnt m.k) m.g
  have h3 := OuS.cnt_len (((⟨[], 0⟩ : OuS).cnt m.k).cnt m.g) m.l
  have h4 := OuS.cnt_len ((((⟨[], 0⟩ : OuS).cnt m.k).cnt m.g).cnt m.l) m.p
  have h5 := OuS.cnt_len (((((⟨[], 0⟩ : OuS).cnt m.k).cnt m.g).cnt m.l).cnt m.p) m.s
  have h6 := OuS.cnt_len ((((((⟨[], 0⟩ : OuS).cnt m.k).cnt m.g).cnt m.l).cnt m.p).cnt m.s) m.u
  have h7 := OuS.cnt_len ((((((((⟨[], 0⟩ : OuS).cnt m.k).cnt m.g).cnt m.l).cnt m.p).cnt m.s).cnt m.u).tru m.ok) (m.nb : Int)
  rw [tru_len] at h7
  have h0 : (⟨[], 0⟩ : OuS).b.length = 0 := rfl
  omega
end Go.Proofs.Ytcnekfpgoceblaa
