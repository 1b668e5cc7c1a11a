/-
  Slices that the call itself makes and appends to.
-/
import Derived.Test.YtnfncaaclpddkaaDoorMem
import Derived.Test.YtnfncaaclpddkaaDoorVal
import Derived.OwnWalk
import Derived.Laws.AppendOwn
namespace Go.Proofs.YtnfncaaclpddkaaDoor
open Go.RowKit
set_option linter.unusedVariables false
/-- What the call owns, of integers: as a slice reads. -/
theorem own_rd {w : World} {base : Nat} {e : TypeId} {k : IntKind} {v : Value} {n : Nat} {L : List Int} (h : w.ownsRow base e 1 v n (L.map (Value.int k))) :
    ∃ A cap, v = .slice A n cap ∧ Rd k w A n L ∧ n ≤ cap ∧ ∀ a, A = some a → base ≤ a.block := by
  have hl : L.length = n := by have := h.1; simpa using this
  rcases h.2 with ⟨rfl, hn⟩ | ⟨g, cap, cur, rfl, hb, hg, hnc, hm, hs, ht⟩
  · subst hn
    obtain rfl : L = [] := List.eq_nil_of_length_eq_zero hl
    exact ⟨none, 0, rfl, Rd.nil _ _ _, Nat.le_refl _, fun a ha => by cases ha⟩
  · refine ⟨_, cap, rfl, ⟨hl, fun hp => ⟨g, 0, rfl, (Array.getElem?_eq_some_iff.1 hg).1, fun j x hx => ?_⟩⟩, hnc, fun a ha => by injection ha with ha; subst ha; exact hb⟩
    have hc := h.cells (g := g) rfl j (.int k x) (by rw [List.getElem?_map, hx]; rfl)
    have e : (⟨g, 0, none⟩ : Addr).add j = ⟨g, 0 + j, none⟩ := by
      unfold Addr.add; split
      · rename_i h0; subst h0; rfl
      · rfl
    rw [e] at hc
    exact hc
theorem own_below {w w' : World} {B base : Nat} {e : TypeId} {v : Value} {n : Nat} {xs : List Value} {a : World} (hb : Below B a w) (h : w.ownsRow base e 1 v n xs) (hg : w.grownBy w' v.ownBlock) (hB : B ≤ w.heap.size) (hB' : B ≤ base) : Below B a w' :=
  hb.grown hg hB (fun k e => Nat.le_trans hB' (h.lt k e).1)
section
variable {P : Program} (w : World)
/-- One integer more. -/
theorem wpList_app {ops : Array Oper} {rest : List Oper} {o : Oper} {a : Act} {Q : Exit → Act → World → Prop} (hgd : o.guard = none) (s x : Operand) (t : TypeId)
    (ho : o.op = .call { callee := .builtin .append, args := #[s, x], argTypes := #[t, t] })
    (base : Nat) (e : TypeId) (k : IntKind) (ht : P.underlying t = some (.slice e)) (hi : (P.info? e).map (fun i => (i.zero, i.size, i.bytes)) = some (some (.int k 0), 1, 8))
    (v : Value) (n : Nat) (L : List Int) (hs : a.eval s = v) (hown : w.ownsRow base e 1 v n (L.map (Value.int k)))
    (g : Nat) (y : Int) (hx : a.eval x = .slice (some ⟨g, 0, none⟩) 1 1) (hc : w.cell? ⟨g, 0, none⟩ = some (.int k y)) (hn : n ≤ 8796093022208) (hbase : base ≤ w.heap.size)
    (h : ∀ v' w', w'.ownsRow base e 1 v' (n + 1) ((L ++ [y]).map (Value.int k)) → w.grownBy w' v.ownBlock → wpList P ops Q rest (a.put o.dst v') w') : wpList P ops Q (o :: rest) a w := by
  obtain ⟨i0, h1, h2, h3, h4⟩ := info_parts hi
  refine wpList_append_own w hgd s x t ho base e i0 (.int k 0) 1 8 ht h1 h2 h3 h4 rfl (by decide) v n _ hs hown ⟨g, 0, none⟩ 1 1 [.int k y] hx rfl ?_ ?_ ?_ ?_ hbase (fun v' w' a b _ => h v' w' (by simpa using a) b)
  · intro j u hj
    match j, hj with
    | 0, hj => simp at hj; subst hj; simpa [Addr.add] using hc
  · intro u hu; simp at hu; subst hu; rfl
  · unfold maxLen; omega
  · omega
end
section
variable {P : Program} (w : World)
theorem run_app_nil (base : Nat) (t ty e : TypeId) (i : TypeInfo) (size : Nat) (ht : P.underlying t = some (.slice e)) (hi : P.info? e = some i)
    (v : Value) (n : Nat) (xs : List Value) (hown : w.ownsRow base e size v n xs) (c : Nat) : (Builtin.append_ #[t, t] ty #[v, .slice none 0 c]).run P w = .ok v w := by
  rcases hown.2 with ⟨rfl, rfl⟩ | ⟨g, cap, cur, rfl, _, _, hnc, _⟩
  · simp [Builtin.append_, run_underlying ht, sizeOf, typeInfo, hi, Builtin.lenOf, Builtin.firstCells]
  · simp [Builtin.append_, run_underlying ht, sizeOf, typeInfo, hi, Builtin.lenOf, Builtin.firstCells, hnc, storeCells]
/-- All of a slice more, nil or not. -/
theorem wpList_cat {ops : Array Oper} {rest : List Oper} {o : Oper} {a : Act} {Q : Exit → Act → World → Prop} (hgd : o.guard = none) (s x : Operand) (t : TypeId)
    (ho : o.op = .call { callee := .builtin .append, args := #[s, x], argTypes := #[t, t] })
    (base : Nat) (e : TypeId) (k : IntKind) (ht : P.underlying t = some (.slice e)) (hi : (P.info? e).map (fun i => (i.zero, i.size, i.bytes)) = some (some (.int k 0), 1, 8))
    (v : Value) (n : Nat) (L : List Int) (hs : a.eval s = v) (hown : w.ownsRow base e 1 v n (L.map (Value.int k)))
    (A : Option Addr) (m c : Nat) (xs : List Int) (hx : a.eval x = .slice A m c) (hr : Rd k w A m xs) (hn : n + m ≤ 8796093022208) (hbase : base ≤ w.heap.size)
    (h : ∀ v' w', w'.ownsRow base e 1 v' (n + m) ((L ++ xs).map (Value.int k)) → w.grownBy w' v.ownBlock → wpList P ops Q rest (a.put o.dst v') w') : wpList P ops Q (o :: rest) a w := by
  obtain ⟨i0, h1, h2, h3, h4⟩ := info_parts hi
  cases A with
  | none =>
    have hm : m = 0 := by
      rcases Nat.eq_zero_or_pos m with g | g
      · exact g
      · obtain ⟨b, off, e, _⟩ := hr.cells g; cases e
    subst hm
    obtain rfl : xs = [] := List.eq_nil_of_length_eq_zero hr.len
    have hrun := run_app_nil (P := P) w base t o.type e i0 1 ht h1 v n _ hown c
    refine wpList_plain hgd fun K hK => ?_
    have hh := h v w (by simpa using hown) (World.grownBy.refl w _)
    unfold Oper.wp execOp
    simp only [ho, resolve, invoke, builtin, Sem.run_bind, Sem.run_pure, Result.andThen_ok, List.map_toArray, List.map_cons, List.map_nil, hs, hx, hrun]
    exact hK _ _ hh
  | some ad =>
    refine wpList_append_own w hgd s x t ho base e i0 (.int k 0) 1 8 ht h1 h2 h3 h4 rfl (by decide) v n _ hs hown ad m c (xs.map (Value.int k)) hx (by simp [hr.len]) ?_ (ints_oneCell _ _) ?_ ?_ hbase (fun v' w' a b _ => h v' w' (by simpa using a) b)
    · intro j u hj
      rw [List.getElem?_map] at hj
      cases hxj : xs[j]? with
      | none => rw [hxj] at hj; cases hj
      | some x' =>
        rw [hxj] at hj
        injection hj with hj
        subst hj
        have hm : 0 < m := by
          rcases Nat.eq_zero_or_pos m with g | g
          · subst g
            rw [List.eq_nil_of_length_eq_zero hr.len] at hxj; simp at hxj
          · exact g
        obtain ⟨b, off, e, hb, hc⟩ := hr.cells hm
        injection e with e
        subst e
        have e2 : (⟨b, off, none⟩ : Addr).add j = ⟨b, off + j, none⟩ := by
          unfold Addr.add; split
          · rename_i h0; subst h0; rfl
          · rfl
        rw [e2]
        exact hc j x' hxj
    · unfold maxLen; omega
    · omega
end
end Go.Proofs.YtnfncaaclpddkaaDoor
