/-
  Two slices of bytes of the call's own, side by side: what is put behind one leaves the other.
-/
import Derived.Test.YtnfncaaclpddkaaDoorShd0
import Derived.Test.YtnfncaaclpddkaaDoorMdt
import Derived.Test.YtnfncaaclpddkaaDoorFrm
namespace Go.Proofs.YtnfncaaclpddkaaDoor
open Go.RowKit
set_option linter.unusedVariables false
structure Two (w : World) (base : Nat) (v u : Value) (xs ys : List Int) : Prop where
  one : Own8 w base v xs
  two : Own8 w base u ys
  apart : ∀ g, v.ownBlock = some g → u.ownBlock ≠ some g
section
variable {w w' : World} {base : Nat} {v u : Value} {xs ys : List Int}
theorem Two.swap (h : Two w base v u xs ys) : Two w base u v ys xs := ⟨h.two, h.one, fun g e e' => h.apart g e' e⟩
theorem Two.alloc (h : Two w base v u xs ys) (o : Obj) : Two (w.alloc o) base v u xs ys := ⟨h.one.alloc o, h.two.alloc o, h.apart⟩
theorem Two.drew (h : Two w base v u xs ys) : Two w.drew base v u xs ys := ⟨h.one, h.two, h.apart⟩
theorem Two.below (h : Two w base v u xs ys) (hb : Below w.heap.size w w') : Two w' base v u xs ys := ⟨h.one.below hb, h.two.below hb, h.apart⟩
theorem Two.next (h : Two w base v u xs ys) {g cap n : Nat} {y : Int} (hn : xs.length = n) (ho : w'.ownsRow base 5 1 (.slice (some ⟨g, 0, none⟩) (n + 1) cap) (n + 1) ((xs.map (Value.int .u8)) ++ [Value.int .u8 y])) (hg : w.grownBy w' v.ownBlock)
    (hat : v.ownBlock = some g ∨ g = w.heap.size) : Two w' base (.slice (some ⟨g, 0, none⟩) (n + 1) cap) u (xs ++ [y]) ys := by
  refine ⟨?_, ?_, ?_⟩
  · unfold Own8
    rw [List.length_append, hn]
    simpa using ho
  · refine own_keep h.two fun g' e => ?_
    have h1 := h.two.lt g' e
    exact hg.block g' h1.2 (fun e2 => h.apart g' e2.symm e)
  · intro g' e e2
    obtain rfl : g = g' := Option.some.inj e
    rcases hat with h1 | h1
    · exact h.apart _ h1 e2
    · have := (h.two.lt _ e2).2; omega
end
section
variable {P : Program} {w : World}
/-- One byte more, the other slice kept. -/
theorem wpList_two8 {ops : Array Oper} {rest : List Oper} {o : Oper} {a : Act} {Q : Exit → Act → World → Prop} (hgd : o.guard = none) (s x : Operand)
    (ho : o.op = .call { callee := .builtin .append, args := #[s, x], argTypes := #[22, 22] })
    (base : Nat) (v u : Value) (n : Nat) (xs ys : List Int) (hs : a.eval s = v) (hown : Two w base v u xs ys) (hl : xs.length = n)
    (g : Nat) (y : Int) (hx : a.eval x = .slice (some ⟨g, 0, none⟩) 1 1) (hc : w.cell? ⟨g, 0, none⟩ = some (.int .u8 y)) (hn : n ≤ 1000) (hbase : base ≤ w.heap.size)
    (h : ∀ v' w', Two w' base v' u (xs ++ [y]) ys → w.grownBy w' v.ownBlock → wpList Tryd.prog ops Q rest (a.put o.dst v') w') : wpList Tryd.prog ops Q (o :: rest) a w := by
  subst hl
  obtain ⟨i0, h1, h2, h3, h4⟩ := info_parts info8u
  refine wpList_append_lies w hgd s x 22 ho base 5 i0 (.int .u8 0) 1 1 Tryd.underlying22 h1 h2 h3 h4 rfl (by decide) v _ _ hs hown.one ⟨g, 0, none⟩ 1 1 [.int .u8 y] hx rfl ?_ ?_ (by omega) (by unfold maxLen; omega) (by omega) hbase w.heap.size rfl (fun g cap w' a b c d => h _ w' (hown.next rfl a b c) b)
  · intro j u hj
    match j, hj with
    | 0, hj => simp at hj; subst hj; simpa [Addr.add] using hc
  · intro u hu; simp at hu; subst hu; rfl
/-- The same, as a step of a region that draws. -/
theorem step_two8 {ops : Array Oper} {o : Oper} {a : Act} {K : Act → World → Prop} {Q : Exit → Act → World → Prop} {E : Prop} (hgd : o.guard = none) (s x : Operand)
    (ho : o.op = .call { callee := .builtin .append, args := #[s, x], argTypes := #[22, 22] })
    (base : Nat) (v u : Value) (n : Nat) (xs ys : List Int) (hs : a.eval s = v) (hown : Two w base v u xs ys) (hl : xs.length = n)
    (g : Nat) (y : Int) (hx : a.eval x = .slice (some ⟨g, 0, none⟩) 1 1) (hc : w.cell? ⟨g, 0, none⟩ = some (.int .u8 y)) (hn : n ≤ 1000) (hbase : base ≤ w.heap.size)
    (h : ∀ v' w', Two w' base v' u (xs ++ [y]) ys → w.grownBy w' v.ownBlock → K (a.put o.dst v') w') :
    if Region.wanted o (yielded ops a.tmps) = true then Oper.wp Tryd.prog o a w K Q else E := by
  subst hl
  obtain ⟨i0, h1, h2, h3, h4⟩ := info_parts info8u
  refine step_append_lies w hgd s x 22 ho base 5 i0 (.int .u8 0) 1 1 Tryd.underlying22 h1 h2 h3 h4 rfl (by decide) v _ _ hs hown.one ⟨g, 0, none⟩ 1 1 [.int .u8 y] hx rfl ?_ ?_ (by omega) (by unfold maxLen; omega) (by omega) hbase w.heap.size rfl (fun g cap w' a b c d => h _ w' (hown.next rfl a b c) b)
  · intro j u hj
    match j, hj with
    | 0, hj => simp at hj; subst hj; simpa [Addr.add] using hc
  · intro u hu; simp at hu; subst hu; rfl
end
end Go.Proofs.YtnfncaaclpddkaaDoor
