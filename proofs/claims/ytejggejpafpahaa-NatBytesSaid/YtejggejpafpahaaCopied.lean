/-
  What the laws' own small calls answer: copied, long, cut.
-/
import Derived.Test.YtejggejpafpahaaKit
import Derived.Test.YtejggejpafpahaaTo
namespace Go.Proofs.Ytejggejpafpahaa
open Go.RowKit
set_option linter.unusedVariables false
section
variable {P : Program} (w : World)
theorem run_app_nil (base : Nat) (t ty e : TypeId) (i : TypeInfo) (size : Nat) (ht : P.underlying t = some (.slice e)) (hi : P.info? e = some i)
    (v : Value) (n : Nat) (xs : List Value) (hown : w.ownsRow base e size v n xs) (c : Nat) : (Builtin.append_ #[t, t] ty #[v, .slice none 0 c]).run P w = .ok v w := by
  rcases hown.2 with ⟨rfl, rfl⟩ | ⟨g, cap, cur, rfl, _, _, hnc, _⟩
  · simp [Builtin.append_, run_underlying ht, sizeOf, typeInfo, hi, Builtin.lenOf, Builtin.firstCells]
  · simp [Builtin.append_, run_underlying ht, sizeOf, typeInfo, hi, Builtin.lenOf, Builtin.firstCells, hnc, storeCells]
/-- All of a slice more, nil or not. -/
theorem wpList_cat {ops : Array Oper} {rest : List Oper} {o : Oper} {a : Act} {Q : Exit → Act → World → Prop} (hgd : o.guard = none) (s x : Operand) (t : TypeId)
    (ho : o.op = .call { callee := .builtin .append, args := #[s, x], argTypes := #[t, t] })
    (base : Nat) (e : TypeId) (k : IntKind) (ht : P.underlying t = some (.slice e)) (hi : (P.info? e).map (fun i => (i.zero, i.size, i.bytes)) = some (some (.int k 0), 1, 8))
    (v : Value) (n : Nat) (L : List Int) (hs : a.eval s = v) (hown : w.ownsRow base e 1 v n (L.map (Value.int k)))
    (A : Option Addr) (m c : Nat) (xs : List Int) (hx : a.eval x = .slice A m c) (hr : Rd k w A m xs) (hn : n + m ≤ 8796093022208) (hbase : base ≤ w.heap.size)
    (h : ∀ v' w', w'.ownsRow base e 1 v' (n + m) ((L ++ xs).map (Value.int k)) → w.grownBy w' v.ownBlock → wpList P ops Q rest (a.put o.dst v') w') : wpList P ops Q (o :: rest) a w := by
  obtain ⟨i0, h1, h2, h3, h4⟩ := info_parts hi
  cases A with
  | none =>
    have hm : m = 0 := by
      rcases Nat.eq_zero_or_pos m with g | g
      · exact g
      · obtain ⟨b, off, e, _⟩ := hr.cells g; cases e
    subst hm
    obtain rfl : xs = [] := List.eq_nil_of_length_eq_zero hr.len
    have hrun := run_app_nil (P := P) w base t o.type e i0 1 ht h1 v n _ hown c
    refine wpList_plain hgd fun K hK => ?_
    have hh := h v w (by simpa using hown) (World.grownBy.refl w _)
    unfold Oper.wp execOp
    simp only [ho, resolve, invoke, builtin, Sem.run_bind, Sem.run_pure, Result.andThen_ok, List.map_toArray, List.map_cons, List.map_nil, hs, hx, hrun]
    exact hK _ _ hh
  | some ad =>
    refine wpList_append_own w hgd s x t ho base e i0 (.int k 0) 1 8 ht h1 h2 h3 h4 rfl (by decide) v n _ hs hown ad m c (xs.map (Value.int k)) hx (by simp [hr.len]) ?_ (ints_oneCell _ _) ?_ ?_ hbase (fun v' w' a b _ => h v' w' (by simpa using a) b)
    · intro j u hj
      rw [List.getElem?_map] at hj
      cases hxj : xs[j]? with
      | none => rw [hxj] at hj; cases hj
      | some x' =>
        rw [hxj] at hj
        injection hj with hj
        subst hj
        have hm : 0 < m := by
          rcases Nat.eq_zero_or_pos m with g | g
          · subst g
            rw [List.eq_nil_of_length_eq_zero hr.len] at hxj; simp at hxj
          · exact g
        obtain ⟨b, off, e, hb, hc⟩ := hr.cells hm
        injection e with e
        subst e
        have e2 : (⟨b, off, none⟩ : Addr).add j = ⟨b, off + j, none⟩ := by
          unfold Addr.add; split
          · rename_i h0; subst h0; rfl
          · rfl
        rw [e2]
        exact hc j x' hxj
    · unfold maxLen; omega
    · omega
end
/-- Digits, as they were told, in new memory. -/
def AnsC (xs : List Int) (n : Nat) (w : World) (e : Ending) (w' : World) : Prop := ∃ B cap, e = .returned (.slice B n cap) ∧ Told w' B n cap xs ∧ Below w.heap.size w w'
set_option maxHeartbeats 400000 in
theorem copied_any {A : Option Addr} {n c : Nat} {xs : List Int} {w : World} (h : Told w A n c xs) (hn : n ≤ 100000) :
    Calls Try.prog 11 #[.slice A n c] w (AnsC xs n w) := by
  have hrd := h.rd.alloc (.cells #[] 62)
  have hown : (w.alloc (.cells #[] 62)).ownsRow w.heap.size 62 1 (.slice (some ⟨w.heap.size, 0, none⟩) 0 0) 0 (([] : List Int).map (Value.int .u64)) := World.ownsRow_lit w #[] 0 (Nat.le_refl _) (by unfold maxLen; omega) rfl
  go_enter Try.func11, Try.ntmps11
  go_wp2_with (at_builtin; refine wpList_cat _ rfl _ _ 23 rfl w.heap.size 62 .u64 Try.underlying23 info62u _ _ [] rfl hown _ _ _ xs rfl hrd (by omega) ?hb ?_)
  case hb => simp
  intro v' w1 hown' hgrow
  have hb3 := own_below ((Below.refl _ _).alloc (Nat.le_refl _) _) hown hgrow (by simp) (Nat.le_refl _)
  have hown2 : w1.ownsRow w.heap.size 62 1 v' n (xs.map (Value.int .u64)) := by simpa using hown'
  obtain ⟨B, cap, rfl, hr2, hcap, -⟩ := own_rd hown2
  clear hown hgrow hown' hown2
  go_wp2
  go_ret
  exact ⟨B, cap, rfl, ⟨hr2, h.dig_, hcap, h.c60⟩, hb3⟩
theorem long_any {A : Option Addr} {n c : Nat} {N : Int} {w : World} (h : Nm w A n c N) :
    Calls Try.prog 15 #[.slice A n c] w fun e w' => e = .returned (.bool (decide (64 < (dl N : Int)))) ∧ w = w' := by
  go_enter Try.func15, Try.ntmps15
  go_wp2_with fail
  refine (Limbs_nm h).mono ?_
  rintro e w1 ⟨rfl, rfl⟩
  go_wp2
  go_ret
  exact ⟨rfl, rfl⟩
theorem long_no {A : Option Addr} {n c : Nat} {N : Int} {w : World} (h : Nm w A n c N) (hl : dl N ≤ 64) :
    Calls Try.prog 15 #[.slice A n c] w fun e w' => e = .returned (.bool false) ∧ w = w' :=
  (long_any h).mono fun e w' ⟨he, hw⟩ => ⟨by rw [he, decide_eq_false (by omega)], hw⟩
theorem long_yes {A : Option Addr} {n c : Nat} {N : Int} {w : World} (h : Nm w A n c N) (hl : 64 < dl N) :
    Calls Try.prog 15 #[.slice A n c] w fun e w' => e = .returned (.bool true) ∧ w = w' :=
  (long_any h).mono fun e w' ⟨he, hw⟩ => ⟨by rw [he, decide_eq_true (by omega)], hw⟩
theorem same_told {A B : Option Addr} {n c c' : Nat} {xs : List Int} {w : World} (h : Told w A n c xs) (h' : Told w B n c' xs) :
    Calls Try.prog 14 #[.slice A n c, .slice B n c'] w (AnsV (.bool true) w) :=
  (same_yes h.rd h'.rd h.c60).mono fun e w' ⟨he, q, hq⟩ => ⟨he, hq ▸ below_drewN (Below.refl _ _) q⟩
end Go.Proofs.Ytejggejpafpahaa
