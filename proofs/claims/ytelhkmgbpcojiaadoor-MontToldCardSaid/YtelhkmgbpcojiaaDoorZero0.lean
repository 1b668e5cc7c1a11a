/-
  Noughts appended to what the call itself made: append(s, make(T, m)...).
-/
import Derived.Test.YtelhkmgbpcojiaaDoorAr0
import Derived.Test.YtelhkmgbpcojiaaDoorOwn
import Derived.Lib.AppendZerosOnto
namespace Go.Proofs.YtelhkmgbpcojiaaDoor
open Go.RowKit
set_option linter.unusedVariables false
theorem zero_cells (k : IntKind) (m : Nat) : (Builtin.zeroCells (Value.int k 0).cells m).toList = (List.replicate m (0 : Int)).map (Value.int k) := by
  apply List.ext_getElem
  · simp [Builtin.zeroCells, Value.cells]
  · intro j h1 h2
    simp [Builtin.zeroCells, Value.cells, Nat.mod_one]
theorem zero_cells' (k : IntKind) (m : Nat) : Builtin.zeroCells (Value.int k 0).cells m = ((List.replicate m (0 : Int)).map (Value.int k)).toArray := by
  rw [← zero_cells]
theorem run_zeros_own {P : Program} (w : World) (base : Nat) (t tn ty e : TypeId) (k kn : IntKind) (ht : P.underlying t = some (.slice e)) (htn : P.underlying tn = some (.int kn))
    (hi : (P.info? e).map (fun i => (i.zero, i.size, i.bytes)) = some (some (.int k 0), 1, 8)) (v : Value) (n : Nat) (L : List Int) (hown : w.ownsRow base e 1 v n (L.map (Value.int k)))
    (m : Nat) (hnm : n + m ≤ 100000) (hbase : base ≤ w.heap.size) :
    ∃ v' w', (Builtin.append_ #[t, tn] ty #[v, .int .i64 m]).run P w = .ok v' w' ∧ w'.ownsRow base e 1 v' (n + m) ((L ++ List.replicate m 0).map (Value.int k)) ∧ w.grownBy w' v.ownBlock := by
  obtain ⟨i, h1, h2, h3, h4⟩ := info_parts hi
  have hw : IntKind.i64.wrap (m : Int) = m := by rw [IntKind.wrap_i64]; omega
  have hw0 : IntKind.i64.wrap 0 = 0 := IntWalk.i64_in _ (by omega)
  have hneg : ¬ ((m : Int) < 0) := by omega
  have h48i : ¬ (281474976710656 < (m : Int) * 8) := by omega
  have hlL : L.length = n := by have := hown.1; simpa using this
  have hlen : ((L ++ List.replicate m 0).map (Value.int k)).length = (n + m) * 1 := by simp [hlL]
  have grown : ∀ (old : Nat), old < n + m → ∀ (row : Option Nat),
      (w.drew.alloc (.cells ((L.map (Value.int k)).toArray ++ Builtin.zeroCells (Value.int k 0).cells m ++ Builtin.zeroCells (Value.int k 0).cells (grownCap w (n + m) old e - (n + m))) e)).ownsRow base e 1
        (.slice (some ⟨w.heap.size, 0, none⟩) (n + m) (grownCap w (n + m) old e)) (n + m) ((L ++ List.replicate m 0).map (Value.int k)) ∧
      w.grownBy (w.drew.alloc (.cells ((L.map (Value.int k)).toArray ++ Builtin.zeroCells (Value.int k 0).cells m ++ Builtin.zeroCells (Value.int k 0).cells (grownCap w (n + m) old e - (n + m))) e)) row := by
    intro old ho row
    have hge := grownCap_ge w (n + m) old e
    have hcm : grownCap w (n + m) old e ≤ maxLen := grownCap_le_maxLen w (n + m) old e (by unfold maxLen; omega)
    refine ⟨⟨hlen, .inr ⟨w.heap.size, _, _, rfl, hbase, Go.heap_alloc_new w.drew _, hge, hcm, ?_, ?_⟩⟩, ⟨rfl, rfl, rfl, by simp, fun k hk _ => Go.heap_alloc_old w.drew _ hk⟩⟩
    · simp [size_zeroCells, Value.cells, hlL]
      omega
    · rw [Array.toList_append, Array.toList_append, zero_cells k m, ← List.map_append, ← hlen]
      exact List.take_left
  rcases hown.2 with ⟨rfl, rfl⟩ | ⟨g, cap, cur, rfl, hbg, hg, hnc, hcm, hcs, htake⟩
  · obtain rfl : L = [] := List.eq_nil_of_length_eq_zero hlL
    rcases Nat.eq_zero_or_pos m with hm | hm
    · subst hm
      refine ⟨.slice none 0 0, w, ?_, World.ownsRow_nil w base e 1, ⟨rfl, rfl, rfl, Nat.le_refl _, fun _ _ _ => rfl⟩⟩
      simp [Builtin.append_, run_underlying ht, run_underlying htn, sizeOf, typeInfo, h1, h4, asInt, asIntOf, hw0]
    · have hr := Lib.run_append_nil_zeros (P := P) w t tn ty e i (.int k 0) .i64 kn ht htn h1 h2 m hm (by omega) (by omega) (by rw [h4]; omega)
      have hgr := grown 0 (by omega) (Value.ownBlock (.slice none 0 0))
      simp only [Nat.zero_add, List.nil_append, Array.empty_append, List.map_nil] at hgr ⊢
      exact ⟨_, _, hr, hgr.1, hgr.2⟩
  · by_cases hroom : n + m ≤ cap
    · have hst := run_storeCells_at P g n e ((List.replicate m (0 : Int)).map (Value.int k)) 0 cur w hg (by simp [hcs]; omega) (ints_oneCell _ _)
      simp only [Nat.add_zero] at hst
      have hr : (Builtin.append_ #[t, tn] ty #[.slice (some ⟨g, 0, none⟩) n cap, .int .i64 m]).run P w =
          .ok (.slice (some ⟨g, 0, none⟩) (n + m) cap) (w.setRow g (cur.toList.take n ++ (List.replicate m (0 : Int)).map (Value.int k) ++ cur.toList.drop (n + ((List.replicate m (0 : Int)).map (Value.int k)).length)).toArray) := by
        rcases Nat.eq_zero_or_pos m with hm | hm
        · subst hm
          simp [Builtin.append_, run_underlying ht, run_underlying htn, sizeOf, typeInfo, h1, h4, asInt, asIntOf, hw0, hnc, storeCells, Addr.add_lit] at hst ⊢
          exact hst
        · have hns : ¬ m = 0 := by omega
          simp [Builtin.append_, run_underlying ht, run_underlying htn, sizeOf, typeInfo, zeroValue, h1, h2, h3, h4, asInt, asIntOf, hw, hneg, h48i, hns, hroom, zero_cells', Addr.add_lit] at hst ⊢
          rw [hst]; rfl
      refine ⟨_, _, hr, ⟨hlen, .inr ⟨g, cap, _, rfl, hbg, setRow_heap w g cur _ e _ hg, hroom, hcm, ?_, ?_⟩⟩, ⟨rfl, rfl, rfl, by simp, fun k _ hk => setRow_other w g k _ (fun e => hk (by simp [Value.ownBlock, e]))⟩⟩
      · simp at hcs ⊢; omega
      · simp only [Nat.mul_one] at htake ⊢
        rw [htake, ← List.map_append]
        have : n + m = ((L ++ List.replicate m 0).map (Value.int k)).length := by simp [hlL]
        rw [this]
        exact List.take_left
    · have holds : ∀ j u, (L.map (Value.int k))[j]? = some u → w.cell? ((⟨g, 0, none⟩ : Addr).add j) = some u := hown.cells (g := g) rfl
      have hf := run_firstCells_some (P := P) w.drew i.size n ⟨g, 0, none⟩ n cap (L.map (Value.int k)) (by simp [hlL, h3]) (by simpa using holds)
      have hr := Lib.run_append_grow_zeros (P := P) w t tn ty e i (.int k 0) .i64 kn ht htn h1 h2 (some ⟨g, 0, none⟩) n cap _ hf m (by omega) (by omega) (by omega) (by omega) (by rw [h4]; omega) (growslice_fits (by omega) (by rw [h4]; omega))
      have hgr := grown cap (by omega) (Value.ownBlock (.slice (some ⟨g, 0, none⟩) n cap))
      exact ⟨_, _, hr, hgr.1, hgr.2⟩
/-- append(s, make(T, m)...), for a walk. -/
theorem wpList_zeros {P : Program} (w : World) {ops : Array Oper} {rest : List Oper} {o : Oper} {a : Act} {Q : Exit → Act → World → Prop} (hgd : o.guard = none) (s x : Operand) (t tn : TypeId)
    (ho : o.op = .call { callee := .builtin .append, args := #[s, x], argTypes := #[t, tn] })
    (base : Nat) (e : TypeId) (k kn : IntKind) (ht : P.underlying t = some (.slice e)) (htn : P.underlying tn = some (.int kn)) (hi : (P.info? e).map (fun i => (i.zero, i.size, i.bytes)) = some (some (.int k 0), 1, 8))
    (v : Value) (n : Nat) (L : List Int) (hs : a.eval s = v) (hown : w.ownsRow base e 1 v n (L.map (Value.int k)))
    (m : Nat) (hx : a.eval x = .int .i64 m) (hn : n + m ≤ 100000) (hbase : base ≤ w.heap.size)
    (h : ∀ v' w', w'.ownsRow base e 1 v' (n + m) ((L ++ List.replicate m 0).map (Value.int k)) → w.grownBy w' v.ownBlock → wpList P ops Q rest (a.put o.dst v') w') : wpList P ops Q (o :: rest) a w := by
  obtain ⟨v', w', hr, h1, h2⟩ := run_zeros_own w base t tn o.type e k kn ht htn hi v n L hown m hn hbase
  exact Lib.wpList_append_run w hgd s x t tn ho v _ hs hx v' w' hr (h v' w' h1 h2)
/-- Noughts behind the digits: the same number. -/
theorem val_back (b : Int) (xs : List Int) (m : Nat) : val b (xs ++ List.replicate m 0) = val b xs := by
  induction xs with
  | nil =>
    induction m with
    | zero => rfl
    | succ m ih => simp only [List.nil_append] at ih ⊢; simp [List.replicate_succ, val] at ih ⊢; simp [ih]
  | cons x xs ih => simp [val, ih]
theorem own_told {w : World} {base n m : Nat} {v : Value} {xs : List Int} (h : w.ownsRow base 32 1 v (n + m) ((xs ++ List.replicate m 0).map (Value.int .u64))) (hd : Dig W xs) (hnm : n + m ≤ 100000) :
    ∃ A cap, v = .slice A (n + m) cap ∧ Ar w A (n + m) cap (xs ++ List.replicate m 0) (val W xs) := by
  obtain ⟨A, cap, rfl, hr, hc, -⟩ := own_rd h
  refine ⟨A, cap, rfl, ⟨⟨hr, fun x hx => ?_, hc, by omega⟩, val_back _ _ _⟩⟩
  rcases List.mem_append.1 hx with h | h
  · exact hd x h
  · rw [(List.mem_replicate.1 h).2]; decide
end Go.Proofs.YtelhkmgbpcojiaaDoor
