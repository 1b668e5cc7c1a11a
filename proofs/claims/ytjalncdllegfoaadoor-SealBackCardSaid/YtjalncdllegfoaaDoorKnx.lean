/-
  Several texts in one: Ltr, Knw, Knu.
-/
import Derived.Test.YtjalncdllegfoaaDoorPri
import Derived.Great.BuildSlice
import Derived.Great.Walk
import Derived.Test.YtjalncdllegfoaaDoorGro
/-
  Great literals of numbers, steps and chains, laid one by one: what follows knows what they are, not where they lie.
-/
namespace Go.Proofs.YtjalncdllegfoaaDoor
open Go.RowKit
set_option linter.unusedVariables false
instance stpInh : Inhabited Stp := ⟨⟨none, 0, 0, none, 0, 0, none, 0, 0, 0, 0, 0⟩⟩
/-- A step's three cells. -/
def cells3 (s : Stp) : List Value := [.slice s.A1 s.n1 s.c1, .slice s.A2 s.n2 s.c2, .slice s.A3 s.n3 s.c3]
theorem flat3 : ∀ (l : List Stp) (i : Nat) (s : Stp), l[i]? = some s → (l.flatMap cells3)[i * 3]? = some (.slice s.A1 s.n1 s.c1) ∧ (l.flatMap cells3)[i * 3 + 1]? = some (.slice s.A2 s.n2 s.c2) ∧ (l.flatMap cells3)[i * 3 + 2]? = some (.slice s.A3 s.n3 s.c3)
  | [], i, s, h => by simp at h
  | x :: r, 0, s, h => by
    obtain rfl : x = s := by simpa using h
    simp [List.flatMap_cons, cells3]
  | x :: r, i + 1, s, h => by
    obtain ⟨h1, h2, h3⟩ := flat3 r i s (by simpa using h)
    rw [List.flatMap_cons, show (i + 1) * 3 = i * 3 + 3 by omega]
    refine ⟨?_, ?_, ?_⟩
    · rw [List.getElem?_append_right (by simp [cells3]), show i * 3 + 3 - (cells3 x).length = i * 3 by simp [cells3]]; exact h1
    · rw [List.getElem?_append_right (by simp [cells3]), show i * 3 + 3 + 1 - (cells3 x).length = i * 3 + 1 by simp [cells3]]; exact h2
    · rw [List.getElem?_append_right (by simp [cells3]), show i * 3 + 3 + 2 - (cells3 x).length = i * 3 + 2 by simp [cells3]]; exact h3
theorem ch_list {w : World} {N : Nat} (l : List Stp) (hrow : w.heap[N]? = some (.cells (l.flatMap cells3).toArray 49 (0, 0))) (hle : l.length ≤ 1000) (hat : ∀ s ∈ l, s.At w) :
    Ch w (some ⟨N, 0, none⟩) l.length l.length (fun i => l.getD i default) := by
  have get : ∀ i, i < l.length → l[i]? = some (l.getD i default) := fun i hi => by
    rw [List.getD_eq_getElem?_getD, List.getElem?_eq_getElem hi]; rfl
  have hN : N < w.heap.size := by
    rcases Nat.lt_or_ge N w.heap.size with g | g
    · exact g
    · rw [Array.getElem?_eq_none g] at hrow; cases hrow
  refine ⟨Nat.le_refl _, by omega, fun _ => ⟨N, 0, rfl, hN, fun i hi => ?_⟩, fun i hi => ?_⟩
  · obtain ⟨h1, h2, h3⟩ := flat3 l i _ (get i hi)
    rw [Nat.zero_add]
    exact ⟨by rw [cell_of_row w N _ _ _ (0, 0) hrow]; simpa using h1, by rw [cell_of_row w N _ _ _ (0, 0) hrow]; simpa using h2, by rw [cell_of_row w N _ _ _ (0, 0) hrow]; simpa using h3⟩
  · exact hat _ (List.mem_of_getElem? (get i hi))
section
variable {ops : Array Oper} {rest : List Oper} {o : Oper} {a : Act} {w : World} {Q : Exit → Act → World → Prop}
/-- A number. -/
theorem lt_nat (d : Tmp) (zs : List Int) (X : Int) {n : Nat} {parts : Array (Nat × Operand)} (ho : o.op = .buildSlice 23 n parts) (hg : o.guard = none) (hd : o.dst = some d)
    (hlen : n = zs.length) (hn : 0 < n ∧ n ≤ 1000) (hparts : parts.toList = (zs.zipIdx 0).map fun x => (x.2, Operand.const (Value.int .u64 x.1))) (hdig : (zs.all fun x => decide (0 ≤ x) && decide (x < 18446744073709551616)) = true) (hval : val W zs = X)
    (h : ∀ N w', Row w' N 45 .u64 zs → Nm w' (some ⟨N, 0, none⟩) n n X → Below w.heap.size w w' → w.heap.size ≤ N → wpList Tryd.prog ops Q rest (a.put (some d) (.slice (some ⟨N, 0, none⟩) n n)) w') : wpList Tryd.prog ops Q (o :: rest) a w := by
  have hD : Dig W zs := fun x hx => by
    have := List.all_eq_true.1 hdig x hx
    simp only [Bool.and_eq_true, decide_eq_true_eq] at this
    exact this
  have hr := Row.new w 45 .u64 zs
  refine wpList_buildFlatAt hg 23 45 n parts ho .u64 zs w.heap.size rfl (some d) hd Tryd.underlying23 (by kernel_rfl) (by kernel_rfl) hlen hn.1 (by omega) hparts (h _ _ hr ?_ (below_al _ _) (Nat.le_refl _))
  refine ⟨⟨zs, hr.rd hlen.symm fun j x hx => by rwa [Nat.zero_add], hD, hval⟩, Nat.le_refl _, by omega, ?_⟩
  rw [← hval]
  exact val_nonneg (by decide) hD
/-- A chain of steps that lie in temporaries. -/
theorem lt_chain (d : Tmp) (l : List Stp) {n : Nat} {parts : Array (Nat × Operand)} (ho : o.op = .buildSlice 31 n parts) (hg : o.guard = none) (hd : o.dst = some d)
    (hlen : n = l.length) (hle : l.length ≤ 1000) (hb : Tryd.prog.builtSlice 49 n (parts.map fun (i, x) => (i, a.eval x)).toList = some (l.flatMap cells3).toArray) (hat : ∀ s ∈ l, s.At w)
    (h : ∀ N w', Ch w' (some ⟨N, 0, none⟩) n n (fun i => l.getD i default) → Below w.heap.size w w' → w.heap.size ≤ N → wpList Tryd.prog ops Q rest (a.put (some d) (.slice (some ⟨N, 0, none⟩) n n)) w') : wpList Tryd.prog ops Q (o :: rest) a w := by
  refine Great.wpList_buildSliceTo hg 31 49 n parts ho w.heap.size rfl (some d) hd Tryd.underlying31 _ hb (h _ _ ?_ (below_al _ _) (Nat.le_refl _))
  rw [hlen]
  exact ch_list l (heap_alloc_new w _) hle fun s hs => (hat s hs).below (below_al _ _)
end
/-- The temporaries, written out. -/
theorem act_to {ops : Array Oper} {rest : List Oper} {a a' : Act} {w : World} {Q : Exit → Act → World → Prop} (h : a' = a) (hw : wpList Tryd.prog ops Q rest a' w) : wpList Tryd.prog ops Q rest a w := h ▸ hw
end Go.Proofs.YtjalncdllegfoaaDoor
/-
  What the document's Known answers: one of the known groups.
-/
namespace Go.Proofs.YtjalncdllegfoaaDoor
open Go.RowKit
set_option linter.unusedVariables false
/-- Where a slice lies, all is new. -/
def Fr (m : Nat) (A : Option Addr) : Prop := ∀ a, A = some a → m < a.block
theorem fr_some {m N : Nat} (h : m < N) : Fr m (some ⟨N, 0, none⟩) := fun a ha => by injection ha with ha; subst ha; exact h
/-- The k-th known group, in memory: a slice that is its G, and a chain that is its own; all lies behind block m. -/
def KG (k m : Nat) (w : World) (A : Option Addr) (n c : Nat) (A' : Option Addr) (n' c' : Nat) : Prop :=
  (∃ g, A = some ⟨g, 0, none⟩ ∧ m < g ∧ n = 1 ∧ c = 1 ∧ Row w g 45 .u64 [4]) ∧ ∃ S, Ch w A' n' c' S ∧ n' = (knS.getD k []).length ∧ (∀ j, j < n' → (S j).P = stepP (knS.getD k []) j ∧ (S j).Q = stepQ (knS.getD k []) j ∧ (S j).A = stepA (knS.getD k []) j ∧ (S j).n1 ≤ 4 ∧ (S j).n2 ≤ 4 ∧ (S j).n3 ≤ 4) ∧
    Fr m A' ∧ ∀ j, j < n' → Fr m (S j).A1 ∧ Fr m (S j).A2 ∧ Fr m (S j).A3
theorem Row.bel {w w' : World} {g : Nat} {t : TypeId} {k : IntKind} {xs : List Int} (h : Row w g t k xs) (hb : Below w.heap.size w w') : Row w' g t k xs := h.below hb h.lt
theorem KG.below {k m : Nat} {w w' : World} {A : Option Addr} {n c : Nat} {A' : Option Addr} {n' c' : Nat} (h : KG k m w A n c A' n' c') (hb : Below w.heap.size w w') : KG k m w' A n c A' n' c' := by
  obtain ⟨⟨g, h1, h2, h3, h4, h5⟩, S, h6, h7⟩ := h
  exact ⟨⟨g, h1, h2, h3, h4, h5.bel hb⟩, S, h6.below hb, h7⟩
theorem Row.off {w : World} {g m i : Nat} {t : TypeId} {k : IntKind} {xs : List Int} (h : Row w g t k xs) (hne : g ≠ m) (u : Value) : Row (w.setCell ⟨m, i, none⟩ u) g t k xs :=
  h.grown (grown_setCell (World.grownBy.refl w (some m)) i u) (fun e => hne (by injection e))
theorem cell_off {w : World} {b o m i : Nat} {u : Value} (hb : b < w.heap.size) (hne : b ≠ m) : (w.setCell ⟨m, i, none⟩ u).cell? ⟨b, o, none⟩ = w.cell? ⟨b, o, none⟩ :=
  World.cell?_of_block ((grown_setCell (World.grownBy.refl w (some m)) i u).block b hb (fun e => hne (by injection e)))
theorem set2 {w : World} {g : Nat} {o0 o1 : Value} (v0 v1 : Value) (h0 : w.cell? ⟨g, 0, none⟩ = some o0) (h1 : w.cell? ⟨g, 1, none⟩ = some o1) :
    (w.setCell ⟨g, 0, none⟩ v0).cell? ⟨g, 0, none⟩ = some v0 ∧ ((w.setCell ⟨g, 0, none⟩ v0).setCell ⟨g, 1, none⟩ v1).cell? ⟨g, 1, none⟩ = some v1 := by
  refine ⟨World.cell?_setCell_same _ _ _ h0, World.cell?_setCell_same _ _ _ (u := o1) ?_⟩
  rw [World.cell?_setCell_other _ _ _ _ (by simp)]; exact h1
theorem Ch.off {w : World} {a : Option Addr} {n c : Nat} {S : Nat → Stp} {m i : Nat} (h : Ch w a n c S) (ha : Fr m a) (hS : ∀ j, j < n → Fr m (S j).A1 ∧ Fr m (S j).A2 ∧ Fr m (S j).A3) (u : Value) : Ch (w.setCell ⟨m, i, none⟩ u) a n c S := by
  refine ⟨h.nc, h.c60, fun hn => ?_, fun j hj => ?_⟩
  · obtain ⟨b, off, e, hl, hc⟩ := h.ex hn
    have hb : b ≠ m := by have : m < b := ha _ e; omega
    have hs := (grown_setCell (World.grownBy.refl w (some m)) i u).size
    exact ⟨b, off, e, Nat.lt_of_lt_of_le hl hs, fun j hj => ⟨(cell_off hl hb).trans (hc j hj).c0, (cell_off hl hb).trans (hc j hj).c1, (cell_off hl hb).trans (hc j hj).c2⟩⟩
  · obtain ⟨f1, f2, f3⟩ := hS j hj
    have s := h.at_ j hj
    exact ⟨s.p.set (fun a ha => by have := f1 a ha; omega) _ _, s.q.set (fun a ha => by have := f2 a ha; omega) _ _, s.a.set (fun a ha => by have := f3 a ha; omega) _ _⟩
theorem KG.off {k m : Nat} {w : World} {A : Option Addr} {n c : Nat} {A' : Option Addr} {n' c' : Nat} (h : KG k m w A n c A' n' c') (i : Nat) (u : Value) : KG k m (w.setCell ⟨m, i, none⟩ u) A n c A' n' c' := by
  obtain ⟨⟨g, h1, h2, h3, h4, h5⟩, S, h6, h7, h8, h9, h10⟩ := h
  exact ⟨⟨g, h1, h2, h3, h4, h5.off (by omega) u⟩, S, h6.off h9 h10 u, h7, h8, h9, h10⟩
/-- A group's two slices. -/
structure Gp where
  A : Option Addr
  n : Nat
  c : Nat
  A' : Option Addr
  n' : Nat
  c' : Nat
instance : Inhabited Gp := ⟨⟨none, 0, 0, none, 0, 0⟩⟩
def cells2 (g : Gp) : List Value := [.slice g.A g.n g.c, .slice g.A' g.n' g.c']
theorem flat2 : ∀ (l : List Gp) (i : Nat) (g : Gp), l[i]? = some g → (l.flatMap cells2)[i * 2]? = some (.slice g.A g.n g.c) ∧ (l.flatMap cells2)[i * 2 + 1]? = some (.slice g.A' g.n' g.c')
  | [], i, s, h => by simp at h
  | x :: r, 0, s, h => by
    obtain rfl : x = s := by simpa using h
    simp [List.flatMap_cons, cells2]
  | x :: r, i + 1, s, h => by
    obtain ⟨h1, h2⟩ := flat2 r i s (by simpa using h)
    rw [List.flatMap_cons, show (i + 1) * 2 = i * 2 + 2 by omega]
    refine ⟨?_, ?_⟩
    · rw [List.getElem?_append_right (by simp [cells2]), show i * 2 + 2 - (cells2 x).length = i * 2 by simp [cells2]]; exact h1
    · rw [List.getElem?_append_right (by simp [cells2]), show i * 2 + 2 + 1 - (cells2 x).length = i * 2 + 1 by simp [cells2]]; exact h2
/-- The groups' slice lies at block N, the i-th group there is the i-th known one. -/
def Grs (m : Nat) (w : World) (N n : Nat) : Prop :=
  N < w.heap.size ∧ ∀ i, i < n → ∃ A m1 c A' m' c', w.cell? ⟨N, i * 2, none⟩ = some (.slice A m1 c) ∧ w.cell? ⟨N, i * 2 + 1, none⟩ = some (.slice A' m' c') ∧ KG i m w A m1 c A' m' c'
theorem grs_list {m : Nat} {w : World} {N : Nat} (l : List Gp) (hrow : w.heap[N]? = some (.cells (l.flatMap cells2).toArray 33 (0, 0))) (hat : ∀ i g, l[i]? = some g → KG i m w g.A g.n g.c g.A' g.n' g.c') : Grs m w N l.length := by
  have hN : N < w.heap.size := by
    rcases Nat.lt_or_ge N w.heap.size with g | g
    · exact g
    · rw [Array.getElem?_eq_none g] at hrow; cases hrow
  refine ⟨hN, fun i hi => ?_⟩
  have hg : l[i]? = some l[i] := List.getElem?_eq_getElem hi
  obtain ⟨h1, h2⟩ := flat2 l i _ hg
  exact ⟨_, _, _, _, _, _, by rw [cell_of_row w N _ _ _ (0, 0) hrow]; simpa using h1, by rw [cell_of_row w N _ _ _ (0, 0) hrow]; simpa using h2, hat i _ hg⟩
theorem lt_groups {m : Nat} {ops : Array Oper} {rest : List Oper} {o : Oper} {a : Act} {w : World} {Q : Exit → Act → World → Prop} (d : Tmp) (l : List Gp) {n : Nat} {parts : Array (Nat × Operand)} (ho : o.op = .buildSlice 59 n parts) (hg : o.guard = none) (hd : o.dst = some d)
    (hlen : n = l.length) (hb : Tryd.prog.builtSlice 33 n (parts.map fun (i, x) => (i, a.eval x)).toList = some (l.flatMap cells2).toArray) (hat : ∀ i g, l[i]? = some g → KG i m w g.A g.n g.c g.A' g.n' g.c')
    (h : ∀ N w', Grs m w' N n → Below w.heap.size w w' → wpList Tryd.prog ops Q rest (a.put (some d) (.slice (some ⟨N, 0, none⟩) n n)) w') : wpList Tryd.prog ops Q (o :: rest) a w := by
  refine Great.wpList_buildSliceTo hg 59 33 n parts ho w.heap.size rfl (some d) hd Tryd.underlying59 _ hb (h _ _ ?_ (below_al _ _))
  rw [hlen]
  exact grs_list l (heap_alloc_new w _) fun i g hi => (hat i g hi).below (below_al _ _)
/-- Which of the known groups. -/
def kix (i : Int) : Nat := (if i < 0 then -(i + 1) else i).toNat % 11
theorem kix_lt (i : Int) : kix i < 11 := Nat.mod_lt _ (by decide)
theorem kix_neg {i : Int} {m : Nat} (h : i < 0) (hm : i + 1 = -(m : Int)) : kix i = m % 11 := by unfold kix; rw [if_pos h]; congr 1; omega
theorem kix_pos (m : Nat) : kix (m : Int) = m % 11 := by unfold kix; rw [if_neg (by omega)]; congr 1
set_option maxHeartbeats 20000000 in
set_option maxRecDepth 100000 in
theorem known_any (i : Int) (hi : -9223372036854775808 ≤ i ∧ i ≤ 9223372036854775807) (w : World) :
    Calls Tryd.prog 6 #[.int .i64 i] w fun e w' => ∃ A n c A' n' c', e = .returned (.agg #[.slice A n c, .slice A' n' c']) ∧ KG (kix i) w.heap.size w' A n c A' n' c' ∧ Below w.heap.size w w' := by
  go_enter Tryd.func6, Tryd.ntmps6
  go_upto_region 1 with fail
  refine wp_region_list ?_
  have s0 : w.heap.size < (w.alloc (.cells #[.slice none 0 0, .slice none 0 0] 33)).heap.size := by simp
  refine lt_nat 4 [4] 4 rfl rfl rfl rfl ⟨by decide, by decide⟩ (by kernel_rfl) (by decide +kernel) (by kernel_rfl) fun N4 w4 r4 k4 b4 y4 => ?_
  have z4 := Nat.lt_of_lt_of_le s0 y4
  have q4 := Nat.lt_of_lt_of_le s0 b4.size
  clear y4 s0
  refine lt_nat 5 [100547] 100547 rfl rfl rfl rfl ⟨by decide, by decide⟩ (by kernel_rfl) (by decide +kernel) (by kernel_rfl) fun N5 w5 r5 k5 b5 y5 => ?_
  have z5 := Nat.lt_of_lt_of_le q4 y5
  have q5 := Nat.lt_of_lt_of_le q4 b5.size
  clear y5 q4
  refine lt_nat 6 [50273] 50273 rfl rfl rfl rfl ⟨by decide, by decide⟩ (by kernel_rfl) (by decide +kernel) (by kernel_rfl) fun N6 w6 r6 k6 b6 y6 => ?_
  have z6 := Nat.lt_of_lt_of_le q5 y6
  have q6 := Nat.lt_of_lt_of_le q5 b6.size
  clear y6 q5
  refine lt_nat 7 [2] 2 rfl rfl rfl rfl ⟨by decide, by decide⟩ (by kernel_rfl) (by decide +kernel) (by kernel_rfl) fun N7 w7 r7 k7 b7 y7 => ?_
  have z7 := Nat.lt_of_lt_of_le q6 y7
  have q7 := Nat.lt_of_lt_of_le q6 b7.size
  clear y7 q6
  refine wpList_buildTo rfl 49 _ rfl (some 8) rfl #[.slice (some ⟨N5, 0, none⟩) 1 1, .slice (some ⟨N6, 0, none⟩) 1 1, .slice (some ⟨N7, 0, none⟩) 1 1] (by kernel_rfl) ?_
  have s8 : Stp.At _ ⟨some ⟨N5, 0, none⟩, 1, 1, some ⟨N6, 0, none⟩, 1, 1, some ⟨N7, 0, none⟩, 1, 1, 100547, 50273, 2⟩ := ⟨(k5.below b6).below b7, k6.below b7, k7⟩
  have c1 := b5.trans (b6.mono b5.size)
  have c2 := c1.trans (b7.mono c1.size)
  have r4 := r4.bel c2
  clear k5 r5 k6 r6 k7 r7
  refine lt_chain 9 [⟨some ⟨N5, 0, none⟩, 1, 1, some ⟨N6, 0, none⟩, 1, 1, some ⟨N7, 0, none⟩, 1, 1, 100547, 50273, 2⟩] rfl rfl rfl rfl (by simp) (by kernel_rfl) (List.forall_mem_cons.2 ⟨s8, fun _ h => by cases h⟩) fun N9 w9 k9 b9 y9 => ?_
  have z9 := Nat.lt_of_lt_of_le q7 y9
  have q9 := Nat.lt_of_lt_of_le q7 b9.size
  clear y9 q7
  have r4 := r4.bel b9
  clear s8
  refine wpList_buildTo rfl 33 _ rfl (some 10) rfl #[.slice (some ⟨N4, 0, none⟩) 1 1, .slice (some ⟨N9, 0, none⟩) 1 1] (by kernel_rfl) ?_
  have g10 : KG 0 w.heap.size _ (some ⟨N4, 0, none⟩) 1 1 (some ⟨N9, 0, none⟩) 1 1 := ⟨⟨_, rfl, z4, rfl, rfl, r4⟩, _, k9, rfl, (fun j hj => by match j, hj with | 0, _ => exact ⟨rfl, rfl, rfl, Nat.le_of_ble_eq_true rfl, Nat.le_of_ble_eq_true rfl, Nat.le_of_ble_eq_true rfl⟩), fr_some z9, (fun j hj => by match j, hj with | 0, _ => exact ⟨fr_some z5, fr_some z6, fr_some z7⟩)⟩
  have c3 := b4.trans (c2.mono b4.size)
  have c4 := c3.trans (b9.mono c3.size)
  clear r4 k4 k9
  refine lt_nat 11 [4] 4 rfl rfl rfl rfl ⟨by decide, by decide⟩ (by kernel_rfl) (by decide +kernel) (by kernel_rfl) fun N11 w11 r11 k11 b11 y11 => ?_
  have z11 := Nat.lt_of_lt_of_le q9 y11
  have q11 := Nat.lt_of_lt_of_le q9 b11.size
  clear y11 q9
  refine lt_nat 12 [16384079] 16384079 rfl rfl rfl rfl ⟨by decide, by decide⟩ (by kernel_rfl) (by decide +kernel) (by kernel_rfl) fun N12 w12 r12 k12 b12 y12 => ?_
  have z12 := Nat.lt_of_lt_of_le q11 y12
  have q12 := Nat.lt_of_lt_of_le q11 b12.size
  clear y12 q11
  refine lt_nat 13 [8192039] 8192039 rfl rfl rfl rfl ⟨by decide, by decide⟩ (by kernel_rfl) (by decide +kernel) (by kernel_rfl) fun N13 w13 r13 k13 b13 y13 => ?_
  have z13 := Nat.lt_of_lt_of_le q12 y13
  have q13 := Nat.lt_of_lt_of_le q12 b13.size
  clear y13 q12
  refine lt_nat 14 [2] 2 rfl rfl rfl rfl ⟨by decide, by decide⟩ (by kernel_rfl) (by decide +kernel) (by kernel_rfl) fun N14 w14 r14 k14 b14 y14 => ?_
  have z14 := Nat.lt_of_lt_of_le q13 y14
  have q14 := Nat.lt_of_lt_of_le q13 b14.size
  clear y14 q13
  refine wpList_buildTo rfl 49 _ rfl (some 15) rfl #[.slice (some ⟨N12, 0, none⟩) 1 1, .slice (some ⟨N13, 0, none⟩) 1 1, .slice (some ⟨N14, 0, none⟩) 1 1] (by kernel_rfl) ?_
  have s15 : Stp.At _ ⟨some ⟨N12, 0, none⟩, 1, 1, some ⟨N13, 0, none⟩, 1, 1, some ⟨N14, 0, none⟩, 1, 1, 16384079, 8192039, 2⟩ := ⟨(k12.below b13).below b14, k13.below b14, k14⟩
  have c5 := b12.trans (b13.mono b12.size)
  have c6 := c5.trans (b14.mono c5.size)
  have r11 := r11.bel c6
  clear k12 r12 k13 r13 k14 r14
  refine lt_nat 16 [8192039] 8192039 rfl rfl rfl rfl ⟨by decide, by decide⟩ (by kernel_rfl) (by decide +kernel) (by kernel_rfl) fun N16 w16 r16 k16 b16 y16 => ?_
  have z16 := Nat.lt_of_lt_of_le q14 y16
  have q16 := Nat.lt_of_lt_of_le q14 b16.size
  clear y16 q14
  refine lt_nat 17 [42227] 42227 rfl rfl rfl rfl ⟨by decide, by decide⟩ (by kernel_rfl) (by decide +kernel) (by kernel_rfl) fun N17 w17 r17 k17 b17 y17 => ?_
  have z17 := Nat.lt_of_lt_of_le q16 y17
  have q17 := Nat.lt_of_lt_of_le q16 b17.size
  clear y17 q16
  refine lt_nat 18 [2] 2 rfl rfl rfl rfl ⟨by decide, by decide⟩ (by kernel_rfl) (by decide +kernel) (by kernel_rfl) fun N18 w18 r18 k18 b18 y18 => ?_
  have z18 := Nat.lt_of_lt_of_le q17 y18
  have q18 := Nat.lt_of_lt_of_le q17 b18.size
  clear y18 q17
  refine wpList_buildTo rfl 49 _ rfl (some 19) rfl #[.slice (some ⟨N16, 0, none⟩) 1 1, .slice (some ⟨N17, 0, none⟩) 1 1, .slice (some ⟨N18, 0, none⟩) 1 1] (by kernel_rfl) ?_
  have s19 : Stp.At _ ⟨some ⟨N16, 0, none⟩, 1, 1, some ⟨N17, 0, none⟩, 1, 1, some ⟨N18, 0, none⟩, 1, 1, 8192039, 42227, 2⟩ := ⟨(k16.below b17).below b18, k17.below b18, k18⟩
  have c7 := b16.trans (b17.mono b16.size)
  have c8 := c7.trans (b18.mono c7.size)
  have s15 := s15.below c8
  have r11 := r11.bel c8
  clear k16 r16 k17 r17 k18 r18
  refine lt_chain 20 [⟨some ⟨N12, 0, none⟩, 1, 1, some ⟨N13, 0, none⟩, 1, 1, some ⟨N14, 0, none⟩, 1, 1, 16384079, 8192039, 2⟩, ⟨some ⟨N16, 0, none⟩, 1, 1, some ⟨N17, 0, none⟩, 1, 1, some ⟨N18, 0, none⟩, 1, 1, 8192039, 42227, 2⟩] rfl rfl rfl rfl (by simp) (by kernel_rfl) (List.forall_mem_cons.2 ⟨s15, List.forall_mem_cons.2 ⟨s19, fun _ h => by cases h⟩⟩) fun N20 w20 k20 b20 y20 => ?_
  have z20 := Nat.lt_of_lt_of_le q18 y20
  have q20 := Nat.lt_of_lt_of_le q18 b20.size
  clear y20 q18
  have r11 := r11.bel b20
  clear s15 s19
  refine wpList_buildTo rfl 33 _ rfl (some 21) rfl #[.slice (some ⟨N11, 0, none⟩) 1 1, .slice (some ⟨N20, 0, none⟩) 2 2] (by kernel_rfl) ?_
  have g21 : KG 1 w.heap.size _ (some ⟨N11, 0, none⟩) 1 1 (some ⟨N20, 0, none⟩) 2 2 := ⟨⟨_, rfl, z11, rfl, rfl, r11⟩, _, k20, rfl, (fun j hj => by match j, hj with | 0, _ => exact ⟨rfl, rfl, rfl, Nat.le_of_ble_eq_true rfl, Nat.le_of_ble_eq_true rfl, Nat.le_of_ble_eq_true rfl⟩ | 1, _ => exact ⟨rfl, rfl, rfl, Nat.le_of_ble_eq_true rfl, Nat.le_of_ble_eq_true rfl, Nat.le_of_ble_eq_true rfl⟩), fr_some z20, (fun j hj => by match j, hj with | 0, _ => exact ⟨fr_some z12, fr_some z13, fr_some z14⟩ | 1, _ => exact ⟨fr_some z16, fr_some z17, fr_some z18⟩)⟩
  have c9 := b11.trans (c6.mono b11.size)
  have c10 := c9.trans (c8.mono c9.size)
  have c11 := c10.trans (b20.mono c10.size)
  have g10 := g10.below c11
  clear r11 k11 k20
  refine lt_nat 22 [4] 4 rfl rfl rfl rfl ⟨by decide, by decide⟩ (by kernel_rfl) (by decide +kernel) (by kernel_rfl) fun N22 w22 r22 k22 b22 y22 => ?_
  have z22 := Nat.lt_of_lt_of_le q20 y22
  have q22 := Nat.lt_of_lt_of_le q20 b22.size
  clear y22 q20
  refine lt_nat 23 [895270319] 895270319 rfl rfl rfl rfl ⟨by decide, by decide⟩ (by kernel_rfl) (by decide +kernel) (by kernel_rfl) fun N23 w23 r23 k23 b23 y23 => ?_
  have z23 := Nat.lt_of_lt_of_le q22 y23
  have q23 := Nat.lt_of_lt_of_le q22 b23.size
  clear y23 q22
  refine lt_nat 24 [447635159] 447635159 rfl rfl rfl rfl ⟨by decide, by decide⟩ (by kernel_rfl) (by decide +kernel) (by kernel_rfl) fun N24 w24 r24 k24 b24 y24 => ?_
  have z24 := Nat.lt_of_lt_of_le q23 y24
  have q24 := Nat.lt_of_lt_of_le q23 b24.size
  clear y24 q23
  refine lt_nat 25 [2] 2 rfl rfl rfl rfl ⟨by decide, by decide⟩ (by kernel_rfl) (by decide +kernel) (by kernel_rfl) fun N25 w25 r25 k25 b25 y25 => ?_
  have z25 := Nat.lt_of_lt_of_le q24 y25
  have q25 := Nat.lt_of_lt_of_le q24 b25.size
  clear y25 q24
  refine wpList_buildTo rfl 49 _ rfl (some 26) rfl #[.slice (some ⟨N23, 0, none⟩) 1 1, .slice (some ⟨N24, 0, none⟩) 1 1, .slice (some ⟨N25, 0, none⟩) 1 1] (by kernel_rfl) ?_
  have s26 : Stp.At _ ⟨some ⟨N23, 0, none⟩, 1, 1, some ⟨N24, 0, none⟩, 1, 1, some ⟨N25, 0, none⟩, 1, 1, 895270319, 447635159, 2⟩ := ⟨(k23.below b24).below b25, k24.below b25, k25⟩
  have c12 := b23.trans (b24.mono b23.size)
  have c13 := c12.trans (b25.mono c12.size)
  have r22 := r22.bel c13
  clear k23 r23 k24 r24 k25 r25
  refine lt_nat 27 [447635159] 447635159 rfl rfl rfl rfl ⟨by decide, by decide⟩ (by kernel_rfl) (by decide +kernel) (by kernel_rfl) fun N27 w27 r27 k27 b27 y27 => ?_
  have z27 := Nat.lt_of_lt_of_le q25 y27
  have q27 := Nat.lt_of_lt_of_le q25 b27.size
  clear y27 q25
  refine lt_nat 28 [45949] 45949 rfl rfl rfl rfl ⟨by decide, by decide⟩ (by kernel_rfl) (by decide +kernel) (by kernel_rfl) fun N28 w28 r28 k28 b28 y28 => ?_
  have z28 := Nat.lt_of_lt_of_le q27 y28
  have q28 := Nat.lt_of_lt_of_le q27 b28.size
  clear y28 q27
  refine lt_nat 29 [2] 2 rfl rfl rfl rfl ⟨by decide, by decide⟩ (by kernel_rfl) (by decide +kernel) (by kernel_rfl) fun N29 w29 r29 k29 b29 y29 => ?_
  have z29 := Nat.lt_of_lt_of_le q28 y29
  have q29 := Nat.lt_of_lt_of_le q28 b29.size
  clear y29 q28
  refine wpList_buildTo rfl 49 _ rfl (some 30) rfl #[.slice (some ⟨N27, 0, none⟩) 1 1, .slice (some ⟨N28, 0, none⟩) 1 1, .slice (some ⟨N29, 0, none⟩) 1 1] (by kernel_rfl) ?_
  have s30 : Stp.At _ ⟨some ⟨N27, 0, none⟩, 1, 1, some ⟨N28, 0, none⟩, 1, 1, some ⟨N29, 0, none⟩, 1, 1, 447635159, 45949, 2⟩ := ⟨(k27.below b28).below b29, k28.below b29, k29⟩
  have c14 := b27.trans (b28.mono b27.size)
  have c15 := c14.trans (b29.mono c14.size)
  have s26 := s26.below c15
  have r22 := r22.bel c15
  clear k27 r27 k28 r28 k29 r29
  refine lt_chain 31 [⟨some ⟨N23, 0, none⟩, 1, 1, some ⟨N24, 0, none⟩, 1, 1, some ⟨N25, 0, none⟩, 1, 1, 895270319, 447635159, 2⟩, ⟨some ⟨N27, 0, none⟩, 1, 1, some ⟨N28, 0, none⟩, 1, 1, some ⟨N29, 0, none⟩, 1, 1, 447635159, 45949, 2⟩] rfl rfl rfl rfl (by simp) (by kernel_rfl) (List.forall_mem_cons.2 ⟨s26, List.forall_mem_cons.2 ⟨s30, fun _ h => by cases h⟩⟩) fun N31 w31 k31 b31 y31 => ?_
  have z31 := Nat.lt_of_lt_of_le q29 y31
  have q31 := Nat.lt_of_lt_of_le q29 b31.size
  clear y31 q29
  have r22 := r22.bel b31
  clear s26 s30
  refine wpList_buildTo rfl 33 _ rfl (some 32) rfl #[.slice (some ⟨N22, 0, none⟩) 1 1, .slice (some ⟨N31, 0, none⟩) 2 2] (by kernel_rfl) ?_
  have g32 : KG 2 w.heap.size _ (some ⟨N22, 0, none⟩) 1 1 (some ⟨N31, 0, none⟩) 2 2 := ⟨⟨_, rfl, z22, rfl, rfl, r22⟩, _, k31, rfl, (fun j hj => by match j, hj with | 0, _ => exact ⟨rfl, rfl, rfl, Nat.le_of_ble_eq_true rfl, Nat.le_of_ble_eq_true rfl, Nat.le_of_ble_eq_true rfl⟩ | 1, _ => exact ⟨rfl, rfl, rfl, Nat.le_of_ble_eq_true rfl, Nat.le_of_ble_eq_true rfl, Nat.le_of_ble_eq_true rfl⟩), fr_some z31, (fun j hj => by match j, hj with | 0, _ => exact ⟨fr_some z23, fr_some z24, fr_some z25⟩ | 1, _ => exact ⟨fr_some z27, fr_some z28, fr_some z29⟩)⟩
  have c16 := b22.trans (c13.mono b22.size)
  have c17 := c16.trans (c15.mono c16.size)
  have c18 := c17.trans (b31.mono c17.size)
  have g10 := g10.below c18
  have g21 := g21.below c18
  clear r22 k22 k31
  refine lt_nat 33 [4] 4 rfl rfl rfl rfl ⟨by decide, by decide⟩ (by kernel_rfl) (by decide +kernel) (by kernel_rfl) fun N33 w33 r33 k33 b33 y33 => ?_
  have z33 := Nat.lt_of_lt_of_le q31 y33
  have q33 := Nat.lt_of_lt_of_le q31 b33.size
  clear y33 q31
  refine lt_nat 34 [956960304107] 956960304107 rfl rfl rfl rfl ⟨by decide, by decide⟩ (by kernel_rfl) (by decide +kernel) (by kernel_rfl) fun N34 w34 r34 k34 b34 y34 => ?_
  have z34 := Nat.lt_of_lt_of_le q33 y34
  have q34 := Nat.lt_of_lt_of_le q33 b34.size
  clear y34 q33
  refine lt_nat 35 [478480152053] 478480152053 rfl rfl rfl rfl ⟨by decide, by decide⟩ (by kernel_rfl) (by decide +kernel) (by kernel_rfl) fun N35 w35 r35 k35 b35 y35 => ?_
  have z35 := Nat.lt_of_lt_of_le q34 y35
  have q35 := Nat.lt_of_lt_of_le q34 b35.size
  clear y35 q34
  refine lt_nat 36 [2] 2 rfl rfl rfl rfl ⟨by decide, by decide⟩ (by kernel_rfl) (by decide +kernel) (by kernel_rfl) fun N36 w36 r36 k36 b36 y36 => ?_
  have z36 := Nat.lt_of_lt_of_le q35 y36
  have q36 := Nat.lt_of_lt_of_le q35 b36.size
  clear y36 q35
  refine wpList_buildTo rfl 49 _ rfl (some 37) rfl #[.slice (some ⟨N34, 0, none⟩) 1 1, .slice (some ⟨N35, 0, none⟩) 1 1, .slice (some ⟨N36, 0, none⟩) 1 1] (by kernel_rfl) ?_
  have s37 : Stp.At _ ⟨some ⟨N34, 0, none⟩, 1, 1, some ⟨N35, 0, none⟩, 1, 1, some ⟨N36, 0, none⟩, 1, 1, 956960304107, 478480152053, 2⟩ := ⟨(k34.below b35).below b36, k35.below b36, k36⟩
  have c19 := b34.trans (b35.mono b34.size)
  have c20 := c19.trans (b36.mono c19.size)
  have r33 := r33.bel c20
  clear k34 r34 k35 r35 k36 r36
  refine lt_nat 38 [478480152053] 478480152053 rfl rfl rfl rfl ⟨by decide, by decide⟩ (by kernel_rfl) (by decide +kernel) (by kernel_rfl) fun N38 w38 r38 k38 b38 y38 => ?_
  have z38 := Nat.lt_of_lt_of_le q36 y38
  have q38 := Nat.lt_of_lt_of_le q36 b38.size
  clear y38 q36
  refine lt_nat 39 [589261271] 589261271 rfl rfl rfl rfl ⟨by decide, by decide⟩ (by kernel_rfl) (by decide +kernel) (by kernel_rfl) fun N39 w39 r39 k39 b39 y39 => ?_
  have z39 := Nat.lt_of_lt_of_le q38 y39
  have q39 := Nat.lt_of_lt_of_le q38 b39.size
  clear y39 q38
  refine lt_nat 40 [2] 2 rfl rfl rfl rfl ⟨by decide, by decide⟩ (by kernel_rfl) (by decide +kernel) (by kernel_rfl) fun N40 w40 r40 k40 b40 y40 => ?_
  have z40 := Nat.lt_of_lt_of_le q39 y40
  have q40 := Nat.lt_of_lt_of_le q39 b40.size
  clear y40 q39
  refine wpList_buildTo rfl 49 _ rfl (some 41) rfl #[.slice (some ⟨N38, 0, none⟩) 1 1, .slice (some ⟨N39, 0, none⟩) 1 1, .slice (some ⟨N40, 0, none⟩) 1 1] (by kernel_rfl) ?_
  have s41 : Stp.At _ ⟨some ⟨N38, 0, none⟩, 1, 1, some ⟨N39, 0, none⟩, 1, 1, some ⟨N40, 0, none⟩, 1, 1, 478480152053, 589261271, 2⟩ := ⟨(k38.below b39).below b40, k39.below b40, k40⟩
  have c21 := b38.trans (b39.mono b38.size)
  have c22 := c21.trans (b40.mono c21.size)
  have s37 := s37.below c22
  have r33 := r33.bel c22
  clear k38 r38 k39 r39 k40 r40
  refine lt_nat 42 [589261271] 589261271 rfl rfl rfl rfl ⟨by decide, by decide⟩ (by kernel_rfl) (by decide +kernel) (by kernel_rfl) fun N42 w42 r42 k42 b42 y42 => ?_
  have z42 := Nat.lt_of_lt_of_le q40 y42
  have q42 := Nat.lt_of_lt_of_le q40 b42.size
  clear y42 q40
  refine lt_nat 43 [44879] 44879 rfl rfl rfl rfl ⟨by decide, by decide⟩ (by kernel_rfl) (by decide +kernel) (by kernel_rfl) fun N43 w43 r43 k43 b43 y43 => ?_
  have z43 := Nat.lt_of_lt_of_le q42 y43
  have q43 := Nat.lt_of_lt_of_le q42 b43.size
  clear y43 q42
  refine lt_nat 44 [2] 2 rfl rfl rfl rfl ⟨by decide, by decide⟩ (by kernel_rfl) (by decide +kernel) (by kernel_rfl) fun N44 w44 r44 k44 b44 y44 => ?_
  have z44 := Nat.lt_of_lt_of_le q43 y44
  have q44 := Nat.lt_of_lt_of_le q43 b44.size
  clear y44 q43
  refine wpList_buildTo rfl 49 _ rfl (some 45) rfl #[.slice (some ⟨N42, 0, none⟩) 1 1, .slice (some ⟨N43, 0, none⟩) 1 1, .slice (some ⟨N44, 0, none⟩) 1 1] (by kernel_rfl) ?_
  have s45 : Stp.At _ ⟨some ⟨N42, 0, none⟩, 1, 1, some ⟨N43, 0, none⟩, 1, 1, some ⟨N44, 0, none⟩, 1, 1, 589261271, 44879, 2⟩ := ⟨(k42.below b43).below b44, k43.below b44, k44⟩
  have c23 := b42.trans (b43.mono b42.size)
  have c24 := c23.trans (b44.mono c23.size)
  have s37 := s37.below c24
  have s41 := s41.below c24
  have r33 := r33.bel c24
  clear k42 r42 k43 r43 k44 r44
  refine lt_chain 46 [⟨some ⟨N34, 0, none⟩, 1, 1, some ⟨N35, 0, none⟩, 1, 1, some ⟨N36, 0, none⟩, 1, 1, 956960304107, 478480152053, 2⟩, ⟨some ⟨N38, 0, none⟩, 1, 1, some ⟨N39, 0, none⟩, 1, 1, some ⟨N40, 0, none⟩, 1, 1, 478480152053, 589261271, 2⟩, ⟨some ⟨N42, 0, none⟩, 1, 1, some ⟨N43, 0, none⟩, 1, 1, some ⟨N44, 0, none⟩, 1, 1, 589261271, 44879, 2⟩] rfl rfl rfl rfl (by simp) (by kernel_rfl) (List.forall_mem_cons.2 ⟨s37, List.forall_mem_cons.2 ⟨s41, List.forall_mem_cons.2 ⟨s45, fun _ h => by cases h⟩⟩⟩) fun N46 w46 k46 b46 y46 => ?_
  have z46 := Nat.lt_of_lt_of_le q44 y46
  have q46 := Nat.lt_of_lt_of_le q44 b46.size
  clear y46 q44
  have r33 := r33.bel b46
  clear s37 s41 s45
  refine wpList_buildTo rfl 33 _ rfl (some 47) rfl #[.slice (some ⟨N33, 0, none⟩) 1 1, .slice (some ⟨N46, 0, none⟩) 3 3] (by kernel_rfl) ?_
  have g47 : KG 3 w.heap.size _ (some ⟨N33, 0, none⟩) 1 1 (some ⟨N46, 0, none⟩) 3 3 := ⟨⟨_, rfl, z33, rfl, rfl, r33⟩, _, k46, rfl, (fun j hj => by match j, hj with | 0, _ => exact ⟨rfl, rfl, rfl, Nat.le_of_ble_eq_true rfl, Nat.le_of_ble_eq_true rfl, Nat.le_of_ble_eq_true rfl⟩ | 1, _ => exact ⟨rfl, rfl, rfl, Nat.le_of_ble_eq_true rfl, Nat.le_of_ble_eq_true rfl, Nat.le_of_ble_eq_true rfl⟩ | 2, _ => exact ⟨rfl, rfl, rfl, Nat.le_of_ble_eq_true rfl, Nat.le_of_ble_eq_true rfl, Nat.le_of_ble_eq_true rfl⟩), fr_some z46, (fun j hj => by match j, hj with | 0, _ => exact ⟨fr_some z34, fr_some z35, fr_some z36⟩ | 1, _ => exact ⟨fr_some z38, fr_some z39, fr_some z40⟩ | 2, _ => exact ⟨fr_some z42, fr_some z43, fr_some z44⟩)⟩
  have c25 := b33.trans (c20.mono b33.size)
  have c26 := c25.trans (c22.mono c25.size)
  have c27 := c26.trans (c24.mono c26.size)
  have c28 := c27.trans (b46.mono c27.size)
  have g10 := g10.below c28
  have g21 := g21.below c28
  have g32 := g32.below c28
  clear r33 k33 k46
  refine lt_nat 48 [4] 4 rfl rfl rfl rfl ⟨by decide, by decide⟩ (by kernel_rfl) (by decide +kernel) (by kernel_rfl) fun N48 w48 r48 k48 b48 y48 => ?_
  have z48 := Nat.lt_of_lt_of_le q46 y48
  have q48 := Nat.lt_of_lt_of_le q46 b48.size
  clear y48 q46
  refine lt_nat 49 [51637240540054787] 51637240540054787 rfl rfl rfl rfl ⟨by decide, by decide⟩ (by kernel_rfl) (by decide +kernel) (by kernel_rfl) fun N49 w49 r49 k49 b49 y49 => ?_
  have z49 := Nat.lt_of_lt_of_le q48 y49
  have q49 := Nat.lt_of_lt_of_le q48 b49.size
  clear y49 q48
  refine lt_nat 50 [25818620270027393] 25818620270027393 rfl rfl rfl rfl ⟨by decide, by decide⟩ (by kernel_rfl) (by decide +kernel) (by kernel_rfl) fun N50 w50 r50 k50 b50 y50 => ?_
  have z50 := Nat.lt_of_lt_of_le q49 y50
  have q50 := Nat.lt_of_lt_of_le q49 b50.size
  clear y50 q49
  refine lt_nat 51 [2] 2 rfl rfl rfl rfl ⟨by decide, by decide⟩ (by kernel_rfl) (by decide +kernel) (by kernel_rfl) fun N51 w51 r51 k51 b51 y51 => ?_
  have z51 := Nat.lt_of_lt_of_le q50 y51
  have q51 := Nat.lt_of_lt_of_le q50 b51.size
  clear y51 q50
  refine wpList_buildTo rfl 49 _ rfl (some 52) rfl #[.slice (some ⟨N49, 0, none⟩) 1 1, .slice (some ⟨N50, 0, none⟩) 1 1, .slice (some ⟨N51, 0, none⟩) 1 1] (by kernel_rfl) ?_
  have s52 : Stp.At _ ⟨some ⟨N49, 0, none⟩, 1, 1, some ⟨N50, 0, none⟩, 1, 1, some ⟨N51, 0, none⟩, 1, 1, 51637240540054787, 25818620270027393, 2⟩ := ⟨(k49.below b50).below b51, k50.below b51, k51⟩
  have c29 := b49.trans (b50.mono b49.size)
  have c30 := c29.trans (b51.mono c29.size)
  have r48 := r48.bel c30
  clear k49 r49 k50 r50 k51 r51
  refine lt_nat 53 [25818620270027393] 25818620270027393 rfl rfl rfl rfl ⟨by decide, by decide⟩ (by kernel_rfl) (by decide +kernel) (by kernel_rfl) fun N53 w53 r53 k53 b53 y53 => ?_
  have z53 := Nat.lt_of_lt_of_le q51 y53
  have q53 := Nat.lt_of_lt_of_le q51 b53.size
  clear y53 q51
  refine lt_nat 54 [962912257] 962912257 rfl rfl rfl rfl ⟨by decide, by decide⟩ (by kernel_rfl) (by decide +kernel) (by kernel_rfl) fun N54 w54 r54 k54 b54 y54 => ?_
  have z54 := Nat.lt_of_lt_of_le q53 y54
  have q54 := Nat.lt_of_lt_of_le q53 b54.size
  clear y54 q53
  refine lt_nat 55 [2] 2 rfl rfl rfl rfl ⟨by decide, by decide⟩ (by kernel_rfl) (by decide +kernel) (by kernel_rfl) fun N55 w55 r55 k55 b55 y55 => ?_
  have z55 := Nat.lt_of_lt_of_le q54 y55
  have q55 := Nat.lt_of_lt_of_le q54 b55.size
  clear y55 q54
  refine wpList_buildTo rfl 49 _ rfl (some 56) rfl #[.slice (some ⟨N53, 0, none⟩) 1 1, .slice (some ⟨N54, 0, none⟩) 1 1, .slice (some ⟨N55, 0, none⟩) 1 1] (by kernel_rfl) ?_
  have s56 : Stp.At _ ⟨some ⟨N53, 0, none⟩, 1, 1, some ⟨N54, 0, none⟩, 1, 1, some ⟨N55, 0, none⟩, 1, 1, 25818620270027393, 962912257, 2⟩ := ⟨(k53.below b54).below b55, k54.below b55, k55⟩
  have c31 := b53.trans (b54.mono b53.size)
  have c32 := c31.trans (b55.mono c31.size)
  have s52 := s52.below c32
  have r48 := r48.bel c32
  clear k53 r53 k54 r54 k55 r55
  refine lt_nat 57 [962912257] 962912257 rfl rfl rfl rfl ⟨by decide, by decide⟩ (by kernel_rfl) (by decide +kernel) (by kernel_rfl) fun N57 w57 r57 k57 b57 y57 => ?_
  have z57 := Nat.lt_of_lt_of_le q55 y57
  have q57 := Nat.lt_of_lt_of_le q55 b57.size
  clear y57 q55
  refine lt_nat 58 [39181] 39181 rfl rfl rfl rfl ⟨by decide, by decide⟩ (by kernel_rfl) (by decide +kernel) (by kernel_rfl) fun N58 w58 r58 k58 b58 y58 => ?_
  have z58 := Nat.lt_of_lt_of_le q57 y58
  have q58 := Nat.lt_of_lt_of_le q57 b58.size
  clear y58 q57
  refine lt_nat 59 [2] 2 rfl rfl rfl rfl ⟨by decide, by decide⟩ (by kernel_rfl) (by decide +kernel) (by kernel_rfl) fun N59 w59 r59 k59 b59 y59 => ?_
  have z59 := Nat.lt_of_lt_of_le q58 y59
  have q59 := Nat.lt_of_lt_of_le q58 b59.size
  clear y59 q58
  refine wpList_buildTo rfl 49 _ rfl (some 60) rfl #[.slice (some ⟨N57, 0, none⟩) 1 1, .slice (some ⟨N58, 0, none⟩) 1 1, .slice (some ⟨N59, 0, none⟩) 1 1] (by kernel_rfl) ?_
  have s60 : Stp.At _ ⟨some ⟨N57, 0, none⟩, 1, 1, some ⟨N58, 0, none⟩, 1, 1, some ⟨N59, 0, none⟩, 1, 1, 962912257, 39181, 2⟩ := ⟨(k57.below b58).below b59, k58.below b59, k59⟩
  have c33 := b57.trans (b58.mono b57.size)
  have c34 := c33.trans (b59.mono c33.size)
  have s52 := s52.below c34
  have s56 := s56.below c34
  have r48 := r48.bel c34
  clear k57 r57 k58 r58 k59 r59
  refine lt_chain 61 [⟨some ⟨N49, 0, none⟩, 1, 1, some ⟨N50, 0, none⟩, 1, 1, some ⟨N51, 0, none⟩, 1, 1, 51637240540054787, 25818620270027393, 2⟩, ⟨some ⟨N53, 0, none⟩, 1, 1, some ⟨N54, 0, none⟩, 1, 1, some ⟨N55, 0, none⟩, 1, 1, 25818620270027393, 962912257, 2⟩, ⟨some ⟨N57, 0, none⟩, 1, 1, some ⟨N58, 0, none⟩, 1, 1, some ⟨N59, 0, none⟩, 1, 1, 962912257, 39181, 2⟩] rfl rfl rfl rfl (by simp) (by kernel_rfl) (List.forall_mem_cons.2 ⟨s52, List.forall_mem_cons.2 ⟨s56, List.forall_mem_cons.2 ⟨s60, fun _ h => by cases h⟩⟩⟩) fun N61 w61 k61 b61 y61 => ?_
  have z61 := Nat.lt_of_lt_of_le q59 y61
  have q61 := Nat.lt_of_lt_of_le q59 b61.size
  clear y61 q59
  have r48 := r48.bel b61
  clear s52 s56 s60
  refine wpList_buildTo rfl 33 _ rfl (some 62) rfl #[.slice (some ⟨N48, 0, none⟩) 1 1, .slice (some ⟨N61, 0, none⟩) 3 3] (by kernel_rfl) ?_
  have g62 : KG 4 w.heap.size _ (some ⟨N48, 0, none⟩) 1 1 (some ⟨N61, 0, none⟩) 3 3 := ⟨⟨_, rfl, z48, rfl, rfl, r48⟩, _, k61, rfl, (fun j hj => by match j, hj with | 0, _ => exact ⟨rfl, rfl, rfl, Nat.le_of_ble_eq_true rfl, Nat.le_of_ble_eq_true rfl, Nat.le_of_ble_eq_true rfl⟩ | 1, _ => exact ⟨rfl, rfl, rfl, Nat.le_of_ble_eq_true rfl, Nat.le_of_ble_eq_true rfl, Nat.le_of_ble_eq_true rfl⟩ | 2, _ => exact ⟨rfl, rfl, rfl, Nat.le_of_ble_eq_true rfl, Nat.le_of_ble_eq_true rfl, Nat.le_of_ble_eq_true rfl⟩), fr_some z61, (fun j hj => by match j, hj with | 0, _ => exact ⟨fr_some z49, fr_some z50, fr_some z51⟩ | 1, _ => exact ⟨fr_some z53, fr_some z54, fr_some z55⟩ | 2, _ => exact ⟨fr_some z57, fr_some z58, fr_some z59⟩)⟩
  have c35 := b48.trans (c30.mono b48.size)
  have c36 := c35.trans (c32.mono c35.size)
  have c37 := c36.trans (c34.mono c36.size)
  have c38 := c37.trans (b61.mono c37.size)
  have g10 := g10.below c38
  have g21 := g21.below c38
  have g32 := g32.below c38
  have g47 := g47.below c38
  clear r48 k48 k61
  refine lt_nat 63 [4] 4 rfl rfl rfl rfl ⟨by decide, by decide⟩ (by kernel_rfl) (by decide +kernel) (by kernel_rfl) fun N63 w63 r63 k63 b63 y63 => ?_
  have z63 := Nat.lt_of_lt_of_le q61 y63
  have q63 := Nat.lt_of_lt_of_le q61 b63.size
  clear y63 q61
  refine lt_nat 64 [10783903794068798759] 10783903794068798759 rfl rfl rfl rfl ⟨by decide, by decide⟩ (by kernel_rfl) (by decide +kernel) (by kernel_rfl) fun N64 w64 r64 k64 b64 y64 => ?_
  have z64 := Nat.lt_of_lt_of_le q63 y64
  have q64 := Nat.lt_of_lt_of_le q63 b64.size
  clear y64 q63
  refine lt_nat 65 [5391951897034399379] 5391951897034399379 rfl rfl rfl rfl ⟨by decide, by decide⟩ (by kernel_rfl) (by decide +kernel) (by kernel_rfl) fun N65 w65 r65 k65 b65 y65 => ?_
  have z65 := Nat.lt_of_lt_of_le q64 y65
  have q65 := Nat.lt_of_lt_of_le q64 b65.size
  clear y65 q64
  refine lt_nat 66 [2] 2 rfl rfl rfl rfl ⟨by decide, by decide⟩ (by kernel_rfl) (by decide +kernel) (by kernel_rfl) fun N66 w66 r66 k66 b66 y66 => ?_
  have z66 := Nat.lt_of_lt_of_le q65 y66
  have q66 := Nat.lt_of_lt_of_le q65 b66.size
  clear y66 q65
  refine wpList_buildTo rfl 49 _ rfl (some 67) rfl #[.slice (some ⟨N64, 0, none⟩) 1 1, .slice (some ⟨N65, 0, none⟩) 1 1, .slice (some ⟨N66, 0, none⟩) 1 1] (by kernel_rfl) ?_
  have s67 : Stp.At _ ⟨some ⟨N64, 0, none⟩, 1, 1, some ⟨N65, 0, none⟩, 1, 1, some ⟨N66, 0, none⟩, 1, 1, 10783903794068798759, 5391951897034399379, 2⟩ := ⟨(k64.below b65).below b66, k65.below b66, k66⟩
  have c39 := b64.trans (b65.mono b64.size)
  have c40 := c39.trans (b66.mono c39.size)
  have r63 := r63.bel c40
  clear k64 r64 k65 r65 k66 r66
  refine lt_nat 68 [5391951897034399379] 5391951897034399379 rfl rfl rfl rfl ⟨by decide, by decide⟩ (by kernel_rfl) (by decide +kernel) (by kernel_rfl) fun N68 w68 r68 k68 b68 y68 => ?_
  have z68 := Nat.lt_of_lt_of_le q66 y68
  have q68 := Nat.lt_of_lt_of_le q66 b68.size
  clear y68 q66
  refine lt_nat 69 [245088722592472699] 245088722592472699 rfl rfl rfl rfl ⟨by decide, by decide⟩ (by kernel_rfl) (by decide +kernel) (by kernel_rfl) fun N69 w69 r69 k69 b69 y69 => ?_
  have z69 := Nat.lt_of_lt_of_le q68 y69
  have q69 := Nat.lt_of_lt_of_le q68 b69.size
  clear y69 q68
  refine lt_nat 70 [2] 2 rfl rfl rfl rfl ⟨by decide, by decide⟩ (by kernel_rfl) (by decide +kernel) (by kernel_rfl) fun N70 w70 r70 k70 b70 y70 => ?_
  have z70 := Nat.lt_of_lt_of_le q69 y70
  have q70 := Nat.lt_of_lt_of_le q69 b70.size
  clear y70 q69
  refine wpList_buildTo rfl 49 _ rfl (some 71) rfl #[.slice (some ⟨N68, 0, none⟩) 1 1, .slice (some ⟨N69, 0, none⟩) 1 1, .slice (some ⟨N70, 0, none⟩) 1 1] (by kernel_rfl) ?_
  have s71 : Stp.At _ ⟨some ⟨N68, 0, none⟩, 1, 1, some ⟨N69, 0, none⟩, 1, 1, some ⟨N70, 0, none⟩, 1, 1, 5391951897034399379, 245088722592472699, 2⟩ := ⟨(k68.below b69).below b70, k69.below b70, k70⟩
  have c41 := b68.trans (b69.mono b68.size)
  have c42 := c41.trans (b70.mono c41.size)
  have s67 := s67.below c42
  have r63 := r63.bel c42
  clear k68 r68 k69 r69 k70 r70
  refine lt_nat 72 [245088722592472699] 245088722592472699 rfl rfl rfl rfl ⟨by decide, by decide⟩ (by kernel_rfl) (by decide +kernel) (by kernel_rfl) fun N72 w72 r72 k72 b72 y72 => ?_
  have z72 := Nat.lt_of_lt_of_le q70 y72
  have q72 := Nat.lt_of_lt_of_le q70 b72.size
  clear y72 q70
  refine lt_nat 73 [540926329] 540926329 rfl rfl rfl rfl ⟨by decide, by decide⟩ (by kernel_rfl) (by decide +kernel) (by kernel_rfl) fun N73 w73 r73 k73 b73 y73 => ?_
  have z73 := Nat.lt_of_lt_of_le q72 y73
  have q73 := Nat.lt_of_lt_of_le q72 b73.size
  clear y73 q72
  refine lt_nat 74 [2] 2 rfl rfl rfl rfl ⟨by decide, by decide⟩ (by kernel_rfl) (by decide +kernel) (by kernel_rfl) fun N74 w74 r74 k74 b74 y74 => ?_
  have z74 := Nat.lt_of_lt_of_le q73 y74
  have q74 := Nat.lt_of_lt_of_le q73 b74.size
  clear y74 q73
  refine wpList_buildTo rfl 49 _ rfl (some 75) rfl #[.slice (some ⟨N72, 0, none⟩) 1 1, .slice (some ⟨N73, 0, none⟩) 1 1, .slice (some ⟨N74, 0, none⟩) 1 1] (by kernel_rfl) ?_
  have s75 : Stp.At _ ⟨some ⟨N72, 0, none⟩, 1, 1, some ⟨N73, 0, none⟩, 1, 1, some ⟨N74, 0, none⟩, 1, 1, 245088722592472699, 540926329, 2⟩ := ⟨(k72.below b73).below b74, k73.below b74, k74⟩
  have c43 := b72.trans (b73.mono b72.size)
  have c44 := c43.trans (b74.mono c43.size)
  have s67 := s67.below c44
  have s71 := s71.below c44
  have r63 := r63.bel c44
  clear k72 r72 k73 r73 k74 r74
  refine lt_nat 76 [540926329] 540926329 rfl rfl rfl rfl ⟨by decide, by decide⟩ (by kernel_rfl) (by decide +kernel) (by kernel_rfl) fun N76 w76 r76 k76 b76 y76 => ?_
  have z76 := Nat.lt_of_lt_of_le q74 y76
  have q76 := Nat.lt_of_lt_of_le q74 b76.size
  clear y76 q74
  refine lt_nat 77 [33791] 33791 rfl rfl rfl rfl ⟨by decide, by decide⟩ (by kernel_rfl) (by decide +kernel) (by kernel_rfl) fun N77 w77 r77 k77 b77 y77 => ?_
  have z77 := Nat.lt_of_lt_of_le q76 y77
  have q77 := Nat.lt_of_lt_of_le q76 b77.size
  clear y77 q76
  refine lt_nat 78 [2] 2 rfl rfl rfl rfl ⟨by decide, by decide⟩ (by kernel_rfl) (by decide +kernel) (by kernel_rfl) fun N78 w78 r78 k78 b78 y78 => ?_
  have z78 := Nat.lt_of_lt_of_le q77 y78
  have q78 := Nat.lt_of_lt_of_le q77 b78.size
  clear y78 q77
  refine wpList_buildTo rfl 49 _ rfl (some 79) rfl #[.slice (some ⟨N76, 0, none⟩) 1 1, .slice (some ⟨N77, 0, none⟩) 1 1, .slice (some ⟨N78, 0, none⟩) 1 1] (by kernel_rfl) ?_
  have s79 : Stp.At _ ⟨some ⟨N76, 0, none⟩, 1, 1, some ⟨N77, 0, none⟩, 1, 1, some ⟨N78, 0, none⟩, 1, 1, 540926329, 33791, 2⟩ := ⟨(k76.below b77).below b78, k77.below b78, k78⟩
  have c45 := b76.trans (b77.mono b76.size)
  have c46 := c45.trans (b78.mono c45.size)
  have s67 := s67.below c46
  have s71 := s71.below c46
  have s75 := s75.below c46
  have r63 := r63.bel c46
  clear k76 r76 k77 r77 k78 r78
  refine lt_chain 80 [⟨some ⟨N64, 0, none⟩, 1, 1, some ⟨N65, 0, none⟩, 1, 1, some ⟨N66, 0, none⟩, 1, 1, 10783903794068798759, 5391951897034399379, 2⟩, ⟨some ⟨N68, 0, none⟩, 1, 1, some ⟨N69, 0, none⟩, 1, 1, some ⟨N70, 0, none⟩, 1, 1, 5391951897034399379, 245088722592472699, 2⟩, ⟨some ⟨N72, 0, none⟩, 1, 1, some ⟨N73, 0, none⟩, 1, 1, some ⟨N74, 0, none⟩, 1, 1, 245088722592472699, 540926329, 2⟩, ⟨some ⟨N76, 0, none⟩, 1, 1, some ⟨N77, 0, none⟩, 1, 1, some ⟨N78, 0, none⟩, 1, 1, 540926329, 33791, 2⟩] rfl rfl rfl rfl (by simp) (by kernel_rfl) (List.forall_mem_cons.2 ⟨s67, List.forall_mem_cons.2 ⟨s71, List.forall_mem_cons.2 ⟨s75, List.forall_mem_cons.2 ⟨s79, fun _ h => by cases h⟩⟩⟩⟩) fun N80 w80 k80 b80 y80 => ?_
  have z80 := Nat.lt_of_lt_of_le q78 y80
  have q80 := Nat.lt_of_lt_of_le q78 b80.size
  clear y80 q78
  have r63 := r63.bel b80
  clear s67 s71 s75 s79
  refine wpList_buildTo rfl 33 _ rfl (some 81) rfl #[.slice (some ⟨N63, 0, none⟩) 1 1, .slice (some ⟨N80, 0, none⟩) 4 4] (by kernel_rfl) ?_
  have g81 : KG 5 w.heap.size _ (some ⟨N63, 0, none⟩) 1 1 (some ⟨N80, 0, none⟩) 4 4 := ⟨⟨_, rfl, z63, rfl, rfl, r63⟩, _, k80, rfl, (fun j hj => by match j, hj with | 0, _ => exact ⟨rfl, rfl, rfl, Nat.le_of_ble_eq_true rfl, Nat.le_of_ble_eq_true rfl, Nat.le_of_ble_eq_true rfl⟩ | 1, _ => exact ⟨rfl, rfl, rfl, Nat.le_of_ble_eq_true rfl, Nat.le_of_ble_eq_true rfl, Nat.le_of_ble_eq_true rfl⟩ | 2, _ => exact ⟨rfl, rfl, rfl, Nat.le_of_ble_eq_true rfl, Nat.le_of_ble_eq_true rfl, Nat.le_of_ble_eq_true rfl⟩ | 3, _ => exact ⟨rfl, rfl, rfl, Nat.le_of_ble_eq_true rfl, Nat.le_of_ble_eq_true rfl, Nat.le_of_ble_eq_true rfl⟩), fr_some z80, (fun j hj => by match j, hj with | 0, _ => exact ⟨fr_some z64, fr_some z65, fr_some z66⟩ | 1, _ => exact ⟨fr_some z68, fr_some z69, fr_some z70⟩ | 2, _ => exact ⟨fr_some z72, fr_some z73, fr_some z74⟩ | 3, _ => exact ⟨fr_some z76, fr_some z77, fr_some z78⟩)⟩
  have c47 := b63.trans (c40.mono b63.size)
  have c48 := c47.trans (c42.mono c47.size)
  have c49 := c48.trans (c44.mono c48.size)
  have c50 := c49.trans (c46.mono c49.size)
  have c51 := c50.trans (b80.mono c50.size)
  have g10 := g10.below c51
  have g21 := g21.below c51
  have g32 := g32.below c51
  have g47 := g47.below c51
  have g62 := g62.below c51
  clear r63 k63 k80
  refine lt_nat 82 [4] 4 rfl rfl rfl rfl ⟨by decide, by decide⟩ (by kernel_rfl) (by decide +kernel) (by kernel_rfl) fun N82 w82 r82 k82 b82 y82 => ?_
  have z82 := Nat.lt_of_lt_of_le q80 y82
  have q82 := Nat.lt_of_lt_of_le q80 b82.size
  clear y82 q80
  refine lt_nat 83 [12424001628892243043, 141] 2613414916021939020899 rfl rfl rfl rfl ⟨by decide, by decide⟩ (by kernel_rfl) (by decide +kernel) (by kernel_rfl) fun N83 w83 r83 k83 b83 y83 => ?_
  have z83 := Nat.lt_of_lt_of_le q82 y83
  have q83 := Nat.lt_of_lt_of_le q82 b83.size
  clear y83 q82
  refine lt_nat 84 [15435372851300897329, 70] 1306707458010969510449 rfl rfl rfl rfl ⟨by decide, by decide⟩ (by kernel_rfl) (by decide +kernel) (by kernel_rfl) fun N84 w84 r84 k84 b84 y84 => ?_
  have z84 := Nat.lt_of_lt_of_le q83 y84
  have q84 := Nat.lt_of_lt_of_le q83 b84.size
  clear y84 q83
  refine lt_nat 85 [2] 2 rfl rfl rfl rfl ⟨by decide, by decide⟩ (by kernel_rfl) (by decide +kernel) (by kernel_rfl) fun N85 w85 r85 k85 b85 y85 => ?_
  have z85 := Nat.lt_of_lt_of_le q84 y85
  have q85 := Nat.lt_of_lt_of_le q84 b85.size
  clear y85 q84
  refine wpList_buildTo rfl 49 _ rfl (some 86) rfl #[.slice (some ⟨N83, 0, none⟩) 2 2, .slice (some ⟨N84, 0, none⟩) 2 2, .slice (some ⟨N85, 0, none⟩) 1 1] (by kernel_rfl) ?_
  have s86 : Stp.At _ ⟨some ⟨N83, 0, none⟩, 2, 2, some ⟨N84, 0, none⟩, 2, 2, some ⟨N85, 0, none⟩, 1, 1, 2613414916021939020899, 1306707458010969510449, 2⟩ := ⟨(k83.below b84).below b85, k84.below b85, k85⟩
  have c52 := b83.trans (b84.mono b83.size)
  have c53 := c52.trans (b85.mono c52.size)
  have r82 := r82.bel c53
  clear k83 r83 k84 r84 k85 r85
  refine lt_nat 87 [15435372851300897329, 70] 1306707458010969510449 rfl rfl rfl rfl ⟨by decide, by decide⟩ (by kernel_rfl) (by decide +kernel) (by kernel_rfl) fun N87 w87 r87 k87 b87 y87 => ?_
  have z87 := Nat.lt_of_lt_of_le q85 y87
  have q87 := Nat.lt_of_lt_of_le q85 b87.size
  clear y87 q85
  refine lt_nat 88 [213235551241998941] 213235551241998941 rfl rfl rfl rfl ⟨by decide, by decide⟩ (by kernel_rfl) (by decide +kernel) (by kernel_rfl) fun N88 w88 r88 k88 b88 y88 => ?_
  have z88 := Nat.lt_of_lt_of_le q87 y88
  have q88 := Nat.lt_of_lt_of_le q87 b88.size
  clear y88 q87
  refine lt_nat 89 [2] 2 rfl rfl rfl rfl ⟨by decide, by decide⟩ (by kernel_rfl) (by decide +kernel) (by kernel_rfl) fun N89 w89 r89 k89 b89 y89 => ?_
  have z89 := Nat.lt_of_lt_of_le q88 y89
  have q89 := Nat.lt_of_lt_of_le q88 b89.size
  clear y89 q88
  refine wpList_buildTo rfl 49 _ rfl (some 90) rfl #[.slice (some ⟨N87, 0, none⟩) 2 2, .slice (some ⟨N88, 0, none⟩) 1 1, .slice (some ⟨N89, 0, none⟩) 1 1] (by kernel_rfl) ?_
  have s90 : Stp.At _ ⟨some ⟨N87, 0, none⟩, 2, 2, some ⟨N88, 0, none⟩, 1, 1, some ⟨N89, 0, none⟩, 1, 1, 1306707458010969510449, 213235551241998941, 2⟩ := ⟨(k87.below b88).below b89, k88.below b89, k89⟩
  have c54 := b87.trans (b88.mono b87.size)
  have c55 := c54.trans (b89.mono c54.size)
  have s86 := s86.below c55
  have r82 := r82.bel c55
  clear k87 r87 k88 r88 k89 r89
  refine lt_nat 91 [213235551241998941] 213235551241998941 rfl rfl rfl rfl ⟨by decide, by decide⟩ (by kernel_rfl) (by decide +kernel) (by kernel_rfl) fun N91 w91 r91 k91 b91 y91 => ?_
  have z91 := Nat.lt_of_lt_of_le q89 y91
  have q91 := Nat.lt_of_lt_of_le q89 b91.size
  clear y91 q89
  refine lt_nat 92 [869759953] 869759953 rfl rfl rfl rfl ⟨by decide, by decide⟩ (by kernel_rfl) (by decide +kernel) (by kernel_rfl) fun N92 w92 r92 k92 b92 y92 => ?_
  have z92 := Nat.lt_of_lt_of_le q91 y92
  have q92 := Nat.lt_of_lt_of_le q91 b92.size
  clear y92 q91
  refine lt_nat 93 [2] 2 rfl rfl rfl rfl ⟨by decide, by decide⟩ (by kernel_rfl) (by decide +kernel) (by kernel_rfl) fun N93 w93 r93 k93 b93 y93 => ?_
  have z93 := Nat.lt_of_lt_of_le q92 y93
  have q93 := Nat.lt_of_lt_of_le q92 b93.size
  clear y93 q92
  refine wpList_buildTo rfl 49 _ rfl (some 94) rfl #[.slice (some ⟨N91, 0, none⟩) 1 1, .slice (some ⟨N92, 0, none⟩) 1 1, .slice (some ⟨N93, 0, none⟩) 1 1] (by kernel_rfl) ?_
  have s94 : Stp.At _ ⟨some ⟨N91, 0, none⟩, 1, 1, some ⟨N92, 0, none⟩, 1, 1, some ⟨N93, 0, none⟩, 1, 1, 213235551241998941, 869759953, 2⟩ := ⟨(k91.below b92).below b93, k92.below b93, k93⟩
  have c56 := b91.trans (b92.mono b91.size)
  have c57 := c56.trans (b93.mono c56.size)
  have s86 := s86.below c57
  have s90 := s90.below c57
  have r82 := r82.bel c57
  clear k91 r91 k92 r92 k93 r93
  refine lt_nat 95 [869759953] 869759953 rfl rfl rfl rfl ⟨by decide, by decide⟩ (by kernel_rfl) (by decide +kernel) (by kernel_rfl) fun N95 w95 r95 k95 b95 y95 => ?_
  have z95 := Nat.lt_of_lt_of_le q93 y95
  have q95 := Nat.lt_of_lt_of_le q93 b95.size
  clear y95 q93
  refine lt_nat 96 [61843] 61843 rfl rfl rfl rfl ⟨by decide, by decide⟩ (by kernel_rfl) (by decide +kernel) (by kernel_rfl) fun N96 w96 r96 k96 b96 y96 => ?_
  have z96 := Nat.lt_of_lt_of_le q95 y96
  have q96 := Nat.lt_of_lt_of_le q95 b96.size
  clear y96 q95
  refine lt_nat 97 [2] 2 rfl rfl rfl rfl ⟨by decide, by decide⟩ (by kernel_rfl) (by decide +kernel) (by kernel_rfl) fun N97 w97 r97 k97 b97 y97 => ?_
  have z97 := Nat.lt_of_lt_of_le q96 y97
  have q97 := Nat.lt_of_lt_of_le q96 b97.size
  clear y97 q96
  refine wpList_buildTo rfl 49 _ rfl (some 98) rfl #[.slice (some ⟨N95, 0, none⟩) 1 1, .slice (some ⟨N96, 0, none⟩) 1 1, .slice (some ⟨N97, 0, none⟩) 1 1] (by kernel_rfl) ?_
  have s98 : Stp.At _ ⟨some ⟨N95, 0, none⟩, 1, 1, some ⟨N96, 0, none⟩, 1, 1, some ⟨N97, 0, none⟩, 1, 1, 869759953, 61843, 2⟩ := ⟨(k95.below b96).below b97, k96.below b97, k97⟩
  have c58 := b95.trans (b96.mono b95.size)
  have c59 := c58.trans (b97.mono c58.size)
  have s86 := s86.below c59
  have s90 := s90.below c59
  have s94 := s94.below c59
  have r82 := r82.bel c59
  clear k95 r95 k96 r96 k97 r97
  refine lt_chain 99 [⟨some ⟨N83, 0, none⟩, 2, 2, some ⟨N84, 0, none⟩, 2, 2, some ⟨N85, 0, none⟩, 1, 1, 2613414916021939020899, 1306707458010969510449, 2⟩, ⟨some ⟨N87, 0, none⟩, 2, 2, some ⟨N88, 0, none⟩, 1, 1, some ⟨N89, 0, none⟩, 1, 1, 1306707458010969510449, 213235551241998941, 2⟩, ⟨some ⟨N91, 0, none⟩, 1, 1, some ⟨N92, 0, none⟩, 1, 1, some ⟨N93, 0, none⟩, 1, 1, 213235551241998941, 869759953, 2⟩, ⟨some ⟨N95, 0, none⟩, 1, 1, some ⟨N96, 0, none⟩, 1, 1, some ⟨N97, 0, none⟩, 1, 1, 869759953, 61843, 2⟩] rfl rfl rfl rfl (by simp) (by kernel_rfl) (List.forall_mem_cons.2 ⟨s86, List.forall_mem_cons.2 ⟨s90, List.forall_mem_cons.2 ⟨s94, List.forall_mem_cons.2 ⟨s98, fun _ h => by cases h⟩⟩⟩⟩) fun N99 w99 k99 b99 y99 => ?_
  have z99 := Nat.lt_of_lt_of_le q97 y99
  have q99 := Nat.lt_of_lt_of_le q97 b99.size
  clear y99 q97
  have r82 := r82.bel b99
  clear s86 s90 s94 s98
  refine wpList_buildTo rfl 33 _ rfl (some 100) rfl #[.slice (some ⟨N82, 0, none⟩) 1 1, .slice (some ⟨N99, 0, none⟩) 4 4] (by kernel_rfl) ?_
  have g100 : KG 6 w.heap.size _ (some ⟨N82, 0, none⟩) 1 1 (some ⟨N99, 0, none⟩) 4 4 := ⟨⟨_, rfl, z82, rfl, rfl, r82⟩, _, k99, rfl, (fun j hj => by match j, hj with | 0, _ => exact ⟨rfl, rfl, rfl, Nat.le_of_ble_eq_true rfl, Nat.le_of_ble_eq_true rfl, Nat.le_of_ble_eq_true rfl⟩ | 1, _ => exact ⟨rfl, rfl, rfl, Nat.le_of_ble_eq_true rfl, Nat.le_of_ble_eq_true rfl, Nat.le_of_ble_eq_true rfl⟩ | 2, _ => exact ⟨rfl, rfl, rfl, Nat.le_of_ble_eq_true rfl, Nat.le_of_ble_eq_true rfl, Nat.le_of_ble_eq_true rfl⟩ | 3, _ => exact ⟨rfl, rfl, rfl, Nat.le_of_ble_eq_true rfl, Nat.le_of_ble_eq_true rfl, Nat.le_of_ble_eq_true rfl⟩), fr_some z99, (fun j hj => by match j, hj with | 0, _ => exact ⟨fr_some z83, fr_some z84, fr_some z85⟩ | 1, _ => exact ⟨fr_some z87, fr_some z88, fr_some z89⟩ | 2, _ => exact ⟨fr_some z91, fr_some z92, fr_some z93⟩ | 3, _ => exact ⟨fr_some z95, fr_some z96, fr_some z97⟩)⟩
  have c60 := b82.trans (c53.mono b82.size)
  have c61 := c60.trans (c55.mono c60.size)
  have c62 := c61.trans (c57.mono c61.size)
  have c63 := c62.trans (c59.mono c62.size)
  have c64 := c63.trans (b99.mono c63.size)
  have g10 := g10.below c64
  have g21 := g21.below c64
  have g32 := g32.below c64
  have g47 := g47.below c64
  have g62 := g62.below c64
  have g81 := g81.below c64
  clear r82 k82 k99
  refine lt_nat 101 [4] 4 rfl rfl rfl rfl ⟨by decide, by decide⟩ (by kernel_rfl) (by decide +kernel) (by kernel_rfl) fun N101 w101 r101 k101 b101 y101 => ?_
  have z101 := Nat.lt_of_lt_of_le q99 y101
  have q101 := Nat.lt_of_lt_of_le q99 b101.size
  clear y101 q99
  refine lt_nat 102 [4808252001440926015, 3011505958] 55552479688485757854533454143 rfl rfl rfl rfl ⟨by decide, by decide⟩ (by kernel_rfl) (by decide +kernel) (by kernel_rfl) fun N102 w102 r102 k102 b102 y102 => ?_
  have z102 := Nat.lt_of_lt_of_le q101 y102
  have q102 := Nat.lt_of_lt_of_le q101 b102.size
  clear y102 q101
  refine lt_nat 103 [2404126000720463007, 1505752979] 27776239844242878927266727071 rfl rfl rfl rfl ⟨by decide, by decide⟩ (by kernel_rfl) (by decide +kernel) (by kernel_rfl) fun N103 w103 r103 k103 b103 y103 => ?_
  have z103 := Nat.lt_of_lt_of_le q102 y103
  have q103 := Nat.lt_of_lt_of_le q102 b103.size
  clear y103 q102
  refine lt_nat 104 [2] 2 rfl rfl rfl rfl ⟨by decide, by decide⟩ (by kernel_rfl) (by decide +kernel) (by kernel_rfl) fun N104 w104 r104 k104 b104 y104 => ?_
  have z104 := Nat.lt_of_lt_of_le q103 y104
  have q104 := Nat.lt_of_lt_of_le q103 b104.size
  clear y104 q103
  refine wpList_buildTo rfl 49 _ rfl (some 105) rfl #[.slice (some ⟨N102, 0, none⟩) 2 2, .slice (some ⟨N103, 0, none⟩) 2 2, .slice (some ⟨N104, 0, none⟩) 1 1] (by kernel_rfl) ?_
  have s105 : Stp.At _ ⟨some ⟨N102, 0, none⟩, 2, 2, some ⟨N103, 0, none⟩, 2, 2, some ⟨N104, 0, none⟩, 1, 1, 55552479688485757854533454143, 27776239844242878927266727071, 2⟩ := ⟨(k102.below b103).below b104, k103.below b104, k104⟩
  have c65 := b102.trans (b103.mono b102.size)
  have c66 := c65.trans (b104.mono c65.size)
  have r101 := r101.bel c66
  clear k102 r102 k103 r103 k104 r104
  refine lt_nat 106 [2404126000720463007, 1505752979] 27776239844242878927266727071 rfl rfl rfl rfl ⟨by decide, by decide⟩ (by kernel_rfl) (by decide +kernel) (by kernel_rfl) fun N106 w106 r106 k106 b106 y106 => ?_
  have z106 := Nat.lt_of_lt_of_le q104 y106
  have q106 := Nat.lt_of_lt_of_le q104 b106.size
  clear y106 q104
  refine lt_nat 107 [223751503623384853] 223751503623384853 rfl rfl rfl rfl ⟨by decide, by decide⟩ (by kernel_rfl) (by decide +kernel) (by kernel_rfl) fun N107 w107 r107 k107 b107 y107 => ?_
  have z107 := Nat.lt_of_lt_of_le q106 y107
  have q107 := Nat.lt_of_lt_of_le q106 b107.size
  clear y107 q106
  refine lt_nat 108 [2] 2 rfl rfl rfl rfl ⟨by decide, by decide⟩ (by kernel_rfl) (by decide +kernel) (by kernel_rfl) fun N108 w108 r108 k108 b108 y108 => ?_
  have z108 := Nat.lt_of_lt_of_le q107 y108
  have q108 := Nat.lt_of_lt_of_le q107 b108.size
  clear y108 q107
  refine wpList_buildTo rfl 49 _ rfl (some 109) rfl #[.slice (some ⟨N106, 0, none⟩) 2 2, .slice (some ⟨N107, 0, none⟩) 1 1, .slice (some ⟨N108, 0, none⟩) 1 1] (by kernel_rfl) ?_
  have s109 : Stp.At _ ⟨some ⟨N106, 0, none⟩, 2, 2, some ⟨N107, 0, none⟩, 1, 1, some ⟨N108, 0, none⟩, 1, 1, 27776239844242878927266727071, 223751503623384853, 2⟩ := ⟨(k106.below b107).below b108, k107.below b108, k108⟩
  have c67 := b106.trans (b107.mono b106.size)
  have c68 := c67.trans (b108.mono c67.size)
  have s105 := s105.below c68
  have r101 := r101.bel c68
  clear k106 r106 k107 r107 k108 r108
  refine lt_nat 110 [223751503623384853] 223751503623384853 rfl rfl rfl rfl ⟨by decide, by decide⟩ (by kernel_rfl) (by decide +kernel) (by kernel_rfl) fun N110 w110 r110 k110 b110 y110 => ?_
  have z110 := Nat.lt_of_lt_of_le q108 y110
  have q110 := Nat.lt_of_lt_of_le q108 b110.size
  clear y110 q108
  refine lt_nat 111 [998205391] 998205391 rfl rfl rfl rfl ⟨by decide, by decide⟩ (by kernel_rfl) (by decide +kernel) (by kernel_rfl) fun N111 w111 r111 k111 b111 y111 => ?_
  have z111 := Nat.lt_of_lt_of_le q110 y111
  have q111 := Nat.lt_of_lt_of_le q110 b111.size
  clear y111 q110
  refine lt_nat 112 [2] 2 rfl rfl rfl rfl ⟨by decide, by decide⟩ (by kernel_rfl) (by decide +kernel) (by kernel_rfl) fun N112 w112 r112 k112 b112 y112 => ?_
  have z112 := Nat.lt_of_lt_of_le q111 y112
  have q112 := Nat.lt_of_lt_of_le q111 b112.size
  clear y112 q111
  refine wpList_buildTo rfl 49 _ rfl (some 113) rfl #[.slice (some ⟨N110, 0, none⟩) 1 1, .slice (some ⟨N111, 0, none⟩) 1 1, .slice (some ⟨N112, 0, none⟩) 1 1] (by kernel_rfl) ?_
  have s113 : Stp.At _ ⟨some ⟨N110, 0, none⟩, 1, 1, some ⟨N111, 0, none⟩, 1, 1, some ⟨N112, 0, none⟩, 1, 1, 223751503623384853, 998205391, 2⟩ := ⟨(k110.below b111).below b112, k111.below b112, k112⟩
  have c69 := b110.trans (b111.mono b110.size)
  have c70 := c69.trans (b112.mono c69.size)
  have s105 := s105.below c70
  have s109 := s109.below c70
  have r101 := r101.bel c70
  clear k110 r110 k111 r111 k112 r112
  refine lt_nat 114 [998205391] 998205391 rfl rfl rfl rfl ⟨by decide, by decide⟩ (by kernel_rfl) (by decide +kernel) (by kernel_rfl) fun N114 w114 r114 k114 b114 y114 => ?_
  have z114 := Nat.lt_of_lt_of_le q112 y114
  have q114 := Nat.lt_of_lt_of_le q112 b114.size
  clear y114 q112
  refine lt_nat 115 [40627] 40627 rfl rfl rfl rfl ⟨by decide, by decide⟩ (by kernel_rfl) (by decide +kernel) (by kernel_rfl) fun N115 w115 r115 k115 b115 y115 => ?_
  have z115 := Nat.lt_of_lt_of_le q114 y115
  have q115 := Nat.lt_of_lt_of_le q114 b115.size
  clear y115 q114
  refine lt_nat 116 [2] 2 rfl rfl rfl rfl ⟨by decide, by decide⟩ (by kernel_rfl) (by decide +kernel) (by kernel_rfl) fun N116 w116 r116 k116 b116 y116 => ?_
  have z116 := Nat.lt_of_lt_of_le q115 y116
  have q116 := Nat.lt_of_lt_of_le q115 b116.size
  clear y116 q115
  refine wpList_buildTo rfl 49 _ rfl (some 117) rfl #[.slice (some ⟨N114, 0, none⟩) 1 1, .slice (some ⟨N115, 0, none⟩) 1 1, .slice (some ⟨N116, 0, none⟩) 1 1] (by kernel_rfl) ?_
  have s117 : Stp.At _ ⟨some ⟨N114, 0, none⟩, 1, 1, some ⟨N115, 0, none⟩, 1, 1, some ⟨N116, 0, none⟩, 1, 1, 998205391, 40627, 2⟩ := ⟨(k114.below b115).below b116, k115.below b116, k116⟩
  have c71 := b114.trans (b115.mono b114.size)
  have c72 := c71.trans (b116.mono c71.size)
  have s105 := s105.below c72
  have s109 := s109.below c72
  have s113 := s113.below c72
  have r101 := r101.bel c72
  clear k114 r114 k115 r115 k116 r116
  refine lt_chain 118 [⟨some ⟨N102, 0, none⟩, 2, 2, some ⟨N103, 0, none⟩, 2, 2, some ⟨N104, 0, none⟩, 1, 1, 55552479688485757854533454143, 27776239844242878927266727071, 2⟩, ⟨some ⟨N106, 0, none⟩, 2, 2, some ⟨N107, 0, none⟩, 1, 1, some ⟨N108, 0, none⟩, 1, 1, 27776239844242878927266727071, 223751503623384853, 2⟩, ⟨some ⟨N110, 0, none⟩, 1, 1, some ⟨N111, 0, none⟩, 1, 1, some ⟨N112, 0, none⟩, 1, 1, 223751503623384853, 998205391, 2⟩, ⟨some ⟨N114, 0, none⟩, 1, 1, some ⟨N115, 0, none⟩, 1, 1, some ⟨N116, 0, none⟩, 1, 1, 998205391, 40627, 2⟩] rfl rfl rfl rfl (by simp) (by kernel_rfl) (List.forall_mem_cons.2 ⟨s105, List.forall_mem_cons.2 ⟨s109, List.forall_mem_cons.2 ⟨s113, List.forall_mem_cons.2 ⟨s117, fun _ h => by cases h⟩⟩⟩⟩) fun N118 w118 k118 b118 y118 => ?_
  have z118 := Nat.lt_of_lt_of_le q116 y118
  have q118 := Nat.lt_of_lt_of_le q116 b118.size
  clear y118 q116
  have r101 := r101.bel b118
  clear s105 s109 s113 s117
  refine wpList_buildTo rfl 33 _ rfl (some 119) rfl #[.slice (some ⟨N101, 0, none⟩) 1 1, .slice (some ⟨N118, 0, none⟩) 4 4] (by kernel_rfl) ?_
  have g119 : KG 7 w.heap.size _ (some ⟨N101, 0, none⟩) 1 1 (some ⟨N118, 0, none⟩) 4 4 := ⟨⟨_, rfl, z101, rfl, rfl, r101⟩, _, k118, rfl, (fun j hj => by match j, hj with | 0, _ => exact ⟨rfl, rfl, rfl, Nat.le_of_ble_eq_true rfl, Nat.le_of_ble_eq_true rfl, Nat.le_of_ble_eq_true rfl⟩ | 1, _ => exact ⟨rfl, rfl, rfl, Nat.le_of_ble_eq_true rfl, Nat.le_of_ble_eq_true rfl, Nat.le_of_ble_eq_true rfl⟩ | 2, _ => exact ⟨rfl, rfl, rfl, Nat.le_of_ble_eq_true rfl, Nat.le_of_ble_eq_true rfl, Nat.le_of_ble_eq_true rfl⟩ | 3, _ => exact ⟨rfl, rfl, rfl, Nat.le_of_ble_eq_true rfl, Nat.le_of_ble_eq_true rfl, Nat.le_of_ble_eq_true rfl⟩), fr_some z118, (fun j hj => by match j, hj with | 0, _ => exact ⟨fr_some z102, fr_some z103, fr_some z104⟩ | 1, _ => exact ⟨fr_some z106, fr_some z107, fr_some z108⟩ | 2, _ => exact ⟨fr_some z110, fr_some z111, fr_some z112⟩ | 3, _ => exact ⟨fr_some z114, fr_some z115, fr_some z116⟩)⟩
  have c73 := b101.trans (c66.mono b101.size)
  have c74 := c73.trans (c68.mono c73.size)
  have c75 := c74.trans (c70.mono c74.size)
  have c76 := c75.trans (c72.mono c75.size)
  have c77 := c76.trans (b118.mono c76.size)
  have g10 := g10.below c77
  have g21 := g21.below c77
  have g32 := g32.below c77
  have g47 := g47.below c77
  have g62 := g62.below c77
  have g81 := g81.below c77
  have g100 := g100.below c77
  clear r101 k101 k118
  refine lt_nat 120 [4] 4 rfl rfl rfl rfl ⟨by decide, by decide⟩ (by kernel_rfl) (by decide +kernel) (by kernel_rfl) fun N120 w120 r120 k120 b120 y120 => ?_
  have z120 := Nat.lt_of_lt_of_le q118 y120
  have q120 := Nat.lt_of_lt_of_le q118 b120.size
  clear y120 q118
  refine lt_nat 121 [2134952957892123371, 15956530409638412463] 294346032770963629115021612295688313579 rfl rfl rfl rfl ⟨by decide, by decide⟩ (by kernel_rfl) (by decide +kernel) (by kernel_rfl) fun N121 w121 r121 k121 b121 y121 => ?_
  have z121 := Nat.lt_of_lt_of_le q120 y121
  have q121 := Nat.lt_of_lt_of_le q120 b121.size
  clear y121 q120
  refine lt_nat 122 [10290848515800837493, 7978265204819206231] 147173016385481814557510806147844156789 rfl rfl rfl rfl ⟨by decide, by decide⟩ (by kernel_rfl) (by decide +kernel) (by kernel_rfl) fun N122 w122 r122 k122 b122 y122 => ?_
  have z122 := Nat.lt_of_lt_of_le q121 y122
  have q122 := Nat.lt_of_lt_of_le q121 b122.size
  clear y122 q121
  refine lt_nat 123 [2] 2 rfl rfl rfl rfl ⟨by decide, by decide⟩ (by kernel_rfl) (by decide +kernel) (by kernel_rfl) fun N123 w123 r123 k123 b123 y123 => ?_
  have z123 := Nat.lt_of_lt_of_le q122 y123
  have q123 := Nat.lt_of_lt_of_le q122 b123.size
  clear y123 q122
  refine wpList_buildTo rfl 49 _ rfl (some 124) rfl #[.slice (some ⟨N121, 0, none⟩) 2 2, .slice (some ⟨N122, 0, none⟩) 2 2, .slice (some ⟨N123, 0, none⟩) 1 1] (by kernel_rfl) ?_
  have s124 : Stp.At _ ⟨some ⟨N121, 0, none⟩, 2, 2, some ⟨N122, 0, none⟩, 2, 2, some ⟨N123, 0, none⟩, 1, 1, 294346032770963629115021612295688313579, 147173016385481814557510806147844156789, 2⟩ := ⟨(k121.below b122).below b123, k122.below b123, k123⟩
  have c78 := b121.trans (b122.mono b121.size)
  have c79 := c78.trans (b123.mono c78.size)
  have r120 := r120.bel c79
  clear k121 r121 k122 r122 k123 r123
  refine lt_nat 125 [10290848515800837493, 7978265204819206231] 147173016385481814557510806147844156789 rfl rfl rfl rfl ⟨by decide, by decide⟩ (by kernel_rfl) (by decide +kernel) (by kernel_rfl) fun N125 w125 r125 k125 b125 y125 => ?_
  have z125 := Nat.lt_of_lt_of_le q123 y125
  have q125 := Nat.lt_of_lt_of_le q123 b125.size
  clear y125 q123
  refine lt_nat 126 [11996286182992634747, 863074989703505] 15920923451480075136035353326248827 rfl rfl rfl rfl ⟨by decide, by decide⟩ (by kernel_rfl) (by decide +kernel) (by kernel_rfl) fun N126 w126 r126 k126 b126 y126 => ?_
  have z126 := Nat.lt_of_lt_of_le q125 y126
  have q126 := Nat.lt_of_lt_of_le q125 b126.size
  clear y126 q125
  refine lt_nat 127 [2] 2 rfl rfl rfl rfl ⟨by decide, by decide⟩ (by kernel_rfl) (by decide +kernel) (by kernel_rfl) fun N127 w127 r127 k127 b127 y127 => ?_
  have z127 := Nat.lt_of_lt_of_le q126 y127
  have q127 := Nat.lt_of_lt_of_le q126 b127.size
  clear y127 q126
  refine wpList_buildTo rfl 49 _ rfl (some 128) rfl #[.slice (some ⟨N125, 0, none⟩) 2 2, .slice (some ⟨N126, 0, none⟩) 2 2, .slice (some ⟨N127, 0, none⟩) 1 1] (by kernel_rfl) ?_
  have s128 : Stp.At _ ⟨some ⟨N125, 0, none⟩, 2, 2, some ⟨N126, 0, none⟩, 2, 2, some ⟨N127, 0, none⟩, 1, 1, 147173016385481814557510806147844156789, 15920923451480075136035353326248827, 2⟩ := ⟨(k125.below b126).below b127, k126.below b127, k127⟩
  have c80 := b125.trans (b126.mono b125.size)
  have c81 := c80.trans (b127.mono c80.size)
  have s124 := s124.below c81
  have r120 := r120.bel c81
  clear k125 r125 k126 r126 k127 r127
  refine lt_nat 129 [11996286182992634747, 863074989703505] 15920923451480075136035353326248827 rfl rfl rfl rfl ⟨by decide, by decide⟩ (by kernel_rfl) (by decide +kernel) (by kernel_rfl) fun N129 w129 r129 k129 b129 y129 => ?_
  have z129 := Nat.lt_of_lt_of_le q127 y129
  have q129 := Nat.lt_of_lt_of_le q127 b129.size
  clear y129 q127
  refine lt_nat 130 [193128230530517629] 193128230530517629 rfl rfl rfl rfl ⟨by decide, by decide⟩ (by kernel_rfl) (by decide +kernel) (by kernel_rfl) fun N130 w130 r130 k130 b130 y130 => ?_
  have z130 := Nat.lt_of_lt_of_le q129 y130
  have q130 := Nat.lt_of_lt_of_le q129 b130.size
  clear y130 q129
  refine lt_nat 131 [2] 2 rfl rfl rfl rfl ⟨by decide, by decide⟩ (by kernel_rfl) (by decide +kernel) (by kernel_rfl) fun N131 w131 r131 k131 b131 y131 => ?_
  have z131 := Nat.lt_of_lt_of_le q130 y131
  have q131 := Nat.lt_of_lt_of_le q130 b131.size
  clear y131 q130
  refine wpList_buildTo rfl 49 _ rfl (some 132) rfl #[.slice (some ⟨N129, 0, none⟩) 2 2, .slice (some ⟨N130, 0, none⟩) 1 1, .slice (some ⟨N131, 0, none⟩) 1 1] (by kernel_rfl) ?_
  have s132 : Stp.At _ ⟨some ⟨N129, 0, none⟩, 2, 2, some ⟨N130, 0, none⟩, 1, 1, some ⟨N131, 0, none⟩, 1, 1, 15920923451480075136035353326248827, 193128230530517629, 2⟩ := ⟨(k129.below b130).below b131, k130.below b131, k131⟩
  have c82 := b129.trans (b130.mono b129.size)
  have c83 := c82.trans (b131.mono c82.size)
  have s124 := s124.below c83
  have s128 := s128.below c83
  have r120 := r120.bel c83
  clear k129 r129 k130 r130 k131 r131
  refine lt_nat 133 [193128230530517629] 193128230530517629 rfl rfl rfl rfl ⟨by decide, by decide⟩ (by kernel_rfl) (by decide +kernel) (by kernel_rfl) fun N133 w133 r133 k133 b133 y133 => ?_
  have z133 := Nat.lt_of_lt_of_le q131 y133
  have q133 := Nat.lt_of_lt_of_le q131 b133.size
  clear y133 q131
  refine lt_nat 134 [588713921] 588713921 rfl rfl rfl rfl ⟨by decide, by decide⟩ (by kernel_rfl) (by decide +kernel) (by kernel_rfl) fun N134 w134 r134 k134 b134 y134 => ?_
  have z134 := Nat.lt_of_lt_of_le q133 y134
  have q134 := Nat.lt_of_lt_of_le q133 b134.size
  clear y134 q133
  refine lt_nat 135 [2] 2 rfl rfl rfl rfl ⟨by decide, by decide⟩ (by kernel_rfl) (by decide +kernel) (by kernel_rfl) fun N135 w135 r135 k135 b135 y135 => ?_
  have z135 := Nat.lt_of_lt_of_le q134 y135
  have q135 := Nat.lt_of_lt_of_le q134 b135.size
  clear y135 q134
  refine wpList_buildTo rfl 49 _ rfl (some 136) rfl #[.slice (some ⟨N133, 0, none⟩) 1 1, .slice (some ⟨N134, 0, none⟩) 1 1, .slice (some ⟨N135, 0, none⟩) 1 1] (by kernel_rfl) ?_
  have s136 : Stp.At _ ⟨some ⟨N133, 0, none⟩, 1, 1, some ⟨N134, 0, none⟩, 1, 1, some ⟨N135, 0, none⟩, 1, 1, 193128230530517629, 588713921, 2⟩ := ⟨(k133.below b134).below b135, k134.below b135, k135⟩
  have c84 := b133.trans (b134.mono b133.size)
  have c85 := c84.trans (b135.mono c84.size)
  have s124 := s124.below c85
  have s128 := s128.below c85
  have s132 := s132.below c85
  have r120 := r120.bel c85
  clear k133 r133 k134 r134 k135 r135
  refine lt_nat 137 [588713921] 588713921 rfl rfl rfl rfl ⟨by decide, by decide⟩ (by kernel_rfl) (by decide +kernel) (by kernel_rfl) fun N137 w137 r137 k137 b137 y137 => ?_
  have z137 := Nat.lt_of_lt_of_le q135 y137
  have q137 := Nat.lt_of_lt_of_le q135 b137.size
  clear y137 q135
  refine lt_nat 138 [63439] 63439 rfl rfl rfl rfl ⟨by decide, by decide⟩ (by kernel_rfl) (by decide +kernel) (by kernel_rfl) fun N138 w138 r138 k138 b138 y138 => ?_
  have z138 := Nat.lt_of_lt_of_le q137 y138
  have q138 := Nat.lt_of_lt_of_le q137 b138.size
  clear y138 q137
  refine lt_nat 139 [2] 2 rfl rfl rfl rfl ⟨by decide, by decide⟩ (by kernel_rfl) (by decide +kernel) (by kernel_rfl) fun N139 w139 r139 k139 b139 y139 => ?_
  have z139 := Nat.lt_of_lt_of_le q138 y139
  have q139 := Nat.lt_of_lt_of_le q138 b139.size
  clear y139 q138
  refine wpList_buildTo rfl 49 _ rfl (some 140) rfl #[.slice (some ⟨N137, 0, none⟩) 1 1, .slice (some ⟨N138, 0, none⟩) 1 1, .slice (some ⟨N139, 0, none⟩) 1 1] (by kernel_rfl) ?_
  have s140 : Stp.At _ ⟨some ⟨N137, 0, none⟩, 1, 1, some ⟨N138, 0, none⟩, 1, 1, some ⟨N139, 0, none⟩, 1, 1, 588713921, 63439, 2⟩ := ⟨(k137.below b138).below b139, k138.below b139, k139⟩
  have c86 := b137.trans (b138.mono b137.size)
  have c87 := c86.trans (b139.mono c86.size)
  have s124 := s124.below c87
  have s128 := s128.below c87
  have s132 := s132.below c87
  have s136 := s136.below c87
  have r120 := r120.bel c87
  clear k137 r137 k138 r138 k139 r139
  refine lt_chain 141 [⟨some ⟨N121, 0, none⟩, 2, 2, some ⟨N122, 0, none⟩, 2, 2, some ⟨N123, 0, none⟩, 1, 1, 294346032770963629115021612295688313579, 147173016385481814557510806147844156789, 2⟩, ⟨some ⟨N125, 0, none⟩, 2, 2, some ⟨N126, 0, none⟩, 2, 2, some ⟨N127, 0, none⟩, 1, 1, 147173016385481814557510806147844156789, 15920923451480075136035353326248827, 2⟩, ⟨some ⟨N129, 0, none⟩, 2, 2, some ⟨N130, 0, none⟩, 1, 1, some ⟨N131, 0, none⟩, 1, 1, 15920923451480075136035353326248827, 193128230530517629, 2⟩, ⟨some ⟨N133, 0, none⟩, 1, 1, some ⟨N134, 0, none⟩, 1, 1, some ⟨N135, 0, none⟩, 1, 1, 193128230530517629, 588713921, 2⟩, ⟨some ⟨N137, 0, none⟩, 1, 1, some ⟨N138, 0, none⟩, 1, 1, some ⟨N139, 0, none⟩, 1, 1, 588713921, 63439, 2⟩] rfl rfl rfl rfl (by simp) (by kernel_rfl) (List.forall_mem_cons.2 ⟨s124, List.forall_mem_cons.2 ⟨s128, List.forall_mem_cons.2 ⟨s132, List.forall_mem_cons.2 ⟨s136, List.forall_mem_cons.2 ⟨s140, fun _ h => by cases h⟩⟩⟩⟩⟩) fun N141 w141 k141 b141 y141 => ?_
  have z141 := Nat.lt_of_lt_of_le q139 y141
  have q141 := Nat.lt_of_lt_of_le q139 b141.size
  clear y141 q139
  have r120 := r120.bel b141
  clear s124 s128 s132 s136 s140
  refine wpList_buildTo rfl 33 _ rfl (some 142) rfl #[.slice (some ⟨N120, 0, none⟩) 1 1, .slice (some ⟨N141, 0, none⟩) 5 5] (by kernel_rfl) ?_
  have g142 : KG 8 w.heap.size _ (some ⟨N120, 0, none⟩) 1 1 (some ⟨N141, 0, none⟩) 5 5 := ⟨⟨_, rfl, z120, rfl, rfl, r120⟩, _, k141, rfl, (fun j hj => by match j, hj with | 0, _ => exact ⟨rfl, rfl, rfl, Nat.le_of_ble_eq_true rfl, Nat.le_of_ble_eq_true rfl, Nat.le_of_ble_eq_true rfl⟩ | 1, _ => exact ⟨rfl, rfl, rfl, Nat.le_of_ble_eq_true rfl, Nat.le_of_ble_eq_true rfl, Nat.le_of_ble_eq_true rfl⟩ | 2, _ => exact ⟨rfl, rfl, rfl, Nat.le_of_ble_eq_true rfl, Nat.le_of_ble_eq_true rfl, Nat.le_of_ble_eq_true rfl⟩ | 3, _ => exact ⟨rfl, rfl, rfl, Nat.le_of_ble_eq_true rfl, Nat.le_of_ble_eq_true rfl, Nat.le_of_ble_eq_true rfl⟩ | 4, _ => exact ⟨rfl, rfl, rfl, Nat.le_of_ble_eq_true rfl, Nat.le_of_ble_eq_true rfl, Nat.le_of_ble_eq_true rfl⟩), fr_some z141, (fun j hj => by match j, hj with | 0, _ => exact ⟨fr_some z121, fr_some z122, fr_some z123⟩ | 1, _ => exact ⟨fr_some z125, fr_some z126, fr_some z127⟩ | 2, _ => exact ⟨fr_some z129, fr_some z130, fr_some z131⟩ | 3, _ => exact ⟨fr_some z133, fr_some z134, fr_some z135⟩ | 4, _ => exact ⟨fr_some z137, fr_some z138, fr_some z139⟩)⟩
  have c88 := b120.trans (c79.mono b120.size)
  have c89 := c88.trans (c81.mono c88.size)
  have c90 := c89.trans (c83.mono c89.size)
  have c91 := c90.trans (c85.mono c90.size)
  have c92 := c91.trans (c87.mono c91.size)
  have c93 := c92.trans (b141.mono c92.size)
  have g10 := g10.below c93
  have g21 := g21.below c93
  have g32 := g32.below c93
  have g47 := g47.below c93
  have g62 := g62.below c93
  have g81 := g81.below c93
  have g100 := g100.below c93
  have g119 := g119.below c93
  clear r120 k120 k141
  refine lt_nat 143 [4] 4 rfl rfl rfl rfl ⟨by decide, by decide⟩ (by kernel_rfl) (by decide +kernel) (by kernel_rfl) fun N143 w143 r143 k143 b143 y143 => ?_
  have z143 := Nat.lt_of_lt_of_le q141 y143
  have q143 := Nat.lt_of_lt_of_le q141 b143.size
  clear y143 q141
  refine lt_nat 144 [9215473365567259271, 4605804108090883984, 15540118379551537448] 5288028264425375924331143837851554665000536648901249581703 rfl rfl rfl rfl ⟨by decide, by decide⟩ (by kernel_rfl) (by decide +kernel) (by kernel_rfl) fun N144 w144 r144 k144 b144 y144 => ?_
  have z144 := Nat.lt_of_lt_of_le q143 y144
  have q144 := Nat.lt_of_lt_of_le q143 b144.size
  clear y144 q143
  refine lt_nat 145 [4607736682783629635, 2302902054045441992, 7770059189775768724] 2644014132212687962165571918925777332500268324450624790851 rfl rfl rfl rfl ⟨by decide, by decide⟩ (by kernel_rfl) (by decide +kernel) (by kernel_rfl) fun N145 w145 r145 k145 b145 y145 => ?_
  have z145 := Nat.lt_of_lt_of_le q144 y145
  have q145 := Nat.lt_of_lt_of_le q144 b145.size
  clear y145 q144
  refine lt_nat 146 [2] 2 rfl rfl rfl rfl ⟨by decide, by decide⟩ (by kernel_rfl) (by decide +kernel) (by kernel_rfl) fun N146 w146 r146 k146 b146 y146 => ?_
  have z146 := Nat.lt_of_lt_of_le q145 y146
  have q146 := Nat.lt_of_lt_of_le q145 b146.size
  clear y146 q145
  refine wpList_buildTo rfl 49 _ rfl (some 147) rfl #[.slice (some ⟨N144, 0, none⟩) 3 3, .slice (some ⟨N145, 0, none⟩) 3 3, .slice (some ⟨N146, 0, none⟩) 1 1] (by kernel_rfl) ?_
  have s147 : Stp.At _ ⟨some ⟨N144, 0, none⟩, 3, 3, some ⟨N145, 0, none⟩, 3, 3, some ⟨N146, 0, none⟩, 1, 1, 5288028264425375924331143837851554665000536648901249581703, 2644014132212687962165571918925777332500268324450624790851, 2⟩ := ⟨(k144.below b145).below b146, k145.below b146, k146⟩
  have c94 := b144.trans (b145.mono b144.size)
  have c95 := c94.trans (b146.mono c94.size)
  have r143 := r143.bel c95
  clear k144 r144 k145 r145 k146 r146
  refine lt_nat 148 [4607736682783629635, 2302902054045441992, 7770059189775768724] 2644014132212687962165571918925777332500268324450624790851 rfl rfl rfl rfl ⟨by decide, by decide⟩ (by kernel_rfl) (by decide +kernel) (by kernel_rfl) fun N148 w148 r148 k148 b148 y148 => ?_
  have z148 := Nat.lt_of_lt_of_le q146 y148
  have q148 := Nat.lt_of_lt_of_le q146 b148.size
  clear y148 q146
  refine lt_nat 149 [7859188658856360755, 945900106163132] 17448777177685998800207916726582067 rfl rfl rfl rfl ⟨by decide, by decide⟩ (by kernel_rfl) (by decide +kernel) (by kernel_rfl) fun N149 w149 r149 k149 b149 y149 => ?_
  have z149 := Nat.lt_of_lt_of_le q148 y149
  have q149 := Nat.lt_of_lt_of_le q148 b149.size
  clear y149 q148
  refine lt_nat 150 [2] 2 rfl rfl rfl rfl ⟨by decide, by decide⟩ (by kernel_rfl) (by decide +kernel) (by kernel_rfl) fun N150 w150 r150 k150 b150 y150 => ?_
  have z150 := Nat.lt_of_lt_of_le q149 y150
  have q150 := Nat.lt_of_lt_of_le q149 b150.size
  clear y150 q149
  refine wpList_buildTo rfl 49 _ rfl (some 151) rfl #[.slice (some ⟨N148, 0, none⟩) 3 3, .slice (some ⟨N149, 0, none⟩) 2 2, .slice (some ⟨N150, 0, none⟩) 1 1] (by kernel_rfl) ?_
  have s151 : Stp.At _ ⟨some ⟨N148, 0, none⟩, 3, 3, some ⟨N149, 0, none⟩, 2, 2, some ⟨N150, 0, none⟩, 1, 1, 2644014132212687962165571918925777332500268324450624790851, 17448777177685998800207916726582067, 2⟩ := ⟨(k148.below b149).below b150, k149.below b150, k150⟩
  have c96 := b148.trans (b149.mono b148.size)
  have c97 := c96.trans (b150.mono c96.size)
  have s147 := s147.below c97
  have r143 := r143.bel c97
  clear k148 r148 k149 r149 k150 r150
  refine lt_nat 152 [7859188658856360755, 945900106163132] 17448777177685998800207916726582067 rfl rfl rfl rfl ⟨by decide, by decide⟩ (by kernel_rfl) (by decide +kernel) (by kernel_rfl) fun N152 w152 r152 k152 b152 y152 => ?_
  have z152 := Nat.lt_of_lt_of_le q150 y152
  have q152 := Nat.lt_of_lt_of_le q150 b152.size
  clear y152 q150
  refine lt_nat 153 [230885128227773927] 230885128227773927 rfl rfl rfl rfl ⟨by decide, by decide⟩ (by kernel_rfl) (by decide +kernel) (by kernel_rfl) fun N153 w153 r153 k153 b153 y153 => ?_
  have z153 := Nat.lt_of_lt_of_le q152 y153
  have q153 := Nat.lt_of_lt_of_le q152 b153.size
  clear y153 q152
  refine lt_nat 154 [2] 2 rfl rfl rfl rfl ⟨by decide, by decide⟩ (by kernel_rfl) (by decide +kernel) (by kernel_rfl) fun N154 w154 r154 k154 b154 y154 => ?_
  have z154 := Nat.lt_of_lt_of_le q153 y154
  have q154 := Nat.lt_of_lt_of_le q153 b154.size
  clear y154 q153
  refine wpList_buildTo rfl 49 _ rfl (some 155) rfl #[.slice (some ⟨N152, 0, none⟩) 2 2, .slice (some ⟨N153, 0, none⟩) 1 1, .slice (some ⟨N154, 0, none⟩) 1 1] (by kernel_rfl) ?_
  have s155 : Stp.At _ ⟨some ⟨N152, 0, none⟩, 2, 2, some ⟨N153, 0, none⟩, 1, 1, some ⟨N154, 0, none⟩, 1, 1, 17448777177685998800207916726582067, 230885128227773927, 2⟩ := ⟨(k152.below b153).below b154, k153.below b154, k154⟩
  have c98 := b152.trans (b153.mono b152.size)
  have c99 := c98.trans (b154.mono c98.size)
  have s147 := s147.below c99
  have s151 := s151.below c99
  have r143 := r143.bel c99
  clear k152 r152 k153 r153 k154 r154
  refine lt_nat 156 [230885128227773927] 230885128227773927 rfl rfl rfl rfl ⟨by decide, by decide⟩ (by kernel_rfl) (by decide +kernel) (by kernel_rfl) fun N156 w156 r156 k156 b156 y156 => ?_
  have z156 := Nat.lt_of_lt_of_le q154 y156
  have q156 := Nat.lt_of_lt_of_le q154 b156.size
  clear y156 q154
  refine lt_nat 157 [725375153] 725375153 rfl rfl rfl rfl ⟨by decide, by decide⟩ (by kernel_rfl) (by decide +kernel) (by kernel_rfl) fun N157 w157 r157 k157 b157 y157 => ?_
  have z157 := Nat.lt_of_lt_of_le q156 y157
  have q157 := Nat.lt_of_lt_of_le q156 b157.size
  clear y157 q156
  refine lt_nat 158 [2] 2 rfl rfl rfl rfl ⟨by decide, by decide⟩ (by kernel_rfl) (by decide +kernel) (by kernel_rfl) fun N158 w158 r158 k158 b158 y158 => ?_
  have z158 := Nat.lt_of_lt_of_le q157 y158
  have q158 := Nat.lt_of_lt_of_le q157 b158.size
  clear y158 q157
  refine wpList_buildTo rfl 49 _ rfl (some 159) rfl #[.slice (some ⟨N156, 0, none⟩) 1 1, .slice (some ⟨N157, 0, none⟩) 1 1, .slice (some ⟨N158, 0, none⟩) 1 1] (by kernel_rfl) ?_
  have s159 : Stp.At _ ⟨some ⟨N156, 0, none⟩, 1, 1, some ⟨N157, 0, none⟩, 1, 1, some ⟨N158, 0, none⟩, 1, 1, 230885128227773927, 725375153, 2⟩ := ⟨(k156.below b157).below b158, k157.below b158, k158⟩
  have c100 := b156.trans (b157.mono b156.size)
  have c101 := c100.trans (b158.mono c100.size)
  have s147 := s147.below c101
  have s151 := s151.below c101
  have s155 := s155.below c101
  have r143 := r143.bel c101
  clear k156 r156 k157 r157 k158 r158
  refine lt_nat 160 [725375153] 725375153 rfl rfl rfl rfl ⟨by decide, by decide⟩ (by kernel_rfl) (by decide +kernel) (by kernel_rfl) fun N160 w160 r160 k160 b160 y160 => ?_
  have z160 := Nat.lt_of_lt_of_le q158 y160
  have q160 := Nat.lt_of_lt_of_le q158 b160.size
  clear y160 q158
  refine lt_nat 161 [34847] 34847 rfl rfl rfl rfl ⟨by decide, by decide⟩ (by kernel_rfl) (by decide +kernel) (by kernel_rfl) fun N161 w161 r161 k161 b161 y161 => ?_
  have z161 := Nat.lt_of_lt_of_le q160 y161
  have q161 := Nat.lt_of_lt_of_le q160 b161.size
  clear y161 q160
  refine lt_nat 162 [2] 2 rfl rfl rfl rfl ⟨by decide, by decide⟩ (by kernel_rfl) (by decide +kernel) (by kernel_rfl) fun N162 w162 r162 k162 b162 y162 => ?_
  have z162 := Nat.lt_of_lt_of_le q161 y162
  have q162 := Nat.lt_of_lt_of_le q161 b162.size
  clear y162 q161
  refine wpList_buildTo rfl 49 _ rfl (some 163) rfl #[.slice (some ⟨N160, 0, none⟩) 1 1, .slice (some ⟨N161, 0, none⟩) 1 1, .slice (some ⟨N162, 0, none⟩) 1 1] (by kernel_rfl) ?_
  have s163 : Stp.At _ ⟨some ⟨N160, 0, none⟩, 1, 1, some ⟨N161, 0, none⟩, 1, 1, some ⟨N162, 0, none⟩, 1, 1, 725375153, 34847, 2⟩ := ⟨(k160.below b161).below b162, k161.below b162, k162⟩
  have c102 := b160.trans (b161.mono b160.size)
  have c103 := c102.trans (b162.mono c102.size)
  have s147 := s147.below c103
  have s151 := s151.below c103
  have s155 := s155.below c103
  have s159 := s159.below c103
  have r143 := r143.bel c103
  clear k160 r160 k161 r161 k162 r162
  refine lt_chain 164 [⟨some ⟨N144, 0, none⟩, 3, 3, some ⟨N145, 0, none⟩, 3, 3, some ⟨N146, 0, none⟩, 1, 1, 5288028264425375924331143837851554665000536648901249581703, 2644014132212687962165571918925777332500268324450624790851, 2⟩, ⟨some ⟨N148, 0, none⟩, 3, 3, some ⟨N149, 0, none⟩, 2, 2, some ⟨N150, 0, none⟩, 1, 1, 2644014132212687962165571918925777332500268324450624790851, 17448777177685998800207916726582067, 2⟩, ⟨some ⟨N152, 0, none⟩, 2, 2, some ⟨N153, 0, none⟩, 1, 1, some ⟨N154, 0, none⟩, 1, 1, 17448777177685998800207916726582067, 230885128227773927, 2⟩, ⟨some ⟨N156, 0, none⟩, 1, 1, some ⟨N157, 0, none⟩, 1, 1, some ⟨N158, 0, none⟩, 1, 1, 230885128227773927, 725375153, 2⟩, ⟨some ⟨N160, 0, none⟩, 1, 1, some ⟨N161, 0, none⟩, 1, 1, some ⟨N162, 0, none⟩, 1, 1, 725375153, 34847, 2⟩] rfl rfl rfl rfl (by simp) (by kernel_rfl) (List.forall_mem_cons.2 ⟨s147, List.forall_mem_cons.2 ⟨s151, List.forall_mem_cons.2 ⟨s155, List.forall_mem_cons.2 ⟨s159, List.forall_mem_cons.2 ⟨s163, fun _ h => by cases h⟩⟩⟩⟩⟩) fun N164 w164 k164 b164 y164 => ?_
  have z164 := Nat.lt_of_lt_of_le q162 y164
  have q164 := Nat.lt_of_lt_of_le q162 b164.size
  clear y164 q162
  have r143 := r143.bel b164
  clear s147 s151 s155 s159 s163
  refine wpList_buildTo rfl 33 _ rfl (some 165) rfl #[.slice (some ⟨N143, 0, none⟩) 1 1, .slice (some ⟨N164, 0, none⟩) 5 5] (by kernel_rfl) ?_
  have g165 : KG 9 w.heap.size _ (some ⟨N143, 0, none⟩) 1 1 (some ⟨N164, 0, none⟩) 5 5 := ⟨⟨_, rfl, z143, rfl, rfl, r143⟩, _, k164, rfl, (fun j hj => by match j, hj with | 0, _ => exact ⟨rfl, rfl, rfl, Nat.le_of_ble_eq_true rfl, Nat.le_of_ble_eq_true rfl, Nat.le_of_ble_eq_true rfl⟩ | 1, _ => exact ⟨rfl, rfl, rfl, Nat.le_of_ble_eq_true rfl, Nat.le_of_ble_eq_true rfl, Nat.le_of_ble_eq_true rfl⟩ | 2, _ => exact ⟨rfl, rfl, rfl, Nat.le_of_ble_eq_true rfl, Nat.le_of_ble_eq_true rfl, Nat.le_of_ble_eq_true rfl⟩ | 3, _ => exact ⟨rfl, rfl, rfl, Nat.le_of_ble_eq_true rfl, Nat.le_of_ble_eq_true rfl, Nat.le_of_ble_eq_true rfl⟩ | 4, _ => exact ⟨rfl, rfl, rfl, Nat.le_of_ble_eq_true rfl, Nat.le_of_ble_eq_true rfl, Nat.le_of_ble_eq_true rfl⟩), fr_some z164, (fun j hj => by match j, hj with | 0, _ => exact ⟨fr_some z144, fr_some z145, fr_some z146⟩ | 1, _ => exact ⟨fr_some z148, fr_some z149, fr_some z150⟩ | 2, _ => exact ⟨fr_some z152, fr_some z153, fr_some z154⟩ | 3, _ => exact ⟨fr_some z156, fr_some z157, fr_some z158⟩ | 4, _ => exact ⟨fr_some z160, fr_some z161, fr_some z162⟩)⟩
  have c104 := b143.trans (c95.mono b143.size)
  have c105 := c104.trans (c97.mono c104.size)
  have c106 := c105.trans (c99.mono c105.size)
  have c107 := c106.trans (c101.mono c106.size)
  have c108 := c107.trans (c103.mono c107.size)
  have c109 := c108.trans (b164.mono c108.size)
  have g10 := g10.below c109
  have g21 := g21.below c109
  have g32 := g32.below c109
  have g47 := g47.below c109
  have g62 := g62.below c109
  have g81 := g81.below c109
  have g100 := g100.below c109
  have g119 := g119.below c109
  have g142 := g142.below c109
  clear r143 k143 k164
  refine lt_nat 166 [4] 4 rfl rfl rfl rfl ⟨by decide, by decide⟩ (by kernel_rfl) (by decide +kernel) (by kernel_rfl) fun N166 w166 r166 k166 b166 y166 => ?_
  have z166 := Nat.lt_of_lt_of_le q164 y166
  have q166 := Nat.lt_of_lt_of_le q164 b166.size
  clear y166 q164
  refine lt_nat 167 [10799784259066542827, 9606633416393899386, 8878368538482454987, 15746236207369801358] 98840726623089566538132827080390358131446738208679300614933978093311771294443 rfl rfl rfl rfl ⟨by decide, by decide⟩ (by kernel_rfl) (by decide +kernel) (by kernel_rfl) fun N167 w167 r167 k167 b167 y167 => ?_
  have z167 := Nat.lt_of_lt_of_le q166 y167
  have q167 := Nat.lt_of_lt_of_le q166 b167.size
  clear y167 q166
  refine lt_nat 168 [5399892129533271413, 14026688745051725501, 4439184269241227493, 7873118103684900679] 49420363311544783269066413540195179065723369104339650307466989046655885647221 rfl rfl rfl rfl ⟨by decide, by decide⟩ (by kernel_rfl) (by decide +kernel) (by kernel_rfl) fun N168 w168 r168 k168 b168 y168 => ?_
  have z168 := Nat.lt_of_lt_of_le q167 y168
  have q168 := Nat.lt_of_lt_of_le q167 b168.size
  clear y168 q167
  refine lt_nat 169 [2] 2 rfl rfl rfl rfl ⟨by decide, by decide⟩ (by kernel_rfl) (by decide +kernel) (by kernel_rfl) fun N169 w169 r169 k169 b169 y169 => ?_
  have z169 := Nat.lt_of_lt_of_le q168 y169
  have q169 := Nat.lt_of_lt_of_le q168 b169.size
  clear y169 q168
  refine wpList_buildTo rfl 49 _ rfl (some 170) rfl #[.slice (some ⟨N167, 0, none⟩) 4 4, .slice (some ⟨N168, 0, none⟩) 4 4, .slice (some ⟨N169, 0, none⟩) 1 1] (by kernel_rfl) ?_
  have s170 : Stp.At _ ⟨some ⟨N167, 0, none⟩, 4, 4, some ⟨N168, 0, none⟩, 4, 4, some ⟨N169, 0, none⟩, 1, 1, 98840726623089566538132827080390358131446738208679300614933978093311771294443, 49420363311544783269066413540195179065723369104339650307466989046655885647221, 2⟩ := ⟨(k167.below b168).below b169, k168.below b169, k169⟩
  have c110 := b167.trans (b168.mono b167.size)
  have c111 := c110.trans (b169.mono c110.size)
  have r166 := r166.bel c111
  clear k167 r167 k168 r168 k169 r169
  refine lt_nat 171 [5399892129533271413, 14026688745051725501, 4439184269241227493, 7873118103684900679] 49420363311544783269066413540195179065723369104339650307466989046655885647221 rfl rfl rfl rfl ⟨by decide, by decide⟩ (by kernel_rfl) (by decide +kernel) (by kernel_rfl) fun N171 w171 r171 k171 b171 y171 => ?_
  have z171 := Nat.lt_of_lt_of_le q169 y171
  have q171 := Nat.lt_of_lt_of_le q169 b171.size
  clear y171 q169
  refine lt_nat 172 [2128832344054565539, 5188484454565121284, 11588479929783459793, 11392430636] 71511446119451342619797234764730343874518634852101106178533378230947 rfl rfl rfl rfl ⟨by decide, by decide⟩ (by kernel_rfl) (by decide +kernel) (by kernel_rfl) fun N172 w172 r172 k172 b172 y172 => ?_
  have z172 := Nat.lt_of_lt_of_le q171 y172
  have q172 := Nat.lt_of_lt_of_le q171 b172.size
  clear y172 q171
  refine lt_nat 173 [2] 2 rfl rfl rfl rfl ⟨by decide, by decide⟩ (by kernel_rfl) (by decide +kernel) (by kernel_rfl) fun N173 w173 r173 k173 b173 y173 => ?_
  have z173 := Nat.lt_of_lt_of_le q172 y173
  have q173 := Nat.lt_of_lt_of_le q172 b173.size
  clear y173 q172
  refine wpList_buildTo rfl 49 _ rfl (some 174) rfl #[.slice (some ⟨N171, 0, none⟩) 4 4, .slice (some ⟨N172, 0, none⟩) 4 4, .slice (some ⟨N173, 0, none⟩) 1 1] (by kernel_rfl) ?_
  have s174 : Stp.At _ ⟨some ⟨N171, 0, none⟩, 4, 4, some ⟨N172, 0, none⟩, 4, 4, some ⟨N173, 0, none⟩, 1, 1, 49420363311544783269066413540195179065723369104339650307466989046655885647221, 71511446119451342619797234764730343874518634852101106178533378230947, 2⟩ := ⟨(k171.below b172).below b173, k172.below b173, k173⟩
  have c112 := b171.trans (b172.mono b171.size)
  have c113 := c112.trans (b173.mono c112.size)
  have s170 := s170.below c113
  have r166 := r166.bel c113
  clear k171 r171 k172 r172 k173 r173
  refine lt_nat 175 [2128832344054565539, 5188484454565121284, 11588479929783459793, 11392430636] 71511446119451342619797234764730343874518634852101106178533378230947 rfl rfl rfl rfl ⟨by decide, by decide⟩ (by kernel_rfl) (by decide +kernel) (by kernel_rfl) fun N175 w175 r175 k175 b175 y175 => ?_
  have z175 := Nat.lt_of_lt_of_le q173 y175
  have q175 := Nat.lt_of_lt_of_le q173 b175.size
  clear y175 q173
  refine lt_nat 176 [7363949757740889991, 947980809119916] 17487159372623203498255649676474247 rfl rfl rfl rfl ⟨by decide, by decide⟩ (by kernel_rfl) (by decide +kernel) (by kernel_rfl) fun N176 w176 r176 k176 b176 y176 => ?_
  have z176 := Nat.lt_of_lt_of_le q175 y176
  have q176 := Nat.lt_of_lt_of_le q175 b176.size
  clear y176 q175
  refine lt_nat 177 [2] 2 rfl rfl rfl rfl ⟨by decide, by decide⟩ (by kernel_rfl) (by decide +kernel) (by kernel_rfl) fun N177 w177 r177 k177 b177 y177 => ?_
  have z177 := Nat.lt_of_lt_of_le q176 y177
  have q177 := Nat.lt_of_lt_of_le q176 b177.size
  clear y177 q176
  refine wpList_buildTo rfl 49 _ rfl (some 178) rfl #[.slice (some ⟨N175, 0, none⟩) 4 4, .slice (some ⟨N176, 0, none⟩) 2 2, .slice (some ⟨N177, 0, none⟩) 1 1] (by kernel_rfl) ?_
  have s178 : Stp.At _ ⟨some ⟨N175, 0, none⟩, 4, 4, some ⟨N176, 0, none⟩, 2, 2, some ⟨N177, 0, none⟩, 1, 1, 71511446119451342619797234764730343874518634852101106178533378230947, 17487159372623203498255649676474247, 2⟩ := ⟨(k175.below b176).below b177, k176.below b177, k177⟩
  have c114 := b175.trans (b176.mono b175.size)
  have c115 := c114.trans (b177.mono c114.size)
  have s170 := s170.below c115
  have s174 := s174.below c115
  have r166 := r166.bel c115
  clear k175 r175 k176 r176 k177 r177
  refine lt_nat 179 [7363949757740889991, 947980809119916] 17487159372623203498255649676474247 rfl rfl rfl rfl ⟨by decide, by decide⟩ (by kernel_rfl) (by decide +kernel) (by kernel_rfl) fun N179 w179 r179 k179 b179 y179 => ?_
  have z179 := Nat.lt_of_lt_of_le q177 y179
  have q179 := Nat.lt_of_lt_of_le q177 b179.size
  clear y179 q177
  refine lt_nat 180 [238236089707193629] 238236089707193629 rfl rfl rfl rfl ⟨by decide, by decide⟩ (by kernel_rfl) (by decide +kernel) (by kernel_rfl) fun N180 w180 r180 k180 b180 y180 => ?_
  have z180 := Nat.lt_of_lt_of_le q179 y180
  have q180 := Nat.lt_of_lt_of_le q179 b180.size
  clear y180 q179
  refine lt_nat 181 [2] 2 rfl rfl rfl rfl ⟨by decide, by decide⟩ (by kernel_rfl) (by decide +kernel) (by kernel_rfl) fun N181 w181 r181 k181 b181 y181 => ?_
  have z181 := Nat.lt_of_lt_of_le q180 y181
  have q181 := Nat.lt_of_lt_of_le q180 b181.size
  clear y181 q180
  refine wpList_buildTo rfl 49 _ rfl (some 182) rfl #[.slice (some ⟨N179, 0, none⟩) 2 2, .slice (some ⟨N180, 0, none⟩) 1 1, .slice (some ⟨N181, 0, none⟩) 1 1] (by kernel_rfl) ?_
  have s182 : Stp.At _ ⟨some ⟨N179, 0, none⟩, 2, 2, some ⟨N180, 0, none⟩, 1, 1, some ⟨N181, 0, none⟩, 1, 1, 17487159372623203498255649676474247, 238236089707193629, 2⟩ := ⟨(k179.below b180).below b181, k180.below b181, k181⟩
  have c116 := b179.trans (b180.mono b179.size)
  have c117 := c116.trans (b181.mono c116.size)
  have s170 := s170.below c117
  have s174 := s174.below c117
  have s178 := s178.below c117
  have r166 := r166.bel c117
  clear k179 r179 k180 r180 k181 r181
  refine lt_nat 183 [238236089707193629] 238236089707193629 rfl rfl rfl rfl ⟨by decide, by decide⟩ (by kernel_rfl) (by decide +kernel) (by kernel_rfl) fun N183 w183 r183 k183 b183 y183 => ?_
  have z183 := Nat.lt_of_lt_of_le q181 y183
  have q183 := Nat.lt_of_lt_of_le q181 b183.size
  clear y183 q181
  refine lt_nat 184 [902893669] 902893669 rfl rfl rfl rfl ⟨by decide, by decide⟩ (by kernel_rfl) (by decide +kernel) (by kernel_rfl) fun N184 w184 r184 k184 b184 y184 => ?_
  have z184 := Nat.lt_of_lt_of_le q183 y184
  have q184 := Nat.lt_of_lt_of_le q183 b184.size
  clear y184 q183
  refine lt_nat 185 [2] 2 rfl rfl rfl rfl ⟨by decide, by decide⟩ (by kernel_rfl) (by decide +kernel) (by kernel_rfl) fun N185 w185 r185 k185 b185 y185 => ?_
  have z185 := Nat.lt_of_lt_of_le q184 y185
  have q185 := Nat.lt_of_lt_of_le q184 b185.size
  clear y185 q184
  refine wpList_buildTo rfl 49 _ rfl (some 186) rfl #[.slice (some ⟨N183, 0, none⟩) 1 1, .slice (some ⟨N184, 0, none⟩) 1 1, .slice (some ⟨N185, 0, none⟩) 1 1] (by kernel_rfl) ?_
  have s186 : Stp.At _ ⟨some ⟨N183, 0, none⟩, 1, 1, some ⟨N184, 0, none⟩, 1, 1, some ⟨N185, 0, none⟩, 1, 1, 238236089707193629, 902893669, 2⟩ := ⟨(k183.below b184).below b185, k184.below b185, k185⟩
  have c118 := b183.trans (b184.mono b183.size)
  have c119 := c118.trans (b185.mono c118.size)
  have s170 := s170.below c119
  have s174 := s174.below c119
  have s178 := s178.below c119
  have s182 := s182.below c119
  have r166 := r166.bel c119
  clear k183 r183 k184 r184 k185 r185
  refine lt_nat 187 [902893669] 902893669 rfl rfl rfl rfl ⟨by decide, by decide⟩ (by kernel_rfl) (by decide +kernel) (by kernel_rfl) fun N187 w187 r187 k187 b187 y187 => ?_
  have z187 := Nat.lt_of_lt_of_le q185 y187
  have q187 := Nat.lt_of_lt_of_le q185 b187.size
  clear y187 q185
  refine lt_nat 188 [36901] 36901 rfl rfl rfl rfl ⟨by decide, by decide⟩ (by kernel_rfl) (by decide +kernel) (by kernel_rfl) fun N188 w188 r188 k188 b188 y188 => ?_
  have z188 := Nat.lt_of_lt_of_le q187 y188
  have q188 := Nat.lt_of_lt_of_le q187 b188.size
  clear y188 q187
  refine lt_nat 189 [2] 2 rfl rfl rfl rfl ⟨by decide, by decide⟩ (by kernel_rfl) (by decide +kernel) (by kernel_rfl) fun N189 w189 r189 k189 b189 y189 => ?_
  have z189 := Nat.lt_of_lt_of_le q188 y189
  have q189 := Nat.lt_of_lt_of_le q188 b189.size
  clear y189 q188
  refine wpList_buildTo rfl 49 _ rfl (some 190) rfl #[.slice (some ⟨N187, 0, none⟩) 1 1, .slice (some ⟨N188, 0, none⟩) 1 1, .slice (some ⟨N189, 0, none⟩) 1 1] (by kernel_rfl) ?_
  have s190 : Stp.At _ ⟨some ⟨N187, 0, none⟩, 1, 1, some ⟨N188, 0, none⟩, 1, 1, some ⟨N189, 0, none⟩, 1, 1, 902893669, 36901, 2⟩ := ⟨(k187.below b188).below b189, k188.below b189, k189⟩
  have c120 := b187.trans (b188.mono b187.size)
  have c121 := c120.trans (b189.mono c120.size)
  have s170 := s170.below c121
  have s174 := s174.below c121
  have s178 := s178.below c121
  have s182 := s182.below c121
  have s186 := s186.below c121
  have r166 := r166.bel c121
  clear k187 r187 k188 r188 k189 r189
  refine lt_chain 191 [⟨some ⟨N167, 0, none⟩, 4, 4, some ⟨N168, 0, none⟩, 4, 4, some ⟨N169, 0, none⟩, 1, 1, 98840726623089566538132827080390358131446738208679300614933978093311771294443, 49420363311544783269066413540195179065723369104339650307466989046655885647221, 2⟩, ⟨some ⟨N171, 0, none⟩, 4, 4, some ⟨N172, 0, none⟩, 4, 4, some ⟨N173, 0, none⟩, 1, 1, 49420363311544783269066413540195179065723369104339650307466989046655885647221, 71511446119451342619797234764730343874518634852101106178533378230947, 2⟩, ⟨some ⟨N175, 0, none⟩, 4, 4, some ⟨N176, 0, none⟩, 2, 2, some ⟨N177, 0, none⟩, 1, 1, 71511446119451342619797234764730343874518634852101106178533378230947, 17487159372623203498255649676474247, 2⟩, ⟨some ⟨N179, 0, none⟩, 2, 2, some ⟨N180, 0, none⟩, 1, 1, some ⟨N181, 0, none⟩, 1, 1, 17487159372623203498255649676474247, 238236089707193629, 2⟩, ⟨some ⟨N183, 0, none⟩, 1, 1, some ⟨N184, 0, none⟩, 1, 1, some ⟨N185, 0, none⟩, 1, 1, 238236089707193629, 902893669, 2⟩, ⟨some ⟨N187, 0, none⟩, 1, 1, some ⟨N188, 0, none⟩, 1, 1, some ⟨N189, 0, none⟩, 1, 1, 902893669, 36901, 2⟩] rfl rfl rfl rfl (by simp) (by kernel_rfl) (List.forall_mem_cons.2 ⟨s170, List.forall_mem_cons.2 ⟨s174, List.forall_mem_cons.2 ⟨s178, List.forall_mem_cons.2 ⟨s182, List.forall_mem_cons.2 ⟨s186, List.forall_mem_cons.2 ⟨s190, fun _ h => by cases h⟩⟩⟩⟩⟩⟩) fun N191 w191 k191 b191 y191 => ?_
  have z191 := Nat.lt_of_lt_of_le q189 y191
  have q191 := Nat.lt_of_lt_of_le q189 b191.size
  clear y191 q189
  have r166 := r166.bel b191
  clear s170 s174 s178 s182 s186 s190
  refine wpList_buildTo rfl 33 _ rfl (some 192) rfl #[.slice (some ⟨N166, 0, none⟩) 1 1, .slice (some ⟨N191, 0, none⟩) 6 6] (by kernel_rfl) ?_
  have g192 : KG 10 w.heap.size _ (some ⟨N166, 0, none⟩) 1 1 (some ⟨N191, 0, none⟩) 6 6 := ⟨⟨_, rfl, z166, rfl, rfl, r166⟩, _, k191, rfl, (fun j hj => by match j, hj with | 0, _ => exact ⟨rfl, rfl, rfl, Nat.le_of_ble_eq_true rfl, Nat.le_of_ble_eq_true rfl, Nat.le_of_ble_eq_true rfl⟩ | 1, _ => exact ⟨rfl, rfl, rfl, Nat.le_of_ble_eq_true rfl, Nat.le_of_ble_eq_true rfl, Nat.le_of_ble_eq_true rfl⟩ | 2, _ => exact ⟨rfl, rfl, rfl, Nat.le_of_ble_eq_true rfl, Nat.le_of_ble_eq_true rfl, Nat.le_of_ble_eq_true rfl⟩ | 3, _ => exact ⟨rfl, rfl, rfl, Nat.le_of_ble_eq_true rfl, Nat.le_of_ble_eq_true rfl, Nat.le_of_ble_eq_true rfl⟩ | 4, _ => exact ⟨rfl, rfl, rfl, Nat.le_of_ble_eq_true rfl, Nat.le_of_ble_eq_true rfl, Nat.le_of_ble_eq_true rfl⟩ | 5, _ => exact ⟨rfl, rfl, rfl, Nat.le_of_ble_eq_true rfl, Nat.le_of_ble_eq_true rfl, Nat.le_of_ble_eq_true rfl⟩), fr_some z191, (fun j hj => by match j, hj with | 0, _ => exact ⟨fr_some z167, fr_some z168, fr_some z169⟩ | 1, _ => exact ⟨fr_some z171, fr_some z172, fr_some z173⟩ | 2, _ => exact ⟨fr_some z175, fr_some z176, fr_some z177⟩ | 3, _ => exact ⟨fr_some z179, fr_some z180, fr_some z181⟩ | 4, _ => exact ⟨fr_some z183, fr_some z184, fr_some z185⟩ | 5, _ => exact ⟨fr_some z187, fr_some z188, fr_some z189⟩)⟩
  have c122 := b166.trans (c111.mono b166.size)
  have c123 := c122.trans (c113.mono c122.size)
  have c124 := c123.trans (c115.mono c123.size)
  have c125 := c124.trans (c117.mono c124.size)
  have c126 := c125.trans (c119.mono c125.size)
  have c127 := c126.trans (c121.mono c126.size)
  have c128 := c127.trans (b191.mono c127.size)
  have g10 := g10.below c128
  have g21 := g21.below c128
  have g32 := g32.below c128
  have g47 := g47.below c128
  have g62 := g62.below c128
  have g81 := g81.below c128
  have g100 := g100.below c128
  have g119 := g119.below c128
  have g142 := g142.below c128
  have g165 := g165.below c128
  clear r166 k166 k191
  have hat : ∀ i g, ([⟨some ⟨N4, 0, none⟩, 1, 1, some ⟨N9, 0, none⟩, 1, 1⟩, ⟨some ⟨N11, 0, none⟩, 1, 1, some ⟨N20, 0, none⟩, 2, 2⟩, ⟨some ⟨N22, 0, none⟩, 1, 1, some ⟨N31, 0, none⟩, 2, 2⟩, ⟨some ⟨N33, 0, none⟩, 1, 1, some ⟨N46, 0, none⟩, 3, 3⟩, ⟨some ⟨N48, 0, none⟩, 1, 1, some ⟨N61, 0, none⟩, 3, 3⟩, ⟨some ⟨N63, 0, none⟩, 1, 1, some ⟨N80, 0, none⟩, 4, 4⟩, ⟨some ⟨N82, 0, none⟩, 1, 1, some ⟨N99, 0, none⟩, 4, 4⟩, ⟨some ⟨N101, 0, none⟩, 1, 1, some ⟨N118, 0, none⟩, 4, 4⟩, ⟨some ⟨N120, 0, none⟩, 1, 1, some ⟨N141, 0, none⟩, 5, 5⟩, ⟨some ⟨N143, 0, none⟩, 1, 1, some ⟨N164, 0, none⟩, 5, 5⟩, ⟨some ⟨N166, 0, none⟩, 1, 1, some ⟨N191, 0, none⟩, 6, 6⟩] : List Gp)[i]? = some g → KG i w.heap.size _ g.A g.n g.c g.A' g.n' g.c' := fun i g h => match i, h with
      | 0, h => by obtain rfl := Option.some.inj h; exact g10
      | 1, h => by obtain rfl := Option.some.inj h; exact g21
      | 2, h => by obtain rfl := Option.some.inj h; exact g32
      | 3, h => by obtain rfl := Option.some.inj h; exact g47
      | 4, h => by obtain rfl := Option.some.inj h; exact g62
      | 5, h => by obtain rfl := Option.some.inj h; exact g81
      | 6, h => by obtain rfl := Option.some.inj h; exact g100
      | 7, h => by obtain rfl := Option.some.inj h; exact g119
      | 8, h => by obtain rfl := Option.some.inj h; exact g142
      | 9, h => by obtain rfl := Option.some.inj h; exact g165
      | 10, h => by obtain rfl := Option.some.inj h; exact g192
      | i + 11, h => by simp at h
  refine lt_groups 193 [⟨some ⟨N4, 0, none⟩, 1, 1, some ⟨N9, 0, none⟩, 1, 1⟩, ⟨some ⟨N11, 0, none⟩, 1, 1, some ⟨N20, 0, none⟩, 2, 2⟩, ⟨some ⟨N22, 0, none⟩, 1, 1, some ⟨N31, 0, none⟩, 2, 2⟩, ⟨some ⟨N33, 0, none⟩, 1, 1, some ⟨N46, 0, none⟩, 3, 3⟩, ⟨some ⟨N48, 0, none⟩, 1, 1, some ⟨N61, 0, none⟩, 3, 3⟩, ⟨some ⟨N63, 0, none⟩, 1, 1, some ⟨N80, 0, none⟩, 4, 4⟩, ⟨some ⟨N82, 0, none⟩, 1, 1, some ⟨N99, 0, none⟩, 4, 4⟩, ⟨some ⟨N101, 0, none⟩, 1, 1, some ⟨N118, 0, none⟩, 4, 4⟩, ⟨some ⟨N120, 0, none⟩, 1, 1, some ⟨N141, 0, none⟩, 5, 5⟩, ⟨some ⟨N143, 0, none⟩, 1, 1, some ⟨N164, 0, none⟩, 5, 5⟩, ⟨some ⟨N166, 0, none⟩, 1, 1, some ⟨N191, 0, none⟩, 6, 6⟩] rfl rfl rfl rfl (by kernel_rfl) hat fun N193 w193 k193 b193 => ?_
  have c129 := c4.trans (c11.mono c4.size)
  have c130 := c129.trans (c18.mono c129.size)
  have c131 := c130.trans (c28.mono c130.size)
  have c132 := c131.trans (c38.mono c131.size)
  have c133 := c132.trans (c51.mono c132.size)
  have c134 := c133.trans (c64.mono c133.size)
  have c135 := c134.trans (c77.mono c134.size)
  have c136 := c135.trans (c93.mono c135.size)
  have c137 := c136.trans (c109.mono c136.size)
  have c138 := c137.trans (c128.mono c137.size)
  have c139 := c138.trans (b193.mono c138.size)
  have BT := Lib.hid (below_one c139)
  have hcellw := (c139.block w.heap.size (by simp)).trans (heap_alloc_new w _)
  have KN := Lib.hid k193
  refine act_to (a' := ⟨#[.int .i64 i, undef, .pointer (some ⟨w.heap.size, 0, none⟩), undef, .slice (some ⟨N4, 0, none⟩) 1 1, .slice (some ⟨N5, 0, none⟩) 1 1, .slice (some ⟨N6, 0, none⟩) 1 1, .slice (some ⟨N7, 0, none⟩) 1 1, .agg #[.slice (some ⟨N5, 0, none⟩) 1 1, .slice (some ⟨N6, 0, none⟩) 1 1, .slice (some ⟨N7, 0, none⟩) 1 1], .slice (some ⟨N9, 0, none⟩) 1 1, .agg #[.slice (some ⟨N4, 0, none⟩) 1 1, .slice (some ⟨N9, 0, none⟩) 1 1], .slice (some ⟨N11, 0, none⟩) 1 1, .slice (some ⟨N12, 0, none⟩) 1 1, .slice (some ⟨N13, 0, none⟩) 1 1, .slice (some ⟨N14, 0, none⟩) 1 1, .agg #[.slice (some ⟨N12, 0, none⟩) 1 1, .slice (some ⟨N13, 0, none⟩) 1 1, .slice (some ⟨N14, 0, none⟩) 1 1], .slice (some ⟨N16, 0, none⟩) 1 1, .slice (some ⟨N17, 0, none⟩) 1 1, .slice (some ⟨N18, 0, none⟩) 1 1, .agg #[.slice (some ⟨N16, 0, none⟩) 1 1, .slice (some ⟨N17, 0, none⟩) 1 1, .slice (some ⟨N18, 0, none⟩) 1 1], .slice (some ⟨N20, 0, none⟩) 2 2, .agg #[.slice (some ⟨N11, 0, none⟩) 1 1, .slice (some ⟨N20, 0, none⟩) 2 2], .slice (some ⟨N22, 0, none⟩) 1 1, .slice (some ⟨N23, 0, none⟩) 1 1, .slice (some ⟨N24, 0, none⟩) 1 1, .slice (some ⟨N25, 0, none⟩) 1 1, .agg #[.slice (some ⟨N23, 0, none⟩) 1 1, .slice (some ⟨N24, 0, none⟩) 1 1, .slice (some ⟨N25, 0, none⟩) 1 1], .slice (some ⟨N27, 0, none⟩) 1 1, .slice (some ⟨N28, 0, none⟩) 1 1, .slice (some ⟨N29, 0, none⟩) 1 1, .agg #[.slice (some ⟨N27, 0, none⟩) 1 1, .slice (some ⟨N28, 0, none⟩) 1 1, .slice (some ⟨N29, 0, none⟩) 1 1], .slice (some ⟨N31, 0, none⟩) 2 2, .agg #[.slice (some ⟨N22, 0, none⟩) 1 1, .slice (some ⟨N31, 0, none⟩) 2 2], .slice (some ⟨N33, 0, none⟩) 1 1, .slice (some ⟨N34, 0, none⟩) 1 1, .slice (some ⟨N35, 0, none⟩) 1 1, .slice (some ⟨N36, 0, none⟩) 1 1, .agg #[.slice (some ⟨N34, 0, none⟩) 1 1, .slice (some ⟨N35, 0, none⟩) 1 1, .slice (some ⟨N36, 0, none⟩) 1 1], .slice (some ⟨N38, 0, none⟩) 1 1, .slice (some ⟨N39, 0, none⟩) 1 1, .slice (some ⟨N40, 0, none⟩) 1 1, .agg #[.slice (some ⟨N38, 0, none⟩) 1 1, .slice (some ⟨N39, 0, none⟩) 1 1, .slice (some ⟨N40, 0, none⟩) 1 1], .slice (some ⟨N42, 0, none⟩) 1 1, .slice (some ⟨N43, 0, none⟩) 1 1, .slice (some ⟨N44, 0, none⟩) 1 1, .agg #[.slice (some ⟨N42, 0, none⟩) 1 1, .slice (some ⟨N43, 0, none⟩) 1 1, .slice (some ⟨N44, 0, none⟩) 1 1], .slice (some ⟨N46, 0, none⟩) 3 3, .agg #[.slice (some ⟨N33, 0, none⟩) 1 1, .slice (some ⟨N46, 0, none⟩) 3 3], .slice (some ⟨N48, 0, none⟩) 1 1, .slice (some ⟨N49, 0, none⟩) 1 1, .slice (some ⟨N50, 0, none⟩) 1 1, .slice (some ⟨N51, 0, none⟩) 1 1, .agg #[.slice (some ⟨N49, 0, none⟩) 1 1, .slice (some ⟨N50, 0, none⟩) 1 1, .slice (some ⟨N51, 0, none⟩) 1 1], .slice (some ⟨N53, 0, none⟩) 1 1, .slice (some ⟨N54, 0, none⟩) 1 1, .slice (some ⟨N55, 0, none⟩) 1 1, .agg #[.slice (some ⟨N53, 0, none⟩) 1 1, .slice (some ⟨N54, 0, none⟩) 1 1, .slice (some ⟨N55, 0, none⟩) 1 1], .slice (some ⟨N57, 0, none⟩) 1 1, .slice (some ⟨N58, 0, none⟩) 1 1, .slice (some ⟨N59, 0, none⟩) 1 1, .agg #[.slice (some ⟨N57, 0, none⟩) 1 1, .slice (some ⟨N58, 0, none⟩) 1 1, .slice (some ⟨N59, 0, none⟩) 1 1], .slice (some ⟨N61, 0, none⟩) 3 3, .agg #[.slice (some ⟨N48, 0, none⟩) 1 1, .slice (some ⟨N61, 0, none⟩) 3 3], .slice (some ⟨N63, 0, none⟩) 1 1, .slice (some ⟨N64, 0, none⟩) 1 1, .slice (some ⟨N65, 0, none⟩) 1 1, .slice (some ⟨N66, 0, none⟩) 1 1, .agg #[.slice (some ⟨N64, 0, none⟩) 1 1, .slice (some ⟨N65, 0, none⟩) 1 1, .slice (some ⟨N66, 0, none⟩) 1 1], .slice (some ⟨N68, 0, none⟩) 1 1, .slice (some ⟨N69, 0, none⟩) 1 1, .slice (some ⟨N70, 0, none⟩) 1 1, .agg #[.slice (some ⟨N68, 0, none⟩) 1 1, .slice (some ⟨N69, 0, none⟩) 1 1, .slice (some ⟨N70, 0, none⟩) 1 1], .slice (some ⟨N72, 0, none⟩) 1 1, .slice (some ⟨N73, 0, none⟩) 1 1, .slice (some ⟨N74, 0, none⟩) 1 1, .agg #[.slice (some ⟨N72, 0, none⟩) 1 1, .slice (some ⟨N73, 0, none⟩) 1 1, .slice (some ⟨N74, 0, none⟩) 1 1], .slice (some ⟨N76, 0, none⟩) 1 1, .slice (some ⟨N77, 0, none⟩) 1 1, .slice (some ⟨N78, 0, none⟩) 1 1, .agg #[.slice (some ⟨N76, 0, none⟩) 1 1, .slice (some ⟨N77, 0, none⟩) 1 1, .slice (some ⟨N78, 0, none⟩) 1 1], .slice (some ⟨N80, 0, none⟩) 4 4, .agg #[.slice (some ⟨N63, 0, none⟩) 1 1, .slice (some ⟨N80, 0, none⟩) 4 4], .slice (some ⟨N82, 0, none⟩) 1 1, .slice (some ⟨N83, 0, none⟩) 2 2, .slice (some ⟨N84, 0, none⟩) 2 2, .slice (some ⟨N85, 0, none⟩) 1 1, .agg #[.slice (some ⟨N83, 0, none⟩) 2 2, .slice (some ⟨N84, 0, none⟩) 2 2, .slice (some ⟨N85, 0, none⟩) 1 1], .slice (some ⟨N87, 0, none⟩) 2 2, .slice (some ⟨N88, 0, none⟩) 1 1, .slice (some ⟨N89, 0, none⟩) 1 1, .agg #[.slice (some ⟨N87, 0, none⟩) 2 2, .slice (some ⟨N88, 0, none⟩) 1 1, .slice (some ⟨N89, 0, none⟩) 1 1], .slice (some ⟨N91, 0, none⟩) 1 1, .slice (some ⟨N92, 0, none⟩) 1 1, .slice (some ⟨N93, 0, none⟩) 1 1, .agg #[.slice (some ⟨N91, 0, none⟩) 1 1, .slice (some ⟨N92, 0, none⟩) 1 1, .slice (some ⟨N93, 0, none⟩) 1 1], .slice (some ⟨N95, 0, none⟩) 1 1, .slice (some ⟨N96, 0, none⟩) 1 1, .slice (some ⟨N97, 0, none⟩) 1 1, .agg #[.slice (some ⟨N95, 0, none⟩) 1 1, .slice (some ⟨N96, 0, none⟩) 1 1, .slice (some ⟨N97, 0, none⟩) 1 1], .slice (some ⟨N99, 0, none⟩) 4 4, .agg #[.slice (some ⟨N82, 0, none⟩) 1 1, .slice (some ⟨N99, 0, none⟩) 4 4], .slice (some ⟨N101, 0, none⟩) 1 1, .slice (some ⟨N102, 0, none⟩) 2 2, .slice (some ⟨N103, 0, none⟩) 2 2, .slice (some ⟨N104, 0, none⟩) 1 1, .agg #[.slice (some ⟨N102, 0, none⟩) 2 2, .slice (some ⟨N103, 0, none⟩) 2 2, .slice (some ⟨N104, 0, none⟩) 1 1], .slice (some ⟨N106, 0, none⟩) 2 2, .slice (some ⟨N107, 0, none⟩) 1 1, .slice (some ⟨N108, 0, none⟩) 1 1, .agg #[.slice (some ⟨N106, 0, none⟩) 2 2, .slice (some ⟨N107, 0, none⟩) 1 1, .slice (some ⟨N108, 0, none⟩) 1 1], .slice (some ⟨N110, 0, none⟩) 1 1, .slice (some ⟨N111, 0, none⟩) 1 1, .slice (some ⟨N112, 0, none⟩) 1 1, .agg #[.slice (some ⟨N110, 0, none⟩) 1 1, .slice (some ⟨N111, 0, none⟩) 1 1, .slice (some ⟨N112, 0, none⟩) 1 1], .slice (some ⟨N114, 0, none⟩) 1 1, .slice (some ⟨N115, 0, none⟩) 1 1, .slice (some ⟨N116, 0, none⟩) 1 1, .agg #[.slice (some ⟨N114, 0, none⟩) 1 1, .slice (some ⟨N115, 0, none⟩) 1 1, .slice (some ⟨N116, 0, none⟩) 1 1], .slice (some ⟨N118, 0, none⟩) 4 4, .agg #[.slice (some ⟨N101, 0, none⟩) 1 1, .slice (some ⟨N118, 0, none⟩) 4 4], .slice (some ⟨N120, 0, none⟩) 1 1, .slice (some ⟨N121, 0, none⟩) 2 2, .slice (some ⟨N122, 0, none⟩) 2 2, .slice (some ⟨N123, 0, none⟩) 1 1, .agg #[.slice (some ⟨N121, 0, none⟩) 2 2, .slice (some ⟨N122, 0, none⟩) 2 2, .slice (some ⟨N123, 0, none⟩) 1 1], .slice (some ⟨N125, 0, none⟩) 2 2, .slice (some ⟨N126, 0, none⟩) 2 2, .slice (some ⟨N127, 0, none⟩) 1 1, .agg #[.slice (some ⟨N125, 0, none⟩) 2 2, .slice (some ⟨N126, 0, none⟩) 2 2, .slice (some ⟨N127, 0, none⟩) 1 1], .slice (some ⟨N129, 0, none⟩) 2 2, .slice (some ⟨N130, 0, none⟩) 1 1, .slice (some ⟨N131, 0, none⟩) 1 1, .agg #[.slice (some ⟨N129, 0, none⟩) 2 2, .slice (some ⟨N130, 0, none⟩) 1 1, .slice (some ⟨N131, 0, none⟩) 1 1], .slice (some ⟨N133, 0, none⟩) 1 1, .slice (some ⟨N134, 0, none⟩) 1 1, .slice (some ⟨N135, 0, none⟩) 1 1, .agg #[.slice (some ⟨N133, 0, none⟩) 1 1, .slice (some ⟨N134, 0, none⟩) 1 1, .slice (some ⟨N135, 0, none⟩) 1 1], .slice (some ⟨N137, 0, none⟩) 1 1, .slice (some ⟨N138, 0, none⟩) 1 1, .slice (some ⟨N139, 0, none⟩) 1 1, .agg #[.slice (some ⟨N137, 0, none⟩) 1 1, .slice (some ⟨N138, 0, none⟩) 1 1, .slice (some ⟨N139, 0, none⟩) 1 1], .slice (some ⟨N141, 0, none⟩) 5 5, .agg #[.slice (some ⟨N120, 0, none⟩) 1 1, .slice (some ⟨N141, 0, none⟩) 5 5], .slice (some ⟨N143, 0, none⟩) 1 1, .slice (some ⟨N144, 0, none⟩) 3 3, .slice (some ⟨N145, 0, none⟩) 3 3, .slice (some ⟨N146, 0, none⟩) 1 1, .agg #[.slice (some ⟨N144, 0, none⟩) 3 3, .slice (some ⟨N145, 0, none⟩) 3 3, .slice (some ⟨N146, 0, none⟩) 1 1], .slice (some ⟨N148, 0, none⟩) 3 3, .slice (some ⟨N149, 0, none⟩) 2 2, .slice (some ⟨N150, 0, none⟩) 1 1, .agg #[.slice (some ⟨N148, 0, none⟩) 3 3, .slice (some ⟨N149, 0, none⟩) 2 2, .slice (some ⟨N150, 0, none⟩) 1 1], .slice (some ⟨N152, 0, none⟩) 2 2, .slice (some ⟨N153, 0, none⟩) 1 1, .slice (some ⟨N154, 0, none⟩) 1 1, .agg #[.slice (some ⟨N152, 0, none⟩) 2 2, .slice (some ⟨N153, 0, none⟩) 1 1, .slice (some ⟨N154, 0, none⟩) 1 1], .slice (some ⟨N156, 0, none⟩) 1 1, .slice (some ⟨N157, 0, none⟩) 1 1, .slice (some ⟨N158, 0, none⟩) 1 1, .agg #[.slice (some ⟨N156, 0, none⟩) 1 1, .slice (some ⟨N157, 0, none⟩) 1 1, .slice (some ⟨N158, 0, none⟩) 1 1], .slice (some ⟨N160, 0, none⟩) 1 1, .slice (some ⟨N161, 0, none⟩) 1 1, .slice (some ⟨N162, 0, none⟩) 1 1, .agg #[.slice (some ⟨N160, 0, none⟩) 1 1, .slice (some ⟨N161, 0, none⟩) 1 1, .slice (some ⟨N162, 0, none⟩) 1 1], .slice (some ⟨N164, 0, none⟩) 5 5, .agg #[.slice (some ⟨N143, 0, none⟩) 1 1, .slice (some ⟨N164, 0, none⟩) 5 5], .slice (some ⟨N166, 0, none⟩) 1 1, .slice (some ⟨N167, 0, none⟩) 4 4, .slice (some ⟨N168, 0, none⟩) 4 4, .slice (some ⟨N169, 0, none⟩) 1 1, .agg #[.slice (some ⟨N167, 0, none⟩) 4 4, .slice (some ⟨N168, 0, none⟩) 4 4, .slice (some ⟨N169, 0, none⟩) 1 1], .slice (some ⟨N171, 0, none⟩) 4 4, .slice (some ⟨N172, 0, none⟩) 4 4, .slice (some ⟨N173, 0, none⟩) 1 1, .agg #[.slice (some ⟨N171, 0, none⟩) 4 4, .slice (some ⟨N172, 0, none⟩) 4 4, .slice (some ⟨N173, 0, none⟩) 1 1], .slice (some ⟨N175, 0, none⟩) 4 4, .slice (some ⟨N176, 0, none⟩) 2 2, .slice (some ⟨N177, 0, none⟩) 1 1, .agg #[.slice (some ⟨N175, 0, none⟩) 4 4, .slice (some ⟨N176, 0, none⟩) 2 2, .slice (some ⟨N177, 0, none⟩) 1 1], .slice (some ⟨N179, 0, none⟩) 2 2, .slice (some ⟨N180, 0, none⟩) 1 1, .slice (some ⟨N181, 0, none⟩) 1 1, .agg #[.slice (some ⟨N179, 0, none⟩) 2 2, .slice (some ⟨N180, 0, none⟩) 1 1, .slice (some ⟨N181, 0, none⟩) 1 1], .slice (some ⟨N183, 0, none⟩) 1 1, .slice (some ⟨N184, 0, none⟩) 1 1, .slice (some ⟨N185, 0, none⟩) 1 1, .agg #[.slice (some ⟨N183, 0, none⟩) 1 1, .slice (some ⟨N184, 0, none⟩) 1 1, .slice (some ⟨N185, 0, none⟩) 1 1], .slice (some ⟨N187, 0, none⟩) 1 1, .slice (some ⟨N188, 0, none⟩) 1 1, .slice (some ⟨N189, 0, none⟩) 1 1, .agg #[.slice (some ⟨N187, 0, none⟩) 1 1, .slice (some ⟨N188, 0, none⟩) 1 1, .slice (some ⟨N189, 0, none⟩) 1 1], .slice (some ⟨N191, 0, none⟩) 6 6, .agg #[.slice (some ⟨N166, 0, none⟩) 1 1, .slice (some ⟨N191, 0, none⟩) 6 6], .slice (some ⟨N193, 0, none⟩) 11 11, undef, undef, undef, undef, undef, undef, undef, undef, undef, undef, undef, undef], []⟩) (by kernel_rfl) ?_
  clear b4 b5 b6 b7 b11 b12 b13 b14 b16 b17 b18 b22 b23 b24 b25 b27 b28 b29 b33 b34 b35 b36 b38 b39 b40 b42 b43 b44 b48 b49 b50 b51 b53 b54 b55 b57 b58 b59 b63 b64 b65 b66 b68 b69 b70 b72 b73 b74 b76 b77 b78 b82 b83 b84 b85 b87 b88 b89 b91 b92 b93 b95 b96 b97 b101 b102 b103 b104 b106 b107 b108 b110 b111 b112 b114 b115 b116 b120 b121 b122 b123 b125 b126 b127 b129 b130 b131 b133 b134 b135 b137 b138 b139 b143 b144 b145 b146 b148 b149 b150 b152 b153 b154 b156 b157 b158 b160 b161 b162 b166 b167 b168 b169 b171 b172 b173 b175 b176 b177 b179 b180 b181 b183 b184 b185 b187 b188 b189 b9 b20 b31 b46 b61 b80 b99 b118 b141 b164 b191 b193 c1 c2 c3 c4 c5 c6 c7 c8 c9 c10 c11 c12 c13 c14 c15 c16 c17 c18 c19 c20 c21 c22 c23 c24 c25 c26 c27 c28 c29 c30 c31 c32 c33 c34 c35 c36 c37 c38 c39 c40 c41 c42 c43 c44 c45 c46 c47 c48 c49 c50 c51 c52 c53 c54 c55 c56 c57 c58 c59 c60 c61 c62 c63 c64 c65 c66 c67 c68 c69 c70 c71 c72 c73 c74 c75 c76 c77 c78 c79 c80 c81 c82 c83 c84 c85 c86 c87 c88 c89 c90 c91 c92 c93 c94 c95 c96 c97 c98 c99 c100 c101 c102 c103 c104 c105 c106 c107 c108 c109 c110 c111 c112 c113 c114 c115 c116 c117 c118 c119 c120 c121 c122 c123 c124 c125 c126 c127 c128 c129 c130 c131 c132 c133 c134 c135 c136 c137 c138 c139 k193 hat g10 g21 g32 g47 g62 g81 g100 g119 g142 g165 g192 z4 z5 z6 z7 z11 z12 z13 z14 z16 z17 z18 z22 z23 z24 z25 z27 z28 z29 z33 z34 z35 z36 z38 z39 z40 z42 z43 z44 z48 z49 z50 z51 z53 z54 z55 z57 z58 z59 z63 z64 z65 z66 z68 z69 z70 z72 z73 z74 z76 z77 z78 z82 z83 z84 z85 z87 z88 z89 z91 z92 z93 z95 z96 z97 z101 z102 z103 z104 z106 z107 z108 z110 z111 z112 z114 z115 z116 z120 z121 z122 z123 z125 z126 z127 z129 z130 z131 z133 z134 z135 z137 z138 z139 z143 z144 z145 z146 z148 z149 z150 z152 z153 z154 z156 z157 z158 z160 z161 z162 z166 z167 z168 z169 z171 z172 z173 z175 z176 z177 z179 z180 z181 z183 z184 z185 z187 z188 z189 z9 z20 z31 z46 z61 z80 z99 z118 z141 z164 z191 q191
  have c0w : World.cell? _ _ = some (Value.slice none 0 0) := cell_of_row _ _ 0 _ _ _ hcellw
  have c1w : World.cell? _ _ = some (Value.slice none 0 0) := cell_of_row _ _ 1 _ _ _ hcellw
  have f0w := frozen_of_row _ _ 0 _ _ hcellw
  have f1w := frozen_of_row _ _ 1 _ _ hcellw
  clear hcellw
  rcases Int.lt_or_le i 0 with hneg | hpos
  · obtain ⟨m, hm⟩ : ∃ m : Nat, i + 1 = -(m : Int) := ⟨(-(i + 1)).toNat, by omega⟩
    have t0 : decide (i < 0) = true := by simp; omega
    have HK := Lib.hid (kix_neg hneg hm)
    obtain ⟨A, n, c, A', n', c', h0, h1, kg⟩ := KN.out.2 (m % 11) (Nat.mod_lt _ (by decide))
    have hlt : m % 11 < 11 := Nat.mod_lt _ (by decide)
    clear hneg
    go_wp2
    refine bodyPost_ret (v := .agg #[.slice A n c, .slice A' n' c']) (by simp [results, Tryd.results6, go_sem, (set2 (.slice A n c) (.slice A' n' c') c0w c1w).1, (set2 (.slice A n c) (.slice A' n' c') c0w c1w).2]) rfl ⟨A, n, c, A', n', c', rfl, by rw [HK.out]; exact (kg.off _ _).off _ _, (BT.out.setCell (Nat.le_refl _) _).setCell (Nat.le_refl _) _⟩
  · obtain ⟨m, rfl⟩ : ∃ m : Nat, i = (m : Int) := ⟨i.toNat, by omega⟩
    have t0 : decide ((m : Int) < 0) = false := by simp
    have HK := Lib.hid (kix_pos m)
    obtain ⟨A, n, c, A', n', c', h0, h1, kg⟩ := KN.out.2 (m % 11) (Nat.mod_lt _ (by decide))
    have hlt : m % 11 < 11 := Nat.mod_lt _ (by decide)
    clear hpos
    go_wp2
    refine bodyPost_ret (v := .agg #[.slice A n c, .slice A' n' c']) (by simp [results, Tryd.results6, go_sem, (set2 (.slice A n c) (.slice A' n' c') c0w c1w).1, (set2 (.slice A n c) (.slice A' n' c') c0w c1w).2]) rfl ⟨A, n, c, A', n', c', rfl, by rw [HK.out]; exact (kg.off _ _).off _ _, (BT.out.setCell (Nat.le_refl _) _).setCell (Nat.le_refl _) _⟩
end Go.Proofs.YtjalncdllegfoaaDoor
/-
  group.New of a known group.
-/
namespace Go.Proofs.YtjalncdllegfoaaDoor
open Go.RowKit
set_option linter.unusedVariables false
theorem bd_move {P Q A P' Q' A' : Nat → Int} {n i : Nat} (hi : i < n) (h : ∀ j, j < n → P j = P' j ∧ Q j = Q' j ∧ A j = A' j) (h0 : bd P' Q' A' n i = 0) : bd P Q A n i = 0 := by
  obtain ⟨h1, h2, h3⟩ := bd_zero h0
  obtain ⟨a, b, c⟩ := h i hi
  by_cases hn : i + 1 < n
  · exact bd_next (by rw [a, b, c]; exact h1) hn (by rw [b, (h (i + 1) hn).1]; exact h2 hn)
  · exact bd_last (by rw [a, b, c]; exact h1) hn (by rw [b]; exact h3 hn)
def kP (k : Nat) : Int := stepP (knS.getD k []) 0
def kQ (k : Nat) : Int := stepQ (knS.getD k []) 0
theorem big_all : (List.range 11).all (fun k => decide (256 ≤ stepQ (knS.getD k []) 0) && decide (stepP (knS.getD k []) 0 < 2 ^ 256)) = true := by decide +kernel
theorem kq_big {k : Nat} (hk : k < 11) : 9 ≤ nb (kQ k) ∧ kP k < 2 ^ 256 := by
  have := List.all_eq_true.1 big_all k (List.mem_range.2 hk)
  simp only [Bool.and_eq_true, decide_eq_true_eq] at this
  have h1 : 256 ≤ kQ k := this.1
  refine ⟨?_, this.2⟩
  have := nb_iff (N := kQ k) (by omega) 8
  rcases Nat.lt_or_ge (nb (kQ k)) 9 with g | g
  · have := this.1 (by omega)
    have e : (2 : Int) ^ 8 = 256 := by decide
    omega
  · exact g
theorem k_safe {k : Nat} (hk : k < 11) : Safe (kP k) (kQ k) ∧ El (kP k) (kQ k) 4 ∧ 1 ≤ (knS.getD k []).length ∧ (knS.getD k []).length ≤ 64 := by
  obtain ⟨P, Q, h1, h2, h3, h4, h5, h6, h7, h8, h9, -, h10, h11⟩ := known_rest k hk
  have e1 : kP k = P := h1
  have e2 : kQ k = Q := h2
  rw [e1, e2]
  exact ⟨⟨h3, by omega, h4, h9⟩, ⟨by decide, h6, h7⟩, h10, h11⟩
theorem kg_new {k m : Nat} {w : World} {A : Option Addr} {n c : Nat} {A' : Option Addr} {n' c' : Nat} (hk : k < 11) (h : KG k m w A n c A' n' c') :
    Calls Tryd.prog 5 #[.agg #[.slice A n c, .slice A' n' c']] w (NewP4 (kP k) (kQ k) 4 w) := by
  obtain ⟨⟨g, rfl, -, rfl, rfl, hr⟩, S, hch, hn, hS, -, -⟩ := h
  obtain ⟨sf, el, l1, l64⟩ := k_safe hk
  obtain ⟨bc, off, rfl, -, -⟩ := hch.ex (by omega)
  have e0 := hS 0 (by omega)
  have eP : (S 0).P = kP k := e0.1
  have eQ : (S 0).Q = kQ k := e0.2.1
  have good : ∀ i, i < n' → bdS S n' i = 0 := fun i hi => by
    have h1 := known_all k hk i (by omega)
    rw [← hn] at h1
    exact bd_move hi (fun j hj => ⟨(hS j hj).1, (hS j hj).2.1, (hS j hj).2.2.1⟩) h1
  have := gnew_any (S := S) (G := 4) (Nm.one hr (by decide) (by decide) (Nat.le_refl _) (by omega)) hch (by omega) (by omega) good (by rw [eP, eQ]; exact sf) (by rw [eP, eQ]; exact el) (by decide) (by rw [eQ]; exact (kq_big hk).1)
  rw [eP, eQ] at this
  exact this
end Go.Proofs.YtjalncdllegfoaaDoor
