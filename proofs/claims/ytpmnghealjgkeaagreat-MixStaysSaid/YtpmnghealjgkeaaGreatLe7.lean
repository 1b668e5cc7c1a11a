/-
  letter: the loop that makes a letter, pair by pair, over any function of one index.
-/
import Derived.Test.YtpmnghealjgkeaaGreatSp7
namespace Go.Proofs.YtpmnghealjgkeaaGreat
open Go.RowKit
set_option linter.unusedVariables false
theorem infoPair : (Tryz.prog.info? 61).map (fun i => (i.zero, i.size, i.bytes)) = some (some (.agg #[.slice none 0 0, .slice none 0 0, .slice none 0 0]), 3, 72) := by kernel_rfl
theorem run_makeP (n : Nat) {C : Int} (hC : C = n) (hn : n ≤ 1000000) (w : World) : (Instr.makeSlice 25 (.int .i64 C) (.int .i64 C)).run Tryz.prog w =
    .ok (.slice (some ⟨w.heap.size, 0, none⟩) n n) (w.alloc (.cells (madeCells #[.slice none 0 0, .slice none 0 0, .slice none 0 0] (n * 3)) 61)) := by
  subst hC
  obtain ⟨i0, hi, hz0, hz1, hz2⟩ := info_parts infoPair
  have hr := run_make (P := Tryz.prog) w 25 61 i0 (.agg #[.slice none 0 0, .slice none 0 0, .slice none 0 0]) Tryz.underlying25 hi hz0 .i64 .i64 n n (by omega) (by omega) (by rw [hz2]; omega) (by omega)
  rw [hz1] at hr
  simpa [Value.cells] using hr
/-- The loop that makes a letter. -/
def LtlR (r b n : Nat) (T : Nat → Trp) (good : Nat → Prop) (w : World) (i : Value) (wr : World) : Prop :=
  ∃ (j : Nat) (q : Bool) (cur : Array Value) (S : Nat → Stp), j ≤ n ∧ i = .int .i64 j ∧ wr.heap[w.heap.size]? = some (.cells cur 61 (0, 0)) ∧ cur.size = n * 3 ∧ (q = true ↔ ∃ p, p < j ∧ ¬ good p) ∧
    (q = false → ∀ p, p < j → (cur[p * 3]? = some (.slice (S p).A1 (S p).n1 (S p).c1) ∧ cur[p * 3 + 1]? = some (.slice (S p).A2 (S p).n2 (S p).c2) ∧ cur[p * 3 + 2]? = some (.slice (S p).A3 (S p).n3 (S p).c3)) ∧ PrO wr (w.heap.size + 1) (S p) (T p)) ∧
    Sq wr r b q ∧ Bo r w wr
/-- What letter answers. -/
def LettP (r n : Nat) (T : Nat → Trp) (good : Nat → Prop) (w : World) (e : Ending) (w' : World) : Prop :=
  ((∀ p, p < n → good p) ∧ ∃ c S, e = .returned (.tuple #[.slice (some ⟨w.heap.size, 0, none⟩) n c, .nilIface]) ∧ Lo w' w.heap.size (some ⟨w.heap.size, 0, none⟩) n c S ∧ (∀ i, i < n → Trp.of (S i) = T i) ∧ Bo r w w') ∨
  ((∃ p, p < n ∧ ¬ good p) ∧ e = .returned (.tuple #[.slice none 0 0, .iface 80 (.int .i64 8)]) ∧ Bo r w w')
theorem mid_row {w : World} {g o : Nat} {cur : Array Value} {t : TypeId} {x y z : Value} (hg : w.heap[g]? = some (.cells cur t (0, 0))) :
    (((w.setCell ⟨g, o, none⟩ x).setCell ⟨g, o + 1, none⟩ y).setCell ⟨g, o + 2, none⟩ z).heap[g]? = some (.cells (((cur.setIfInBounds o x).setIfInBounds (o + 1) y).setIfInBounds (o + 2) z) t (0, 0)) := by
  have h1 := heap_setCell_same w g o _ _ x hg
  have h2 := heap_setCell_same _ g (o + 1) _ _ y h1
  exact heap_setCell_same _ g (o + 2) _ _ z h2
theorem mid_bo (w : World) (g o : Nat) (x y z : Value) : Bo g w (((w.setCell ⟨g, o, none⟩ x).setCell ⟨g, o + 1, none⟩ y).setCell ⟨g, o + 2, none⟩ z) := ((Bo.set g o w x).trans (Bo.set g _ _ y)).trans (Bo.set g _ _ z)
theorem cell_in {w : World} {g o : Nat} {cur : Array Value} {t : TypeId} (hg : w.heap[g]? = some (.cells cur t (0, 0))) (ho : o < cur.size) : ∃ v, w.cell? ⟨g, o, none⟩ = some v := ⟨cur[o], by rw [cell_of_row w g _ cur t _ hg, Array.getElem?_eq_getElem ho]⟩
theorem Bo.of_bo {r g : Nat} {w w1 w2 : World} (h : Bo r w w1) (k : Bo g w1 w2) (hg : w.heap.size ≤ g) : Bo r w w2 :=
  ⟨k.os.trans h.os, k.tape.trans h.tape, k.output.trans h.output, Nat.le_trans h.size k.size, fun i hi hb => (k.block i (Nat.lt_of_lt_of_le hi h.size) (by omega)).trans (h.block i hi hb)⟩
theorem PrO.bo2 {g : Nat} {w w' : World} {base : Nat} {s : Stp} {T : Trp} (h : PrO w base s T) (hb : Bo g w w') (hr : g < base) : PrO w' base s T := h.bo hb hr
theorem Sq.bo {w w' : World} {r b g : Nat} {q : Bool} (h : Sq w r b q) (hb : Bo g w w') (hr : r ≠ g) : Sq w' r b q := ⟨Nat.lt_of_lt_of_le h.lt hb.size, (hb.block r h.lt hr).trans h.row⟩
section
variable {w : World} {b r : Nat}
set_option maxHeartbeats 4000000 in
set_option maxRecDepth 100000 in
theorem letter_any (h : Sq w r b false) {n : Nat} (hn : n ≤ 1000) {k : Nat} {caps : Array Value} (T : Nat → Trp) (good : Nat → Prop) (hent : ∀ (xs : Array Value) (W : World), (callFunc k xs).run Tryz.prog W = .ok (.enter k xs) W)
    (hF : ∀ i, i < n → ∀ q q' wr, Bo r w wr → Sq wr r b q → (q' = true ↔ q = true ∨ ¬ good i) → Calls Tryz.prog k (#[.int .i64 (i : Int)] ++ caps) wr (PairP r b q' (T i) wr)) :
    Calls Tryz.prog 44 #[.pointer (some ⟨r, 0, none⟩), .int .i64 (n : Int), .func (.func k) #[] caps] w (LettP r n T good w) := by
  have hmk := fun W => run_makeP n (C := (n : Int)) rfl (by omega) W
  obtain ⟨Z, hZ⟩ : ∃ Z : Array Value, Z = madeCells #[.slice none 0 0, .slice none 0 0, .slice none 0 0] (n * 3) := ⟨_, rfl⟩
  rw [← hZ] at hmk
  have HZ := Lib.hid (show Z.size = n * 3 by rw [hZ]; exact size_madeCells _ _)
  have HS := Lib.hid h
  have HF := Lib.hid hF
  have hlt := h.lt
  have e0 := sq_ne0
  have e1 := sq_ne1
  clear h hF hZ
  go_enter Tryz.func44, Tryz.ntmps44
  go_wp2_with fail
  clear hmk
  go_loopw [13] (fun i wr => LtlR r b n T good w i wr) (fun i _ => n - (intOf i).toNat)
  case atStart => exact ⟨0, false, Z, fun _ => ⟨none, 0, 0, none, 0, 0, none, 0, 0, 0, 0, 0⟩, Nat.zero_le _, rfl, heap_alloc_new w _, HZ.out, ⟨fun g => (by cases g), fun ⟨p, hp, _⟩ => absurd hp (Nat.not_lt_zero p)⟩, fun _ p hp => absurd hp (Nat.not_lt_zero p), HS.out.below ((Below.refl _ _).alloc (Nat.le_refl _) _), Bo.of r ((Below.refl _ _).alloc (Nat.le_refl _) _)⟩
  case round =>
    obtain ⟨j, q, cur, S, hj, rfl, hrow, hcs, hq, hcl, hsq, hbo⟩ := hrel
    have HR := Lib.hid hrow
    have HCS := Lib.hid hcs
    have HCL := Lib.hid hcl
    have HQ := Lib.hid hq
    have HSQ := Lib.hid hsq
    have HBO := Lib.hid hbo
    clear hrow hcs hcl hq hsq hbo HS HZ
    rcases Nat.lt_or_ge j n with hlt2 | hge
    · obtain ⟨q', hq'⟩ := ex_bool (q = true ∨ ¬ good j)
      have hjn : ((j : Nat) : Int) < (n : Int) := by omega
      go_wp2_with fail
      refine (HF.out j hlt2 q q' wr HBO.out HSQ.out hq').mono ?_
      rintro e w4 ⟨s, rfl, hs4, hsq4, hb4⟩
      have R4 := Lib.hid (show w4.heap[w.heap.size]? = some (.cells cur 61 (0, 0)) from (hb4.block _ (by have := (Array.getElem?_eq_some_iff.1 HR.out).1; omega) (by omega)).trans HR.out)
      have HS4 := Lib.hid hs4
      have SQ4 := Lib.hid hsq4
      have HB4 := Lib.hid hb4
      have sz0 := (Array.getElem?_eq_some_iff.1 HR.out).1
      obtain ⟨v0, x0⟩ := cell_in R4.out (o := j * 3) (by have := HCS.out; omega)
      obtain ⟨v1, x1⟩ := cell_in R4.out (o := j * 3 + 1) (by have := HCS.out; omega)
      obtain ⟨v2, x2⟩ := cell_in R4.out (o := j * 3 + 2) (by have := HCS.out; omega)
      have f0 := frozen_of_row w4 w.heap.size (j * 3) _ _ R4.out
      have f1 := frozen_of_row w4 w.heap.size (j * 3 + 1) _ _ R4.out
      have f2 := frozen_of_row w4 w.heap.size (j * 3 + 2) _ _ R4.out
      have B5 := Lib.hid (mid_bo w4 w.heap.size (j * 3) (.slice s.A1 s.n1 s.c1) (.slice s.A2 s.n2 s.c2) (.slice s.A3 s.n3 s.c3))
      have R5 := Lib.hid (mid_row (o := j * 3) (x := .slice s.A1 s.n1 s.c1) (y := .slice s.A2 s.n2 s.c2) (z := .slice s.A3 s.n3 s.c3) R4.out)
      clear hs4 hsq4 hb4 e0 e1 HF
      go_wp2_with fail
      have hcs := HCS.out
      go_roundw
      case rel =>
        refine ⟨j + 1, q', _, fun p => if p = j then s else S p, by omega, by go_num, R5.out, by simpa using hcs, ?_, fun g p hp => ?_, SQ4.out.bo B5.out (by omega), (HBO.out.trans HB4.out).of_bo B5.out (Nat.le_refl _)⟩
        · rw [hq', HQ.out]
          constructor
          · rintro (⟨p, h1, h2⟩ | g)
            · exact ⟨p, by omega, h2⟩
            · exact ⟨j, by omega, g⟩
          · rintro ⟨p, h1, h2⟩
            rcases Nat.lt_or_ge p j with g | g
            · exact .inl ⟨p, g, h2⟩
            · obtain rfl : p = j := by omega
              exact .inr h2
        · have gq : q = false := by
            cases q with
            | false => rfl
            | true => rw [hq'.2 (.inl rfl)] at g; cases g
          rcases Nat.lt_or_ge p j with g1 | g1
          · obtain ⟨⟨c0, c1, c2⟩, pr⟩ := HCL.out gq p g1
            simp only [if_neg (show ¬ p = j by omega)]
            refine ⟨⟨?_, ?_, ?_⟩, (pr.bo HB4.out (by omega)).bo2 B5.out (by omega)⟩
            · rw [Array.getElem?_setIfInBounds_ne (by omega), Array.getElem?_setIfInBounds_ne (by omega), Array.getElem?_setIfInBounds_ne (by omega)]; exact c0
            · rw [Array.getElem?_setIfInBounds_ne (by omega), Array.getElem?_setIfInBounds_ne (by omega), Array.getElem?_setIfInBounds_ne (by omega)]; exact c1
            · rw [Array.getElem?_setIfInBounds_ne (by omega), Array.getElem?_setIfInBounds_ne (by omega), Array.getElem?_setIfInBounds_ne (by omega)]; exact c2
          · obtain rfl : p = j := by omega
            simp only [if_true]
            have pr := HS4.out g
            refine ⟨⟨?_, ?_, ?_⟩, PrO.bo2 ⟨pr.p, pr.q, pr.a, pr.tr, fun a ha => by have := pr.n1 a ha; omega, fun a ha => by have := pr.n2 a ha; omega, fun a ha => by have := pr.n3 a ha; omega⟩ B5.out (by omega)⟩
            · rw [Array.getElem?_setIfInBounds_ne (by omega), Array.getElem?_setIfInBounds_ne (by omega), Array.getElem?_setIfInBounds_self_of_lt (by omega)]
            · rw [Array.getElem?_setIfInBounds_ne (by omega), Array.getElem?_setIfInBounds_self_of_lt (by simp; omega)]
            · rw [Array.getElem?_setIfInBounds_self_of_lt (by simp; omega)]
      case measure => simp [intOf]; omega
    · obtain rfl : n = j := by omega
      clear HF
      cases q with
      | true =>
        have x1 : wr.cell? ⟨r, 1, none⟩ = some (.iface 80 (.int .i64 8)) := HSQ.out.c1
        go_wp2_with fail
        go_region
        all_goals (try go_wp2)
        all_goals go_ret2
        all_goals exact .inr ⟨HQ.out.1 (by trivial), rfl, HBO.out.drew⟩
      | false =>
        have x1 : wr.cell? ⟨r, 1, none⟩ = some .nilIface := HSQ.out.c1
        have hgood : ∀ p, p < n → good p := fun p hp => Classical.byContradiction fun g => by have := HQ.out.2 ⟨p, hp, g⟩; cases this
        have HGG := Lib.hid hgood
        clear hgood
        go_wp2_with fail
        go_ret2
        refine .inl ⟨HGG.out, n, S, rfl, ⟨⟨Nat.le_refl _, by omega, fun hn0 => ⟨w.heap.size, 0, rfl, (Array.getElem?_eq_some_iff.1 HR.out).1, fun i hi => ?_⟩, fun i hi => ?_⟩, fun i hi => ?_, fun a ha => by injection ha with ha; subst ha; exact Nat.le_refl _, fun i hi => ?_⟩, fun i hi => (HCL.out (by trivial) i hi).2.tr, HBO.out⟩
        · obtain ⟨c0, c1, c2⟩ := (HCL.out (by trivial) i hi).1
          rw [Nat.zero_add]
          exact ⟨(cell_of_row wr _ _ _ _ _ HR.out).trans c0, (cell_of_row wr _ _ _ _ _ HR.out).trans c1, (cell_of_row wr _ _ _ _ _ HR.out).trans c2⟩
        · have pr := (HCL.out (by trivial) i hi).2
          exact ⟨pr.p.nm, pr.q.nm, pr.a.nm⟩
        · have pr := (HCL.out (by trivial) i hi).2
          exact ⟨pr.p.len_, pr.q.len_, pr.a.len_⟩
        · have pr := (HCL.out (by trivial) i hi).2
          exact ⟨fun a ha => by have := pr.n1 a ha; omega, fun a ha => by have := pr.n2 a ha; omega, fun a ha => by have := pr.n3 a ha; omega⟩
end
end Go.Proofs.YtpmnghealjgkeaaGreat
