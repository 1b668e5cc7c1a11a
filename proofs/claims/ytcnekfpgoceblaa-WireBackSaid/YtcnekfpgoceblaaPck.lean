/-
  Several texts in one: Ott, Otc, Otn, Catw, Opk.
-/
import Derived.Test.YtcnekfpgoceblaaMxx
import Derived.Test.YtcnekfpgoceblaaHsa
import Derived.Test.YtcnekfpgoceblaaPkf
import Derived.Test.YtcnekfpgoceblaaRef
import Derived.BigQuiet
import Derived.Deep.QuietTactic
import Derived.Deep.DeepAppendWide
import Derived.Test.YtcnekfpgoceblaaPcj
import Derived.Deep.RegionLaw
/-
  The document's way of writing, in memory: what Out's calls answer.
-/
namespace Go.Proofs.Ytcnekfpgoceblaa
open Go.RowKit
set_option linter.unusedVariables false
/-- What has been written, in block o. -/
structure Ot (w : World) (o : Nat) (v : Value) (s : OuS) : Prop where
  row : w.heap[o]? = some (.cells #[v, .int .i64 s.bad] 69 (0, 0))
  own : Own8 w (o + 1) v s.b
def OtP (o : Nat) (s : OuS) (w : World) (e : Ending) (w' : World) : Prop := e = .returned (.tuple #[]) ∧ (∃ v, Ot w' o v s) ∧ Below o w w'
section
variable {w w' : World} {o : Nat} {v : Value} {s : OuS}
theorem Ot.lt (h : Ot w o v s) : o < w.heap.size := (Array.getElem?_eq_some_iff.1 h.row).1
theorem Ot.c0 (h : Ot w o v s) : w.cell? ⟨o, 0, none⟩ = some v := cell_of_row w o 0 _ _ _ h.row
theorem Ot.c1 (h : Ot w o v s) : w.cell? ⟨o, 1, none⟩ = some (.int .i64 s.bad) := cell_of_row w o 1 _ _ _ h.row
theorem Ot.fz (h : Ot w o v s) (i : Nat) : w.frozen? ⟨o, i, none⟩ = false := frozen_of_row w o i _ _ h.row
theorem Ot.below (h : Ot w o v s) (hb : Below w.heap.size w w') : Ot w' o v s := ⟨(hb.block o h.lt).trans h.row, h.own.below hb⟩
theorem Ot.setBad (h : Ot w o v s) (k : Int) : Ot (w.setCell ⟨o, 1, none⟩ (.int .i64 k)) o v ⟨s.b, k⟩ :=
  ⟨heap_setCell_same w o 1 _ _ _ h.row, ownsRow_setCell_below h.own (Nat.lt_succ_self o) _⟩
/-- One byte more: what is there behind the append, and behind the store. -/
theorem Ot.app {w2 : World} {v' : Value} {l : List Int} {m : Nat} {ob : Obj} (h : Ot w o v s) (hm : s.b.length + l.length = m) (h2 : w2.ownsRow (o + 1) 5 1 v' m ((s.b ++ l).map (Value.int .u8))) (hg : (w.alloc ob).grownBy w2 v.ownBlock) :
    w2.cell? ⟨o, 0, none⟩ = some v ∧ w2.frozen? ⟨o, 0, none⟩ = false ∧ w2.heap[o]? = some (.cells #[v, .int .i64 s.bad] 69 (0, 0)) ∧ Below o w (w2.setCell ⟨o, 0, none⟩ v') ∧ Ot (w2.setCell ⟨o, 0, none⟩ v') o v' (s.put l) := by
  have hlt := h.lt
  have hne : some o ≠ v.ownBlock := fun e => by
    have := (h.own.lt o e.symm).1
    omega
  have hr : w2.heap[o]? = some (.cells #[v, .int .i64 s.bad] 69 (0, 0)) := by
    rw [hg.block o (by simp; omega) hne, Below.heap_alloc w ob o hlt]
    exact h.row
  refine ⟨cell_of_row w2 o 0 _ _ _ hr, frozen_of_row w2 o 0 _ _ hr, hr, ?_, heap_setCell_same w2 o 0 _ _ _ hr, ?_⟩
  · refine Below.setCell ?_ (Nat.le_refl o) _
    exact own_below (base := o + 1) ((Below.refl _ _).alloc (Nat.le_of_lt hlt) _) (h.own.alloc ob) hg (by simp; omega) (Nat.le_succ o)
  · show World.ownsRow _ (o + 1) 5 1 v' (s.b ++ l).length _
    rw [List.length_append, hm]
    exact ownsRow_setCell_below h2 (Nat.lt_succ_self o) _
end
theorem ot_set (w : World) (o i : Nat) (u : Value) : Below o w (w.setCell ⟨o, i, none⟩ u) := Below.setCell (Below.refl o w) (Nat.le_refl o) u
/-! ### fail -/
theorem ofail_any {w : World} {o : Nat} {v : Value} {s : OuS} (h : Ot w o v s) (k : Int) : Calls Try.prog 30 #[.pointer (some ⟨o, 0, none⟩), .int .i64 k] w (OtP o (s.fail k) w) := by
  have HO := Lib.hid h
  have c1 := h.c1
  have fz := h.fz 1
  clear h
  obtain ⟨sb, bad⟩ := s
  by_cases h0 : bad = 0
  · have e0 : ((bad : Int) == 0) = true := by simpa using h0
    have E := Lib.hid (show OuS.fail ⟨sb, bad⟩ k = ⟨sb, k⟩ by unfold OuS.fail; rw [if_pos (.inl h0)])
    have H0 := Lib.hid h0
    clear h0
    go_enter Try.func30, Try.ntmps30
    go_wp2_with fail
    refine bodyPost_ret (results_none rfl _ _ _) rfl ?_
    exact ⟨rfl, ⟨v, by rw [E.out]; exact HO.out.setBad k⟩, ot_set w o 1 _⟩
  · have e0 : ((bad : Int) == 0) = false := by simpa using h0
    by_cases h1 : k = 1
    · subst h1
      have E := Lib.hid (show OuS.fail ⟨sb, bad⟩ 1 = ⟨sb, 1⟩ by unfold OuS.fail; rw [if_pos (.inr rfl)])
      clear h0
      go_enter Try.func30, Try.ntmps30
      go_wp2_with fail
      refine bodyPost_ret (results_none rfl _ _ _) rfl ?_
      exact ⟨rfl, ⟨v, by rw [E.out]; exact HO.out.setBad 1⟩, ot_set w o 1 _⟩
    · have e1 : ((k : Int) == 1) = false := by simpa using h1
      have E := Lib.hid (show OuS.fail ⟨sb, bad⟩ k = ⟨sb, bad⟩ by unfold OuS.fail; rw [if_neg (by rintro (q | q); exact h0 q; exact h1 q)])
      clear h0 h1
      go_enter Try.func30, Try.ntmps30
      go_wp2_with fail
      refine bodyPost_ret (results_none rfl _ _ _) rfl ?_
      exact ⟨rfl, ⟨v, by rw [E.out]; exact HO.out⟩, Below.refl _ _⟩
/-! ### truth -/
set_option maxHeartbeats 1000000 in
theorem otruth_any {w : World} {o : Nat} {v : Value} {s : OuS} (h : Ot w o v s) (hl : s.b.length ≤ 2199023255552) (q : Bool) : Calls Try.prog 26 #[.pointer (some ⟨o, 0, none⟩), .bool q] w (OtP o (s.tru q) w) := by
  have HO := Lib.hid h
  have c0 := h.c0
  have lt := h.lt
  clear h
  cases q with
  | true =>
    go_enter Try.func26, Try.ntmps26
    go_wp2_with (at_builtin; refine wpList_app1 _ rfl (.tmp 9) (.tmp 10) 33 rfl (o + 1) 1 5 .u8 Try.underlying33 info8u (by omega) v s.b.length s.b rfl (HO.out.own.alloc _) w.heap.size 1 rfl (cell_one _ _ _) (by simp) (by omega) (by simp; omega) ?_)
    intro v' w2 hown hg
    have hown' : w2.ownsRow (o + 1) 5 1 v' (s.b.length + 1) ((s.b ++ [1]).map (Value.int .u8)) := by simpa using hown
    obtain ⟨Av, cv, rfl, -⟩ := own_rd hown'
    obtain ⟨y0, z0, r0, hb, ho⟩ := HO.out.app (l := [1]) (m := s.b.length + 1) rfl hown' hg
    have HB := Lib.hid hb
    have HO2 := Lib.hid ho
    clear hown hown' hg hb ho c0
    go_wp2_with fail
    refine bodyPost_ret (results_none rfl _ _ _) rfl ?_
    exact ⟨rfl, ⟨_, HO2.out⟩, HB.out⟩
  | false =>
    go_enter Try.func26, Try.ntmps26
    go_wp2_with (at_builtin; refine wpList_app1 _ rfl (.tmp 18) (.tmp 19) 33 rfl (o + 1) 1 5 .u8 Try.underlying33 info8u (by omega) v s.b.length s.b rfl (HO.out.own.alloc _) w.heap.size 0 rfl (cell_one _ _ _) (by simp) (by omega) (by simp; omega) ?_)
    intro v' w2 hown hg
    have hown' : w2.ownsRow (o + 1) 5 1 v' (s.b.length + 1) ((s.b ++ [0]).map (Value.int .u8)) := by simpa using hown
    obtain ⟨Av, cv, rfl, -⟩ := own_rd hown'
    obtain ⟨y0, z0, r0, hb, ho⟩ := HO.out.app (l := [0]) (m := s.b.length + 1) rfl hown' hg
    have HB := Lib.hid hb
    have HO2 := Lib.hid ho
    clear hown hown' hg hb ho c0
    go_wp2_with fail
    refine bodyPost_ret (results_none rfl _ _ _) rfl ?_
    exact ⟨rfl, ⟨_, HO2.out⟩, HB.out⟩
end Go.Proofs.Ytcnekfpgoceblaa
/-
  The document's way of writing, in memory: what count, number and done answer.
-/
namespace Go.Proofs.Ytcnekfpgoceblaa
open Go.RowKit
set_option linter.unusedVariables false
theorem OtP.then_ {o : Nat} {s : OuS} {w w1 w' : World} {e : Ending} (h : Below o w w1) (h' : OtP o s w1 e w') : OtP o s w e w' := ⟨h'.1, h'.2.1, h.trans h'.2.2⟩
/-! ### count -/
def OcR (s : OuS) (m o : Nat) (w : World) (i : Value) (wr : World) : Prop :=
  ∃ (k : Nat) (pre : List Int) (v : Value), i = .int .i64 k ∧ k ≤ m ∧ cntE m = pre ++ cntE k ∧ Ot wr o v (s.put pre) ∧ Below o w wr
theorem cntE_len9 {m : Nat} (h : m ≤ topC) : (cntE m).length ≤ 9 := cntE_len 9 m (Nat.lt_of_le_of_lt h (by decide)) (by decide)
set_option maxHeartbeats 2000000 in
theorem ocnt_bad {w : World} {o : Nat} {v : Value} {s : OuS} (h : Ot w o v s) (n : Int) (hn : n < 0 ∨ 4611686018427387904 < n) :
    Calls Try.prog 25 #[.pointer (some ⟨o, 0, none⟩), .int .i64 n] w (OtP o (s.cnt n) w) := by
  have HO := Lib.hid h
  have E := Lib.hid (show s.cnt n = s.fail 1 by unfold OuS.cnt; rw [if_pos hn])
  clear h
  rcases hn with g | g
  · have e1 : decide (n < 0) = true := by simp; omega
    clear g
    go_enter Try.func25, Try.ntmps25
    go_wp2_with fail
    refine (ofail_any HO.out 1).mono ?_
    rintro e w1 ⟨rfl, h1, b1⟩
    have H1 := Lib.hid h1
    have B1 := Lib.hid b1
    clear h1 b1
    go_wp2_with fail
    refine bodyPost_ret (results_none rfl _ _ _) rfl ?_
    exact ⟨rfl, by rw [E.out]; exact H1.out, B1.out⟩
  · have e1 : decide (n < 0) = false := by simp; omega
    have e2 : decide (4611686018427387904 < n) = true := by simp; omega
    clear g
    go_enter Try.func25, Try.ntmps25
    go_wp2_with fail
    refine (ofail_any HO.out 1).mono ?_
    rintro e w1 ⟨rfl, h1, b1⟩
    have H1 := Lib.hid h1
    have B1 := Lib.hid b1
    clear h1 b1
    go_wp2_with fail
    refine bodyPost_ret (results_none rfl _ _ _) rfl ?_
    exact ⟨rfl, by rw [E.out]; exact H1.out, B1.out⟩
set_option maxHeartbeats 4000000 in
theorem ocnt_ok {w : World} {o : Nat} {v : Value} {s : OuS} (h : Ot w o v s) (hl : s.b.length ≤ 2199023255552) {m : Nat} (hm : m ≤ topC) :
    Calls Try.prog 25 #[.pointer (some ⟨o, 0, none⟩), .int .i64 m] w (OtP o (s.put (cntE m)) w) := by
  have HO := Lib.hid h
  have HM := Lib.hid (cntE_len9 hm)
  have m1 : (m : Int) ≤ 4611686018427387904 := by unfold topC at hm; omega
  have e1 : decide ((m : Int) < 0) = false := by simp
  have e2 : decide (4611686018427387904 < (m : Int)) = false := by simp; omega
  clear h hm
  go_enter Try.func25, Try.ntmps25
  go_wp2_with fail
  clear e1 e2
  go_loopw [1] (fun i wr => OcR s m o w i wr) (fun i _ => (intOf i).toNat)
  case atStart => exact ⟨m, [], v, rfl, Nat.le_refl _, rfl, by show Ot w o v ⟨s.b ++ [], s.bad⟩; rw [List.append_nil]; exact HO.out, Below.refl _ _⟩
  case round =>
    obtain ⟨k, pre, u, rfl, hk, hpre, hot, hb⟩ := hrel
    have HOT := Lib.hid hot
    have HB := Lib.hid hb
    have HPRE := Lib.hid hpre
    have PL := Lib.hid (show (s.put pre).b.length ≤ 2199023255562 by
      have h1 := HM.out
      rw [hpre, List.length_append] at h1
      show (s.b ++ pre).length ≤ _
      rw [List.length_append]; omega)
    have c0 := hot.c0
    have lt := hot.lt
    clear hot hb hpre
    rcases Nat.lt_or_ge k 128 with g | g
    · have e1 : decide ((127 : Int) < (k : Int)) = false := by simp; omega
      have e2 : IntKind.u8.wrap (k : Int) = (k : Int) := by rw [IntKind.wrap_u8]; omega
      go_wp2_with (at_builtin; refine wpList_app1 _ rfl (.tmp 33) (.tmp 36) 33 rfl (o + 1) 1 5 .u8 Try.underlying33 info8u (by omega) u (s.put pre).b.length (s.put pre).b rfl (HOT.out.own.alloc _) wr.heap.size (k : Int) rfl (cell_one _ _ _) (by simp) (by have := PL.out; omega) (by simp; omega) ?_)
      intro v' w2 hown hg
      have hown' : w2.ownsRow (o + 1) 5 1 v' ((s.put pre).b.length + 1) (((s.put pre).b ++ [(k : Int)]).map (Value.int .u8)) := by simpa using hown
      obtain ⟨Av, cv, rfl, -⟩ := own_rd hown'
      obtain ⟨y0, z0, r0, hb, ho⟩ := HOT.out.app (l := [(k : Int)]) (m := (s.put pre).b.length + 1) rfl hown' hg
      have HB2 := Lib.hid hb
      have HO2 := Lib.hid ho
      clear hown hown' hg hb ho c0
      go_wp2_with fail
      refine bodyPost_ret (results_none rfl _ _ _) rfl ?_
      refine ⟨rfl, ⟨.slice Av ((s.put pre).b.length + 1) cv, ?_⟩, HB.out.trans HB2.out⟩
      have h := HO2.out
      rw [OuS.put_put, ← cntE_lt g, ← HPRE.out] at h
      exact h
    · have e1 : decide ((127 : Int) < (k : Int)) = true := by simp; omega
      go_wp2_with (at_builtin; refine wpList_app1 _ rfl (.tmp 18) (.tmp 23) 33 rfl (o + 1) 1 5 .u8 Try.underlying33 info8u (by omega) u (s.put pre).b.length (s.put pre).b rfl (HOT.out.own.alloc _) wr.heap.size ((k : Int) % 128 + 128) rfl (cell_one _ _ _) (by simp) (by have := PL.out; omega) (by simp; omega) ?_)
      intro v' w2 hown hg
      have hown' : w2.ownsRow (o + 1) 5 1 v' ((s.put pre).b.length + 1) (((s.put pre).b ++ [(k : Int) % 128 + 128]).map (Value.int .u8)) := by simpa using hown
      obtain ⟨Av, cv, rfl, -⟩ := own_rd hown'
      obtain ⟨y0, z0, r0, hb, ho⟩ := HOT.out.app (l := [(k : Int) % 128 + 128]) (m := (s.put pre).b.length + 1) rfl hown' hg
      have HB2 := Lib.hid hb
      have HO2 := Lib.hid ho
      clear hown hown' hg hb ho c0
      go_wp2_with fail
      go_roundw
      case rel =>
        refine ⟨k / 128, pre ++ [(k : Int) % 128 + 128], _, by go_num, by omega, ?_, by have h := HO2.out; rw [OuS.put_put] at h; exact h, HB.out.trans HB2.out⟩
        rw [HPRE.out, cntE_ge g, List.append_assoc]; rfl
      case measure => simp [intOf]; omega
theorem ocnt_any {w : World} {o : Nat} {v : Value} {s : OuS} (h : Ot w o v s) (hl : s.b.length ≤ 2199023255552) (n : Int) :
    Calls Try.prog 25 #[.pointer (some ⟨o, 0, none⟩), .int .i64 n] w (OtP o (s.cnt n) w) := by
  by_cases hn : n < 0 ∨ 4611686018427387904 < n
  · exact ocnt_bad h n hn
  · obtain ⟨m, rfl⟩ := Int.eq_ofNat_of_zero_le (show 0 ≤ n by omega)
    rw [OuS.cnt_ok (by unfold topC; omega)]
    exact ocnt_ok h hl (by unfold topC; omega)
end Go.Proofs.Ytcnekfpgoceblaa
/-
  The document's way of writing, in memory: what number and done answer.
-/
namespace Go.Proofs.Ytcnekfpgoceblaa
open Go.RowKit
set_option linter.unusedVariables false
theorem rlimbsO {w : World} {A : Option Addr} {n c : Nat} {N : Int} (h : Nm w A n c N) :
    Calls Try.prog 49 #[.slice A n c] w fun e w' => e = .returned (.int .i64 (dl N : Nat)) ∧ w = w' := by
  obtain ⟨⟨ys, y1, y2, y3⟩, h4, h5, -⟩ := h
  refine (Limbs_any A n c ys w y1 y2 h4 h5).mono fun e w' ⟨he, hw⟩ => ⟨?_, hw⟩
  subst y3
  exact he
/-- What lies below a block stays. -/
theorem Rd.old {k : IntKind} {w w' : World} {A : Option Addr} {n B : Nat} {xs : List Int} (h : Rd k w A n xs) (hb : Below B w w') (hA : ∀ a, A = some a → 0 < n → a.block < B) : Rd k w' A n xs :=
  ⟨h.len, fun hn => by
    obtain ⟨b, off, e, hlt, hc⟩ := h.cells hn
    exact ⟨b, off, e, Nat.lt_of_lt_of_le hlt hb.size, fun j x hj => (World.cell?_of_block (hb.block b (hA _ e hn))).trans (hc j x hj)⟩⟩
theorem Nm.old {w w' : World} {A : Option Addr} {n c B : Nat} {N : Int} (h : Nm w A n c N) (hb : Below B w w') (hA : ∀ a, A = some a → 0 < n → a.block < B) : Nm w' A n c N := by
  obtain ⟨xs, h1, h2, h3⟩ := h.ex
  exact ⟨⟨xs, h1.old hb hA, h2, h3⟩, h.nc, h.c60, h.pos⟩
def OnR (s : OuS) (N : Int) (o : Nat) (w : World) (i wr : Value) (x : Value) (wq : World) : Prop :=
  ∃ (j : Nat) (v : Value), i = .int .i64 j ∧ j ≤ dl N ∧ Ot wq o v ((s.put (cntE (dl N))).put (((dg W N).take j).flatMap limE)) ∧ Below o w wq
def OiR (S : OuS) (X : Int) (o : Nat) (w : World) (x k : Value) (wq : World) : Prop :=
  ∃ (q : Nat) (v : Value), k = .int .i64 q ∧ q ≤ 8 ∧ x = .int .u64 (X / 256 ^ q) ∧ Ot wq o v (S.put ((limE X).take q)) ∧ Below o w wq
theorem limE_snoc (X : Int) {q : Nat} (h : q < 8) : (limE X).take (q + 1) = (limE X).take q ++ [X / 256 ^ q % 256] := by
  rw [List.take_succ_eq_append_getElem (by rw [limE_len]; exact h)]
  congr 2
  have := limE_at X h
  unfold dig at this
  rw [List.getD_eq_getElem?_getD, List.getElem?_eq_getElem (by rw [limE_len]; exact h)] at this
  exact this
theorem limE_all (X : Int) : (limE X).take 8 = limE X := List.take_of_length_le (by rw [limE_len]; decide)
theorem flat_len (l : List Int) : (l.flatMap limE).length = 8 * l.length := by
  induction l with
  | nil => rfl
  | cons x l ih => rw [List.flatMap_cons, List.length_append, limE_len, ih, List.length_cons]; omega
theorem take_snoc {l : List Int} {j : Nat} (h : j < l.length) : (l.take (j + 1)).flatMap limE = (l.take j).flatMap limE ++ limE (dig l j) := by
  rw [List.take_succ_eq_append_getElem h, List.flatMap_append]
  congr 1
  rw [List.flatMap_cons, List.flatMap_nil, List.append_nil]
  congr 1
  unfold dig
  rw [List.getD_eq_getElem?_getD, List.getElem?_eq_getElem h]; rfl
set_option maxHeartbeats 8000000 in
set_option maxRecDepth 100000 in
theorem onum_any {w : World} {o : Nat} {v : Value} {s : OuS} (h : Ot w o v s) (hl : s.b.length ≤ 2199023200000) {A : Option Addr} {n c : Nat} {N : Int} (hN : Nm w A n c N) (hA : ∀ a, A = some a → 0 < n → a.block < o) :
    Calls Try.prog 27 #[.pointer (some ⟨o, 0, none⟩), .slice A n c] w (OtP o (s.num N) w) := by
  have HO := Lib.hid h
  have HN := Lib.hid hN
  have HA := Lib.hid hA
  obtain ⟨d, hd⟩ : ∃ d, dl N = d := ⟨_, rfl⟩
  have HD := Lib.hid hd
  have d60 : d ≤ 17592186044416 := by have := hN.dl_le; have := hN.c60; omega
  have dn := hN.dl_le
  rw [hd] at dn
  clear h hN hA hd
  go_enter Try.func27, Try.ntmps27
  go_wp2_with fail
  refine (rlimbsO HN.out).mono ?_
  rintro e w1 ⟨rfl, rfl⟩
  rw [HD.out]
  rcases Nat.lt_or_ge 64 d with g | g
  · have e1 : decide ((64 : Int) < (d : Int)) = true := by simp; omega
    have E := Lib.hid (show s.num N = s.fail 2 by unfold OuS.num; rw [if_pos (by rw [HD.out]; exact g)])
    go_wp2_with fail
    refine (ofail_any HO.out 2).mono ?_
    rintro e w1 ⟨rfl, h1, b1⟩
    have H1 := Lib.hid h1
    have B1 := Lib.hid b1
    clear h1 b1
    go_wp2_with fail
    refine bodyPost_ret (results_none rfl _ _ _) rfl ?_
    exact ⟨rfl, by rw [E.out]; exact H1.out, B1.out⟩
  have e1 : decide ((64 : Int) < (d : Int)) = false := by simp; omega
  have E := Lib.hid (show s.num N = (s.put (cntE d)).put ((dg W N).flatMap limE) by
    unfold OuS.num
    rw [if_neg (by rw [HD.out]; omega), OuS.put_put]
    unfold OuS.numE
    rw [HD.out])
  have C9 := Lib.hid (cntE_len9 (m := d) (by unfold topC; omega))
  go_wp2_with fail
  clear e1
  refine (ocnt_ok HO.out (by omega) (m := d) (by unfold topC; omega)).mono ?_
  rintro e w1 ⟨rfl, ⟨v1, o1⟩, b1⟩
  have O1 := Lib.hid o1
  have B1 := Lib.hid b1
  clear o1 b1
  go_wp2_with fail
  go_loopw [5, 6, 7] (fun i x k wr => OnR s N o w i x k wr) (fun i _ _ _ => d - (intOf i).toNat)
  case atStart => exact ⟨0, v1, rfl, Nat.zero_le _, by rw [HD.out]; show Ot w1 o v1 ⟨(s.put (cntE d)).b ++ [], _⟩; rw [List.append_nil]; exact O1.out, B1.out⟩
  case round =>
    obtain ⟨j, u, rfl, hj, hot, hb⟩ := hrel
    rw [HD.out] at hj hot
    have HOT := Lib.hid hot
    have HB := Lib.hid hb
    clear hot hb
    rcases Nat.lt_or_ge j d with hlt | hge
    · have hji : (j : Int) < (d : Int) := by omega
      have hnm := HN.out.old HB.out HA.out
      obtain ⟨xs, h1, h2, h3⟩ := hnm.ex
      have hx := strip_ex W_two h2
      rw [h3] at hx
      obtain ⟨b, off, X, rfl, hbb, hX, hcell⟩ := h1.at_ (j := j) (by omega)
      have hXd := dig_lt hX
      have HXD := Lib.hid (show dig (dg W N) j = X by
        rw [hx]
        show ((xs.take (dl N))).getD j 0 = X
        rw [HD.out, List.getD_eq_getElem?_getD, List.getElem?_take_of_lt hlt]
        unfold dig at hXd
        rw [List.getD_eq_getElem?_getD] at hXd
        exact hXd)
      have xb := dig_W h2 j
      rw [hXd] at xb
      have XB := Lib.hid xb
      clear hnm h1 h2 h3 hx hX hXd xb
      obtain ⟨S, hS⟩ : ∃ S, (s.put (cntE d)).put (((dg W N).take j).flatMap limE) = S := ⟨_, rfl⟩
      have HS := Lib.hid hS
      have SL := Lib.hid (show S.b.length ≤ 2199023250000 by
        rw [← hS]
        show ((s.b ++ cntE d) ++ _).length ≤ _
        have h9 := C9.out
        rw [List.length_append, List.length_append, flat_len, List.length_take]
        have : (dg W N).length = d := HD.out
        omega)
      rw [hS] at HOT
      obtain ⟨wl, hwl⟩ : ∃ wl, wl = wr := ⟨_, rfl⟩
      subst hwl
      go_wp2_with fail
      go_loopw [6, 7] (fun x k wr => OiR S X o w x k wr) (fun _ k _ => 8 - (intOf k).toNat)
      case atStart => exact ⟨0, u, rfl, by decide, by simp, by show Ot wl o u ⟨S.b ++ [], _⟩; rw [List.append_nil]; exact HOT.out, HB.out⟩
      case round =>
        obtain ⟨q, u2, rfl, hq, rfl, hot2, hb2⟩ := hrel
        have HOT2 := Lib.hid hot2
        have HB2 := Lib.hid hb2
        have c0 := hot2.c0
        have lt := hot2.lt
        clear hot2 hb2
        obtain ⟨z, hz⟩ : ∃ z, X / 256 ^ q = z := ⟨_, rfl⟩
        have HZ := Lib.hid hz
        have z0 : 0 ≤ z := by rw [← hz]; exact Int.ediv_nonneg XB.out.1 (Int.le_of_lt (Int.pow_pos (by decide)))
        have z1 : z < 18446744073709551616 := by
          rw [← hz]
          have := Int.ediv_le_self (256 ^ q) XB.out.1
          have := XB.out.2
          omega
        rw [hz]
        rcases Nat.lt_or_ge q 8 with g8 | g8
        · have hqi : (q : Int) < 8 := by omega
          have t1 : z.tmod 256 = z % 256 := Int.tmod_eq_emod_of_nonneg z0
          have t2 : z.tdiv 256 = z / 256 := Int.tdiv_eq_ediv_of_nonneg z0
          have t3 : IntKind.u8.wrap (z % 256) = z % 256 := by rw [IntKind.wrap_u8]; omega
          have LL := Lib.hid (show (S.put ((limE X).take q)).b.length ≤ 2199023250008 by
            show (S.b ++ _).length ≤ _
            have := SL.out
            rw [List.length_append, List.length_take, limE_len]; omega)
          clear hz
          go_wp2_with (at_builtin; refine wpList_app1 _ rfl (.tmp 34) (.tmp 38) 33 rfl (o + 1) 1 5 .u8 Try.underlying33 info8u (by omega) u2 (S.put ((limE X).take q)).b.length (S.put ((limE X).take q)).b rfl (HOT2.out.own.alloc _) wr.heap.size (z % 256) rfl (cell_one _ _ _) (by simp) (by have := LL.out; omega) (by simp; omega) ?_)
          intro v' w2 hown hg
          have hown' : w2.ownsRow (o + 1) 5 1 v' ((S.put ((limE X).take q)).b.length + 1) (((S.put ((limE X).take q)).b ++ [z % 256]).map (Value.int .u8)) := by simpa using hown
          obtain ⟨Av, cv, rfl, -⟩ := own_rd hown'
          obtain ⟨y0, f0, r0, hb, ho⟩ := HOT2.out.app (l := [z % 256]) (m := (S.put ((limE X).take q)).b.length + 1) rfl hown' hg
          have HB3 := Lib.hid hb
          have HO3 := Lib.hid ho
          clear hown hown' hg hb ho c0
          go_wp2_with fail
          go_roundw
          case rel =>
            refine ⟨q + 1, _, by go_num, by omega, ?_, by have h := HO3.out; rw [OuS.put_put, ← HZ.out, ← limE_snoc X g8] at h; exact h, HB2.out.trans HB3.out⟩
            rw [← HZ.out, Int.pow_succ, Int.ediv_ediv_of_nonneg (Int.le_of_lt (Int.pow_pos (by decide)))]
          case measure => simp [intOf]; omega
        · obtain rfl : q = 8 := by omega
          clear hz
          go_wp2_with fail
          go_roundw
          case rel =>
            refine ⟨j + 1, u2, by go_num, by rw [HD.out]; omega, ?_, HB2.out⟩
            have h := HOT2.out
            rw [limE_all, ← HS.out, OuS.put_put] at h
            rw [take_snoc (by rw [show (dg W N).length = d from HD.out]; exact hlt), HXD.out, HD.out]
            exact h
          case measure => simp [intOf]; omega
    · obtain rfl : j = d := by omega
      have hji : decide ((j : Int) < (j : Int)) = false := by simp
      go_wp2_with fail
      refine bodyPost_ret (results_none rfl _ _ _) rfl ?_
      refine ⟨rfl, ⟨u, ?_⟩, HB.out⟩
      have h := HOT.out
      rw [List.take_of_length_le (by rw [show (dg W N).length = j from HD.out]; exact Nat.le_refl _), ← E.out] at h
      exact h
/-! ### done -/
/-- What comes out: the bytes, or what is amiss. -/
def OdP (s : OuS) (o : Nat) (w : World) (e : Ending) (w' : World) : Prop :=
  (s.bad = 0 ∧ ∃ v, e = .returned (.tuple #[v, .int .i64 0]) ∧ Own8 w' (o + 1) v s.b ∧ Below o w w') ∨ (s.bad ≠ 0 ∧ e = .returned (.tuple #[.slice none 0 0, .int .i64 s.bad]) ∧ Below o w w')
set_option maxHeartbeats 4000000 in
theorem odone_any {w : World} {o : Nat} {v : Value} {s : OuS} (h : Ot w o v s) (hl : s.b.length ≤ 281474976710656) (most : Nat) (hm : most ≤ 1099511627776) :
    Calls Try.prog 28 #[.pointer (some ⟨o, 0, none⟩), .int .i64 most] w (OdP (s.done most) o w) := by
  obtain ⟨Av, cv, rfl, -⟩ := own_rd h.own
  have HO := Lib.hid h
  have c0 := h.c0
  have c1 := h.c1
  have lt := h.lt
  obtain ⟨L, hL⟩ : ∃ L, s.b.length = L := ⟨_, rfl⟩
  have HL := Lib.hid hL
  rw [hL] at c0 hl
  clear h hL
  rcases Nat.lt_or_ge most L with g | g
  · have e1 : decide ((most : Int) < (L : Int)) = true := by simp; omega
    have E := Lib.hid (show s.done most = s.fail 2 by unfold OuS.done; rw [if_pos (by rw [HL.out]; exact g)])
    have NB := Lib.hid (show (s.fail 2).bad ≠ 0 by
      unfold OuS.fail
      show (if s.bad = 0 ∨ (2 : Int) = 1 then (2 : Int) else s.bad) ≠ 0
      split
      · decide
      · rename_i h2; intro h3; exact h2 (.inl h3))
    go_enter Try.func28, Try.ntmps28
    go_wp2_with fail
    refine (ofail_any HO.out 2).mono ?_
    rintro e w1 ⟨rfl, ⟨v1, h1⟩, b1⟩
    have H1 := Lib.hid h1
    have B1 := Lib.hid b1
    have d1 := h1.c1
    obtain ⟨bad, hbad⟩ : ∃ bad, (s.fail 2).bad = bad := ⟨_, rfl⟩
    have nb := NB.out
    rw [hbad] at d1 nb
    have HBD := Lib.hid hbad
    have hne : ((bad : Int) != 0) = true := by simpa using nb
    clear h1 b1 c0 c1 e1 hbad nb
    go_wp2_with fail
    go_quiet (fail)
    go_wp2_with fail
    go_ret2
    exact .inr ⟨by rw [E.out]; exact NB.out, by rw [E.out, HBD.out]; rfl, B1.out.trans (below_drewN (Below.refl _ _) _)⟩
  · have e1 : decide ((most : Int) < (L : Int)) = false := by simp; omega
    have E := Lib.hid (show s.done most = s by unfold OuS.done; rw [if_neg (by rw [HL.out]; omega)])
    obtain ⟨bad, hbad⟩ : ∃ bad, s.bad = bad := ⟨_, rfl⟩
    have HBD := Lib.hid hbad
    rw [hbad] at c1
    clear hbad
    by_cases hb0 : bad = 0
    · subst hb0
      have hne : ((0 : Int) != 0) = false := by decide
      go_enter Try.func28, Try.ntmps28
      go_wp2_with fail
      go_ret2
      refine .inl ⟨by rw [E.out]; exact HBD.out, _, rfl, ?_, Below.refl _ _⟩
      rw [E.out, ← HL.out]
      exact HO.out.own
    · have hne : ((bad : Int) != 0) = true := by simpa using hb0
      have NB := Lib.hid hb0
      clear hb0
      go_enter Try.func28, Try.ntmps28
      go_wp2_with fail
      go_quiet (fail)
      go_wp2_with fail
      go_ret2
      exact .inr ⟨by rw [E.out, HBD.out]; exact NB.out, by rw [E.out, HBD.out]; rfl, below_drewN (Below.refl _ _) _⟩
end Go.Proofs.Ytcnekfpgoceblaa
/-
  Bytes appended to what the call itself makes, be they ever so many.
-/
namespace Go.Proofs.Ytcnekfpgoceblaa
open Go.RowKit
set_option linter.unusedVariables false
section
variable {P : Program} (w : World)
/-- All of a slice more, nil or not. -/
theorem wp_catKw {o : Oper} {a : Act} {K : Act → World → Prop} {Q : Exit → Act → World → Prop} (s x : Operand) (t : TypeId)
    (ho : o.op = .call { callee := .builtin .append, args := #[s, x], argTypes := #[t, t] })
    (base : Nat) (by' : Nat) (e : TypeId) (k : IntKind) (ht : P.underlying t = some (.slice e)) (hi : (P.info? e).map (fun i => (i.zero, i.size, i.bytes)) = some (some (.int k 0), 1, by'))
    (hby : by' = 1) (v : Value) (n : Nat) (L : List Int) (hs : a.eval s = v) (hown : w.ownsRow base e 1 v n (L.map (Value.int k)))
    (A : Option Addr) (m c : Nat) (xs : List Int) (hx : a.eval x = .slice A m c) (hr : Rd k w A m xs) (hn : n + m ≤ 140737490452480) (hbase : base ≤ w.heap.size)
    (h : ∀ v' w', w'.ownsRow base e 1 v' (n + m) ((L ++ xs).map (Value.int k)) → w.grownBy w' v.ownBlock → K (a.put o.dst v') w') : o.wp P a w K Q := by
  obtain ⟨i0, h1, h2, h3, h4⟩ := info_parts hi
  cases A with
  | none =>
    have hm : m = 0 := by
      rcases Nat.eq_zero_or_pos m with g | g
      · exact g
      · obtain ⟨b, off, e, _⟩ := hr.cells g; cases e
    subst hm
    obtain rfl : xs = [] := List.eq_nil_of_length_eq_zero hr.len
    have hrun := run_app_nil (P := P) w base t o.type e i0 1 ht h1 v n _ hown c
    have hh := h v w (by simpa using hown) (World.grownBy.refl w _)
    unfold Oper.wp execOp
    simp only [ho, resolve, invoke, builtin, Sem.run_bind, Sem.run_pure, Result.andThen_ok, List.map_toArray, List.map_cons, List.map_nil, hs, hx, hrun]
    exact hh
  | some ad =>
    refine wp_append_own_wide w s x t ho base e i0 (.int k 0) 1 by' ht h1 h2 h3 h4 rfl (by decide) v n _ hs hown ad m c (xs.map (Value.int k)) hx (by simp [hr.len]) ?_ (ints_oneCell _ _) ?_ ?_ hbase (fun v' w' a b _ => h v' w' (by simpa using a) b)
    · intro j u hj
      rw [List.getElem?_map] at hj
      cases hxj : xs[j]? with
      | none => rw [hxj] at hj; cases hj
      | some x' =>
        rw [hxj] at hj
        injection hj with hj
        subst hj
        have hm : 0 < m := by
          rcases Nat.eq_zero_or_pos m with g | g
          · subst g
            rw [List.eq_nil_of_length_eq_zero hr.len] at hxj; simp at hxj
          · exact g
        obtain ⟨b, off, e, hb, hc⟩ := hr.cells hm
        injection e with e
        subst e
        rw [Addr.add_lit]
        exact hc j x' hxj
    · unfold maxLen; omega
    · subst hby; omega
theorem wpList_cat8w {ops : Array Oper} {rest : List Oper} {o : Oper} {a : Act} {Q : Exit → Act → World → Prop} (hgd : o.guard = none) (s x : Operand) (t : TypeId)
    (ho : o.op = .call { callee := .builtin .append, args := #[s, x], argTypes := #[t, t] })
    (base : Nat) (e : TypeId) (k : IntKind) (ht : P.underlying t = some (.slice e)) (hi : (P.info? e).map (fun i => (i.zero, i.size, i.bytes)) = some (some (.int k 0), 1, 1))
    (v : Value) (n : Nat) (L : List Int) (hs : a.eval s = v) (hown : w.ownsRow base e 1 v n (L.map (Value.int k)))
    (A : Option Addr) (m c : Nat) (xs : List Int) (hx : a.eval x = .slice A m c) (hr : Rd k w A m xs) (hn : n + m ≤ 140737490452480) (hbase : base ≤ w.heap.size)
    (h : ∀ v' w', w'.ownsRow base e 1 v' (n + m) ((L ++ xs).map (Value.int k)) → w.grownBy w' v.ownBlock → wpList P ops Q rest (a.put o.dst v') w') : wpList P ops Q (o :: rest) a w :=
  wpList_plain hgd fun _ hK => wp_catKw w s x t ho base 1 e k ht hi rfl v n L hs hown A m c xs hx hr hn hbase fun v' w' a b => hK _ _ (h v' w' a b)
end
end Go.Proofs.Ytcnekfpgoceblaa
/-
  The document's way of writing: what Packet answers.
-/
namespace Go.Proofs.Ytcnekfpgoceblaa
open Go.RowKit
set_option linter.unusedVariables false
theorem step_cat8w {P : Program} (w : World) {ops : Array Oper} {o : Oper} {a : Act} {K : Act → World → Prop} {Q : Exit → Act → World → Prop} {E : Prop} (hgd : o.guard = none) (s x : Operand) (t : TypeId)
    (ho : o.op = .call { callee := .builtin .append, args := #[s, x], argTypes := #[t, t] })
    (base : Nat) (e : TypeId) (k : IntKind) (ht : P.underlying t = some (.slice e)) (hi : (P.info? e).map (fun i => (i.zero, i.size, i.bytes)) = some (some (.int k 0), 1, 1))
    (v : Value) (n : Nat) (L : List Int) (hs : a.eval s = v) (hown : w.ownsRow base e 1 v n (L.map (Value.int k)))
    (A : Option Addr) (m c : Nat) (xs : List Int) (hx : a.eval x = .slice A m c) (hr : Rd k w A m xs) (hn : n + m ≤ 140737490452480) (hbase : base ≤ w.heap.size)
    (h : ∀ v' w', w'.ownsRow base e 1 v' (n + m) ((L ++ xs).map (Value.int k)) → w.grownBy w' v.ownBlock → K (a.put o.dst v') w') :
    if Region.wanted o (yielded ops a.tmps) = true then Oper.wp P o a w K Q else E := by
  have hw : Region.wanted o (yielded ops a.tmps) = true := by simp [Region.wanted, hgd]
  rw [if_pos hw]
  exact wp_catKw w s x t ho base 1 e k ht hi rfl v n L hs hown A m c xs hx hr hn hbase h
/-- A slice more, where nothing was made ahead. -/
theorem Ot.app3 {w w2 : World} {o : Nat} {v v' : Value} {s : OuS} {l : List Int} {m : Nat} (h : Ot w o v s) (hm : s.b.length + l.length = m) (h2 : w2.ownsRow (o + 1) 5 1 v' m ((s.b ++ l).map (Value.int .u8))) (hg : w.drew.grownBy w2 v.ownBlock) :
    w2.cell? ⟨o, 0, none⟩ = some v ∧ w2.frozen? ⟨o, 0, none⟩ = false ∧ w2.heap[o]? = some (.cells #[v, .int .i64 s.bad] 69 (0, 0)) ∧ Below o w (w2.setCell ⟨o, 0, none⟩ v') ∧ Ot (w2.setCell ⟨o, 0, none⟩ v') o v' (s.put l) := by
  have hlt := h.lt
  have hne : some o ≠ v.ownBlock := fun e => by
    have := (h.own.lt o e.symm).1
    omega
  have hr : w2.heap[o]? = some (.cells #[v, .int .i64 s.bad] 69 (0, 0)) := (hg.block o hlt hne).trans h.row
  refine ⟨cell_of_row w2 o 0 _ _ _ hr, frozen_of_row w2 o 0 _ _ hr, hr, ?_, heap_setCell_same w2 o 0 _ _ _ hr, ?_⟩
  · refine Below.setCell ?_ (Nat.le_refl o) _
    exact own_below (base := o + 1) (w := w.drew) (Below.refl _ _).drew h.own hg (Nat.le_of_lt hlt) (Nat.le_succ o)
  · show World.ownsRow _ (o + 1) 5 1 v' (s.b ++ l).length _
    rw [List.length_append, hm]
    exact ownsRow_setCell_below h2 (Nat.lt_succ_self o) _
/-- What Packet answers. -/
def OdP2 (s : OuS) (w : World) (e : Ending) (w' : World) : Prop :=
  (s.bad = 0 ∧ ∃ v, e = .returned (.tuple #[v, .int .i64 0]) ∧ Own8 w' w.heap.size v s.b ∧ Below w.heap.size w w') ∨ (s.bad ≠ 0 ∧ e = .returned (.tuple #[.slice none 0 0, .int .i64 s.bad]) ∧ Below w.heap.size w w')
set_option maxHeartbeats 16000000 in
set_option maxRecDepth 100000 in
theorem ropkt_any {w : World} {m : Pkd} (hr : Rd .u8 w m.A m.xs.length m.xs) (hq : 0 ≤ m.q ∧ m.q < 18446744073709551616) (hl : m.xs.length ≤ 140737488355328) :
    Calls Try.prog 15 #[.agg #[.int .i64 m.f, .int .i64 m.t, .int .u64 m.q, .bool m.a, .slice m.A m.xs.length m.c]] w (OdP2 ((pktO m).done 2097152) w) := by
  have HR := Lib.hid hr
  obtain ⟨s, hs⟩ : ∃ s, w.heap.size = s := ⟨_, rfl⟩
  obtain ⟨W1, hW1⟩ : ∃ W1, w.alloc (.cells #[.int .i64 m.f, .int .i64 m.t, .int .u64 m.q, .bool m.a, .slice m.A m.xs.length m.c] 43) = W1 := ⟨_, rfl⟩
  have b1 : Below w.heap.size w W1 := by rw [← hW1]; exact (Below.refl _ _).alloc (Nat.le_refl _) _
  have s1 : W1.heap.size = s + 1 := by rw [← hW1, ← hs]; simp
  have r10 : W1.heap[s]? = some (.cells #[.int .i64 m.f, .int .i64 m.t, .int .u64 m.q, .bool m.a, .slice m.A m.xs.length m.c] 43 (0, 0)) := by rw [← hW1, ← hs]; exact heap_alloc_new w _
  obtain ⟨W2, hW2⟩ : ∃ W2, W1.alloc (.cells #[.slice none 0 0, .int .i64 0] 69) = W2 := ⟨_, rfl⟩
  have b2 : Below W1.heap.size W1 W2 := by rw [← hW2]; exact (Below.refl _ _).alloc (Nat.le_refl _) _
  have OT0 := Lib.hid (show Ot W2 (s + 1) (.slice none 0 0) ⟨[], 0⟩ from ⟨by rw [← hW2, ← s1]; exact heap_alloc_new W1 _, ⟨rfl, .inl ⟨rfl, rfl⟩⟩⟩)
  have B2 := Lib.hid (show Below w.heap.size w W2 from b1.trans (b2.mono b1.size))
  have RM := Lib.hid (show ∀ W, Below (s + 1) W2 W → W.heap[s]? = some (.cells #[.int .i64 m.f, .int .i64 m.t, .int .u64 m.q, .bool m.a, .slice m.A m.xs.length m.c] 43 (0, 0)) from fun W hW => (hW.block s (by omega)).trans ((b2.block s (by omega)).trans r10))
  have HS := Lib.hid hs
  have RB := Lib.hid (show ∀ W, Below (s + 1) W2 W → Below w.heap.size w W from fun W hW => B2.out.trans (hW.mono (by have := HS.out; omega)))
  have y0 := cell_of_row W2 s 0 _ _ _ (RM.out W2 (Below.refl _ _))
  clear hr b1 b2 r10
  go_enter Try.func15, Try.ntmps15
  go_wp2_with fail
  try rw [hW1]
  try rw [hW2]
  refine (ocnt_any OT0.out (by decide) m.f).mono ?_
  rintro e u1 ⟨rfl, ⟨v1, o1⟩, b1⟩
  have O1 := Lib.hid o1
  have B1 := Lib.hid b1
  have L1 := Lib.hid (show ((⟨[], 0⟩ : OuS).cnt m.f).b.length ≤ 9 from by have h := OuS.cnt_len (⟨[], 0⟩ : OuS) m.f; have h0 : (⟨[], 0⟩ : OuS).b.length = 0 := rfl; omega)
  clear o1 b1 y0 hW1 hW2 s1 hs
  have y1 := cell_of_row u1 s 1 _ _ _ (RM.out u1 B1.out)
  go_wp2_with fail
  refine (ocnt_any O1.out (Nat.le_trans L1.out (by decide)) m.t).mono ?_
  rintro e u2 ⟨rfl, ⟨v2, o2⟩, b2⟩
  have O2 := Lib.hid o2
  have B2' := Lib.hid (B1.out.trans b2)
  have L2 := Lib.hid (show (((⟨[], 0⟩ : OuS).cnt m.f).cnt m.t).b.length ≤ 18 from by have h := OuS.cnt_len ((⟨[], 0⟩ : OuS).cnt m.f) m.t; have h0 := L1.out; omega)
  clear o2 b2 y1
  have y2 := cell_of_row u2 s 2 _ _ _ (RM.out u2 B2'.out)
  have HQ := Lib.hid hq
  by_cases g : 4611686018427387904 < m.q
  case pos =>
    have e1 : decide (4611686018427387904 < m.q) = true := by simpa using g
    have G := Lib.hid g
    clear g
    go_wp2_with fail
    refine (ofail_any O2.out 1).mono ?_
    rintro e u3 ⟨rfl, ⟨v3, o3⟩, b3⟩
    have O3 := Lib.hid (show Ot u3 (s + 1) v3 ((((⟨[], 0⟩ : OuS).cnt m.f).cnt m.t).cnt m.q) from by
      have e : (((⟨[], 0⟩ : OuS).cnt m.f).cnt m.t).cnt m.q = (((⟨[], 0⟩ : OuS).cnt m.f).cnt m.t).fail 1 := if_pos (.inr G.out)
      rw [e]; exact o3)
    have B3 := Lib.hid (B2'.out.trans b3)
    clear o3 b3 y2 e1
    obtain ⟨S3, hS3⟩ : ∃ S3, (((⟨[], 0⟩ : OuS).cnt m.f).cnt m.t).cnt m.q = S3 := ⟨_, rfl⟩
    have HS3 := Lib.hid hS3
    have L3 := Lib.hid (show S3.b.length ≤ 27 from by have h := OuS.cnt_len (((⟨[], 0⟩ : OuS).cnt m.f).cnt m.t) m.q; have h0 := L2.out; rw [hS3] at h; omega)
    rw [hS3] at O3
    clear hS3
    have y3 := cell_of_row u3 s 3 _ _ _ (RM.out u3 B3.out)
    go_wp2_with fail
    refine (otruth_any O3.out (Nat.le_trans L3.out (by decide)) m.a).mono ?_
    rintro e u4 ⟨rfl, ⟨v4, o4⟩, b4⟩
    have O4 := Lib.hid o4
    have B4 := Lib.hid (B3.out.trans b4)
    have L4 := Lib.hid (show (S3.tru m.a).b.length ≤ 28 from by have h0 := L3.out; rw [tru_len]; omega)
    clear o4 b4 y3
    have y4 := cell_of_row u4 s 4 _ _ _ (RM.out u4 B4.out)
    go_wp2_with fail
    refine (ocnt_any O4.out (Nat.le_trans L4.out (by decide)) (m.xs.length : Int)).mono ?_
    rintro e u5 ⟨rfl, ⟨v5, o5⟩, b5⟩
    have B5 := Lib.hid (B4.out.trans b5)
    obtain ⟨S5, hS5⟩ : ∃ S5, (S3.tru m.a).cnt (m.xs.length : Int) = S5 := ⟨_, rfl⟩
    have HS5 := Lib.hid hS5
    have L5 := Lib.hid (show S5.b.length ≤ 37 from by have h := OuS.cnt_len (S3.tru m.a) (m.xs.length : Int); have h0 := L4.out; rw [hS5] at h; omega)
    have O5 := Lib.hid (show Ot u5 (s + 1) v5 S5 by rw [← hS5]; exact o5)
    clear o5 b5 y4 hS5
    have HBd := Lib.hid (show Below (s + 1) W2 u5.drew from B5.out.drew)
    have y4 := cell_of_row u5.drew s 4 _ _ _ (RM.out u5.drew HBd.out)
    have c0 : u5.drew.cell? ⟨s + 1, 0, none⟩ = some v5 := O5.out.c0
    have OWd := Lib.hid (show u5.drew.ownsRow (s + 1 + 1) 5 1 v5 S5.b.length (S5.b.map (Value.int .u8)) from O5.out.own)
    have sbd : s + 1 + 1 ≤ u5.drew.heap.size := by have := O5.out.lt; show s + 1 + 1 ≤ u5.heap.size; omega
    have lnm : S5.b.length + m.xs.length ≤ 140737490452480 := by have := L5.out; omega
    have RDd := Lib.hid (show Rd .u8 u5.drew m.A m.xs.length m.xs from HR.out.below ((RB.out u5 B5.out).drew))
    go_wp2_with fail
    go_region_law (first
      | (refine step_cat8w _ rfl (.tmp 38) (.tmp 40) 33 rfl (s + 1 + 1) 5 .u8 Try.underlying33 info8u _ S5.b.length S5.b rfl OWd.out _ m.xs.length _ m.xs rfl RDd.out lnm sbd ?_; intro vn wn hn gn; have hown' : wn.ownsRow (s + 1 + 1) 5 1 vn (S5.b.length + m.xs.length) ((S5.b ++ m.xs).map (Value.int .u8)) := (by simpa using hn); obtain ⟨Av, cv, rfl, -⟩ := own_rd hown'; obtain ⟨z0, f0, r0, hb3, ho3⟩ := O5.out.app3 (l := m.xs) (m := S5.b.length + m.xs.length) rfl hown' gn; have HB3 := Lib.hid hb3; have HO3 := Lib.hid ho3; clear hn hown' gn hb3 ho3 c0 y4))
    all_goals
      go_wp2_with fail
      refine (odone_any HO3.out (by show (S5.b ++ m.xs).length ≤ _; rw [List.length_append]; omega) 2097152 (by decide)).mono ?_
      have EQ : S5.put m.xs = pktO m := by rw [← HS5.out, ← HS3.out]; rfl
      rintro e Y3 (⟨hz, vz, rfl, hown, hb3⟩ | ⟨hz, rfl, hb3⟩)
      · have HZ := Lib.hid hz
        have HOW := Lib.hid hown
        have HB9 := Lib.hid (RB.out Y3 ((B5.out.trans HB3.out).trans hb3))
        have HEQ := Lib.hid EQ
        clear hz hown hb3 EQ
        go_wp2_with fail
        go_ret2
        exact .inl ⟨by rw [← HEQ.out]; exact HZ.out, vz, rfl, by rw [← HEQ.out]; exact own_base HOW.out (by have := HS.out; omega), HB9.out⟩
      · have HZ := Lib.hid hz
        have HB9 := Lib.hid (RB.out Y3 ((B5.out.trans HB3.out).trans hb3))
        have HEQ := Lib.hid EQ
        clear hz hb3 EQ
        go_wp2_with fail
        go_ret2
        exact .inr ⟨by rw [← HEQ.out]; exact HZ.out, by rw [← HEQ.out]; rfl, HB9.out⟩
  case neg =>
    have e1 : decide (4611686018427387904 < m.q) = false := by simpa using g
    have e3 : IntKind.i64.wrap m.q = m.q := by have := HQ.out.1; rw [IntWalk.i64_in _ (by omega)]
    clear g
    go_wp2_with fail
    refine (ocnt_any O2.out (Nat.le_trans L2.out (by decide)) m.q).mono ?_
    rintro e u3 ⟨rfl, ⟨v3, o3⟩, b3⟩
    have O3 := Lib.hid o3
    have B3 := Lib.hid (B2'.out.trans b3)
    clear o3 b3 y2 e1 e3
    obtain ⟨S3, hS3⟩ : ∃ S3, (((⟨[], 0⟩ : OuS).cnt m.f).cnt m.t).cnt m.q = S3 := ⟨_, rfl⟩
    have HS3 := Lib.hid hS3
    have L3 := Lib.hid (show S3.b.length ≤ 27 from by have h := OuS.cnt_len (((⟨[], 0⟩ : OuS).cnt m.f).cnt m.t) m.q; have h0 := L2.out; rw [hS3] at h; omega)
    rw [hS3] at O3
    clear hS3
    have y3 := cell_of_row u3 s 3 _ _ _ (RM.out u3 B3.out)
    go_wp2_with fail
    refine (otruth_any O3.out (Nat.le_trans L3.out (by decide)) m.a).mono ?_
    rintro e u4 ⟨rfl, ⟨v4, o4⟩, b4⟩
    have O4 := Lib.hid o4
    have B4 := Lib.hid (B3.out.trans b4)
    have L4 := Lib.hid (show (S3.tru m.a).b.length ≤ 28 from by have h0 := L3.out; rw [tru_len]; omega)
    clear o4 b4 y3
    have y4 := cell_of_row u4 s 4 _ _ _ (RM.out u4 B4.out)
    go_wp2_with fail
    refine (ocnt_any O4.out (Nat.le_trans L4.out (by decide)) (m.xs.length : Int)).mono ?_
    rintro e u5 ⟨rfl, ⟨v5, o5⟩, b5⟩
    have B5 := Lib.hid (B4.out.trans b5)
    obtain ⟨S5, hS5⟩ : ∃ S5, (S3.tru m.a).cnt (m.xs.length : Int) = S5 := ⟨_, rfl⟩
    have HS5 := Lib.hid hS5
    have L5 := Lib.hid (show S5.b.length ≤ 37 from by have h := OuS.cnt_len (S3.tru m.a) (m.xs.length : Int); have h0 := L4.out; rw [hS5] at h; omega)
    have O5 := Lib.hid (show Ot u5 (s + 1) v5 S5 by rw [← hS5]; exact o5)
    clear o5 b5 y4 hS5
    have HBd := Lib.hid (show Below (s + 1) W2 u5.drew from B5.out.drew)
    have y4 := cell_of_row u5.drew s 4 _ _ _ (RM.out u5.drew HBd.out)
    have c0 : u5.drew.cell? ⟨s + 1, 0, none⟩ = some v5 := O5.out.c0
    have OWd := Lib.hid (show u5.drew.ownsRow (s + 1 + 1) 5 1 v5 S5.b.length (S5.b.map (Value.int .u8)) from O5.out.own)
    have sbd : s + 1 + 1 ≤ u5.drew.heap.size := by have := O5.out.lt; show s + 1 + 1 ≤ u5.heap.size; omega
    have lnm : S5.b.length + m.xs.length ≤ 140737490452480 := by have := L5.out; omega
    have RDd := Lib.hid (show Rd .u8 u5.drew m.A m.xs.length m.xs from HR.out.below ((RB.out u5 B5.out).drew))
    go_wp2_with fail
    go_region_law (first
      | (refine step_cat8w _ rfl (.tmp 38) (.tmp 40) 33 rfl (s + 1 + 1) 5 .u8 Try.underlying33 info8u _ S5.b.length S5.b rfl OWd.out _ m.xs.length _ m.xs rfl RDd.out lnm sbd ?_; intro vn wn hn gn; have hown' : wn.ownsRow (s + 1 + 1) 5 1 vn (S5.b.length + m.xs.length) ((S5.b ++ m.xs).map (Value.int .u8)) := (by simpa using hn); obtain ⟨Av, cv, rfl, -⟩ := own_rd hown'; obtain ⟨z0, f0, r0, hb3, ho3⟩ := O5.out.app3 (l := m.xs) (m := S5.b.length + m.xs.length) rfl hown' gn; have HB3 := Lib.hid hb3; have HO3 := Lib.hid ho3; clear hn hown' gn hb3 ho3 c0 y4))
    all_goals
      go_wp2_with fail
      refine (odone_any HO3.out (by show (S5.b ++ m.xs).length ≤ _; rw [List.length_append]; omega) 2097152 (by decide)).mono ?_
      have EQ : S5.put m.xs = pktO m := by rw [← HS5.out, ← HS3.out]; rfl
      rintro e Y3 (⟨hz, vz, rfl, hown, hb3⟩ | ⟨hz, rfl, hb3⟩)
      · have HZ := Lib.hid hz
        have HOW := Lib.hid hown
        have HB9 := Lib.hid (RB.out Y3 ((B5.out.trans HB3.out).trans hb3))
        have HEQ := Lib.hid EQ
        clear hz hown hb3 EQ
        go_wp2_with fail
        go_ret2
        exact .inl ⟨by rw [← HEQ.out]; exact HZ.out, vz, rfl, by rw [← HEQ.out]; exact own_base HOW.out (by have := HS.out; omega), HB9.out⟩
      · have HZ := Lib.hid hz
        have HB9 := Lib.hid (RB.out Y3 ((B5.out.trans HB3.out).trans hb3))
        have HEQ := Lib.hid EQ
        clear hz hb3 EQ
        go_wp2_with fail
        go_ret2
        exact .inr ⟨by rw [← HEQ.out]; exact HZ.out, by rw [← HEQ.out]; rfl, HB9.out⟩
end Go.Proofs.Ytcnekfpgoceblaa
