/-
  Several texts in one: Pw0, Pw1, Pw2, Pw3.
-/
import Derived.Test.YtcnekfpgoceblaaMxx
import Derived.Test.YtcnekfpgoceblaaHsa
import Derived.BigQuiet
import Derived.Deep.QuietTactic
import Derived.Test.YtcnekfpgoceblaaRef
/-
  The program's writer, in memory: what put, flag and count answer.
-/
namespace Go.Proofs.Ytcnekfpgoceblaa
open Go.RowKit
set_option linter.unusedVariables false
/-- Something is amiss, or it is too long. -/
def OuS.over (M : Nat) (s : OuS) : Prop := s.bad ≠ 0 ∨ M < s.b.length
theorem OuS.over_put {M : Nat} {s : OuS} (l : List Int) (h : s.over M) : (s.put l).over M := by
  rcases h with h | h
  · exact .inl h
  · exact .inr (by show M < (s.b ++ l).length; rw [List.length_append]; omega)
theorem OuS.over_fail {M : Nat} {s : OuS} {k : Int} (hk : k ≠ 0) (h : s.over M) : (s.fail k).over M := by
  rcases h with h | h
  · refine .inl ?_
    show (if s.bad = 0 ∨ k = 1 then k else s.bad) ≠ 0
    split
    · exact hk
    · exact h
  · exact .inr h
theorem OuS.fail_over (M : Nat) {s : OuS} {k : Int} (hk : k ≠ 0) : (s.fail k).over M := by
  refine .inl ?_
  show (if s.bad = 0 ∨ k = 1 then k else s.bad) ≠ 0
  split
  · exact hk
  · rename_i h; exact fun e => h (.inl e)
theorem OuS.over_cnt {M : Nat} {s : OuS} (n : Int) (h : s.over M) : (s.cnt n).over M := by
  unfold OuS.cnt
  split
  · exact OuS.over_fail (by decide) h
  · exact OuS.over_put _ h
theorem OuS.over_num {M : Nat} {s : OuS} (N : Int) (h : s.over M) : (s.num N).over M := by
  unfold OuS.num
  split
  · exact OuS.over_fail (by decide) h
  · exact OuS.over_put _ h
/-- A row of bytes. -/
def ByB (w : World) (k : Nat) : Prop := ∃ cur m, w.heap[k]? = some (.cells cur 5 m)
/-- Nothing that was there has turned but block o, and rows of bytes behind it. -/
structure Gw (o : Nat) (w w' : World) : Prop where
  os : w'.os = w.os
  tape : w'.tape = w.tape
  output : w'.output = w.output
  size : w.heap.size ≤ w'.heap.size
  block : ∀ k, k < w.heap.size → k ≠ o → (k < o ∨ ¬ ByB w k) → w'.heap[k]? = w.heap[k]?
theorem Gw.refl (o : Nat) (w : World) : Gw o w w := ⟨rfl, rfl, rfl, Nat.le_refl _, fun _ _ _ _ => rfl⟩
theorem Gw.trans {o : Nat} {w w1 w2 : World} (h : Gw o w w1) (k : Gw o w1 w2) : Gw o w w2 :=
  ⟨k.os.trans h.os, k.tape.trans h.tape, k.output.trans h.output, Nat.le_trans h.size k.size, fun i hi hb hc =>
    (k.block i (Nat.lt_of_lt_of_le hi h.size) hb (hc.imp_right fun g => by
      unfold ByB
      rw [h.block i hi hb (.inr g)]
      exact g)).trans (h.block i hi hb hc)⟩
theorem Gw.of {o B : Nat} {w w' : World} (h : Below B w w') (hB : w.heap.size ≤ B) : Gw o w w' := ⟨h.os, h.tape, h.output, h.size, fun k hk _ _ => h.block k (Nat.lt_of_lt_of_le hk hB)⟩
theorem Gw.drew {o : Nat} {w w' : World} (h : Gw o w w') (n : Nat) : Gw o w (w'.drewN n) := h.trans (Gw.of (below_drewN (Below.refl w'.heap.size w') n) (Nat.le_refl _))
theorem Gw.alloc {o : Nat} {w w' : World} (h : Gw o w w') (b : Obj) : Gw o w (w'.alloc b) := h.trans (Gw.of ((Below.refl w'.heap.size w').alloc (Nat.le_refl _) b) (Nat.le_refl _))
theorem Gw.set (o i : Nat) (w : World) (v : Value) : Gw o w (w.setCell ⟨o, i, none⟩ v) := ⟨rfl, rfl, rfl, by simp, fun k hk hb _ => heap_setCell_other w _ k v hb⟩
theorem Gw.below {o : Nat} {w w' : World} (h : Gw o w w') : o < w.heap.size → Below o w w' := fun ho => ⟨h.os, h.tape, h.output, h.size, fun k hk => h.block k (by omega) (by omega) (.inl hk)⟩
theorem Gw.cell {o : Nat} {w w' : World} (h : Gw o w w') {p : Addr} (hp : p.block < w.heap.size) (h0 : p.block ≠ o) (hb : ¬ ByB w p.block) : w'.cell? p = w.cell? p := World.cell?_of_block (h.block p.block hp h0 (.inr hb))
/-- The writer, in block o: what has been written, how much it may be at most, whether it is too long. -/
structure Pw (w : World) (o M : Nat) (v : Value) (l : List Int) (q : Bool) : Prop where
  row : w.heap[o]? = some (.cells #[v, .int .i64 M, .bool q] 64 (0, 0))
  own : Own8 w (o + 1) v l
  len : l.length ≤ M
section
variable {w w' : World} {o M : Nat} {v : Value} {l : List Int} {q : Bool}
theorem Pw.lt (h : Pw w o M v l q) : o < w.heap.size := (Array.getElem?_eq_some_iff.1 h.row).1
theorem Pw.c0 (h : Pw w o M v l q) : w.cell? ⟨o, 0, none⟩ = some v := cell_of_row w o 0 _ _ _ h.row
theorem Pw.c1 (h : Pw w o M v l q) : w.cell? ⟨o, 1, none⟩ = some (.int .i64 M) := cell_of_row w o 1 _ _ _ h.row
theorem Pw.c2 (h : Pw w o M v l q) : w.cell? ⟨o, 2, none⟩ = some (.bool q) := cell_of_row w o 2 _ _ _ h.row
theorem Pw.fz (h : Pw w o M v l q) (i : Nat) : w.frozen? ⟨o, i, none⟩ = false := frozen_of_row w o i _ _ h.row
theorem Pw.below (h : Pw w o M v l q) (hb : Below w.heap.size w w') : Pw w' o M v l q := ⟨(hb.block o h.lt).trans h.row, h.own.below hb, h.len⟩
theorem Pw.drewN (h : Pw w o M v l q) (k : Nat) : Pw (w.drewN k) o M v l q := h.below (below_drewN (Below.refl _ _) _)
theorem Pw.setQ (h : Pw w o M v l q) (q' : Bool) : Pw (w.setCell ⟨o, 2, none⟩ (.bool q')) o M v l q' :=
  ⟨heap_setCell_same w o 2 _ _ _ h.row, ownsRow_setCell_below h.own (Nat.lt_succ_self o) _, h.len⟩
theorem Pw.byb (h : Pw w o M v l q) {k : Nat} (e : v.ownBlock = some k) : o + 1 ≤ k ∧ ByB w k := by
  refine ⟨(h.own.lt k e).1, ?_⟩
  rcases h.own.2 with ⟨rfl, -⟩ | ⟨g, cap, cur, rfl, hb, hg, -⟩
  · cases e
  · injection e with e
    subst e
    exact ⟨cur, _, hg⟩
/-- Some bytes more. -/
theorem Pw.app {w1 w2 : World} {v' : Value} {x : List Int} {m : Nat} (h : Pw w o M v l q) (h1 : Below w.heap.size w w1) (hm : l.length + x.length = m) (hM : m ≤ M) (h2 : w2.ownsRow (o + 1) 5 1 v' m ((l ++ x).map (Value.int .u8))) (hg : w1.grownBy w2 v.ownBlock) :
    w2.cell? ⟨o, 0, none⟩ = some v ∧ w2.frozen? ⟨o, 0, none⟩ = false ∧ w2.heap[o]? = some (.cells #[v, .int .i64 M, .bool q] 64 (0, 0)) ∧ Gw o w (w2.setCell ⟨o, 0, none⟩ v') ∧ Pw (w2.setCell ⟨o, 0, none⟩ v') o M v' (l ++ x) q := by
  have hlt := h.lt
  have hne : some o ≠ v.ownBlock := fun e => by
    have := (h.own.lt o e.symm).1
    omega
  have hs := h1.size
  have hr : w2.heap[o]? = some (.cells #[v, .int .i64 M, .bool q] 64 (0, 0)) := by
    rw [hg.block o (by omega) hne, h1.block o hlt]
    exact h.row
  refine ⟨cell_of_row w2 o 0 _ _ _ hr, frozen_of_row w2 o 0 _ _ hr, hr, ?_, heap_setCell_same w2 o 0 _ _ _ hr, ?_, ?_⟩
  · refine Gw.trans ⟨hg.os.trans h1.os, hg.tape.trans h1.tape, hg.output.trans h1.output, Nat.le_trans hs hg.size, fun k hk h0 hc => ?_⟩ (Gw.set o 0 w2 v')
    refine (hg.block k (by omega) fun e => ?_).trans (h1.block k hk)
    obtain ⟨g1, g2⟩ := h.byb e.symm
    rcases hc with hc | hc
    · omega
    · exact hc g2
  · show World.ownsRow _ (o + 1) 5 1 v' (l ++ x).length _
    rw [List.length_append, hm]
    exact ownsRow_setCell_below h2 (Nat.lt_succ_self o) _
  · rw [List.length_append]; omega
end
/-- What is too long, and what was written else. -/
def Lk (M : Nat) (s : OuS) (l : List Int) (q : Bool) : Prop := (q = true ∧ s.over M) ∨ (q = false ∧ ¬ s.over M ∧ l = s.b)
/-- The writer, by what the document's way has written. -/
def Pt (w : World) (o M : Nat) (s : OuS) : Prop := ∃ v l q, Pw w o M v l q ∧ Lk M s l q
def PtP (o M : Nat) (s : OuS) (w : World) (e : Ending) (w' : World) : Prop := e = .returned (.tuple #[]) ∧ Pt w' o M s ∧ Gw o w w'
theorem Pt.below {w w' : World} {o M : Nat} {s : OuS} (h : Pt w o M s) (hb : Below w.heap.size w w') : Pt w' o M s := by
  obtain ⟨v, l, q, h1, h2⟩ := h
  exact ⟨v, l, q, h1.below hb, h2⟩
theorem Pt.lt {w : World} {o M : Nat} {s : OuS} (h : Pt w o M s) : o < w.heap.size := by
  obtain ⟨v, l, q, h1, h2⟩ := h
  exact h1.lt
theorem PtP.then_ {o M : Nat} {s : OuS} {w w1 w' : World} {e : Ending} (h : Gw o w w1) (h' : PtP o M s w1 e w') : PtP o M s w e w' := ⟨h'.1, h'.2.1, h.trans h'.2.2⟩
/-! ### put -/
set_option maxHeartbeats 4000000 in
set_option maxRecDepth 100000 in
theorem pput_any {w : World} {o M : Nat} {s : OuS} (h : Pt w o M s) (hM : M ≤ 2097152) {A : Option Addr} {n c : Nat} {xs : List Int} (hr : Rd .u8 w A n xs) :
    Calls Try.prog 62 #[.pointer (some ⟨o, 0, none⟩), .slice A n c] w (PtP o M (s.put xs) w) := by
  obtain ⟨v, l, q, hw, hk⟩ := h
  obtain ⟨Av, cv, rfl, -⟩ := own_rd hw.own
  have HW := Lib.hid hw
  have HK := Lib.hid hk
  have HR := Lib.hid hr
  have c0 := hw.c0
  have c1 := hw.c1
  have c2 := hw.c2
  have f2 := hw.fz 2
  have lM := hw.len
  obtain ⟨L, hL⟩ : ∃ L, l.length = L := ⟨_, rfl⟩
  have HL := Lib.hid hL
  rw [hL] at c0 lM
  have wr1 : IntKind.i64.wrap ((M : Int) - (L : Int)) = (M : Int) - (L : Int) := by rw [IntWalk.i64_in _ (by omega)]
  clear hw hk hL hr
  rcases Nat.lt_or_ge M (L + n) with g | g
  · have e1 : decide ((M : Int) - (L : Int) < (n : Int)) = true := by simp; omega
    have HE := Lib.hid (show ∀ k, PtP o M (s.put xs) w (.returned (.tuple #[])) ((w.drewN k).setCell ⟨o, 2, none⟩ (.bool true)) from fun k =>
      ⟨rfl, ⟨_, l, true, (HW.out.drewN k).setQ true, .inl ⟨rfl, by
        rcases HK.out with ⟨k1, k2⟩ | ⟨k1, k2, k3⟩
        · exact OuS.over_put xs k2
        · refine .inr ?_
          show M < (s.b ++ xs).length
          have h9 := HR.out.len
          rw [← k3, List.length_append, HL.out]; omega⟩⟩, ((Gw.refl o w).drew k).trans (Gw.set o 2 _ _)⟩)
    go_enter Try.func62, Try.ntmps62
    go_wp2_with fail
    go_quiet (fail)
    have HE2 := Lib.hid (HE.out nq)
    obtain ⟨W, hW⟩ : ∃ W, w.drewN nq = W := ⟨_, rfl⟩
    have g2 : W.cell? ⟨o, 2, none⟩ = some (.bool q) := by rw [← hW]; exact (HW.out.drewN _).c2
    have g3 : W.frozen? ⟨o, 2, none⟩ = false := by rw [← hW]; exact (HW.out.drewN _).fz 2
    rw [hW] at HE2 ⊢
    clear hW c0 c1 c2 f2
    go_wp2_with fail
    refine bodyPost_ret (results_none rfl _ _ _) rfl ?_
    exact HE2.out
  · have e1 : decide ((M : Int) - (L : Int) < (n : Int)) = false := by simp; omega
    cases q with
    | true =>
      go_enter Try.func62, Try.ntmps62
      go_wp2_with fail
      go_quiet (fail)
      obtain ⟨W, hW⟩ : ∃ W, w.drewN nq = W := ⟨_, rfl⟩
      have W1 := Lib.hid (show Pw W o M (.slice Av l.length cv) l true by rw [← hW]; exact HW.out.drewN _)
      have B1 := Lib.hid (show Gw o w W by rw [← hW]; exact (Gw.refl o w).drew _)
      have g2 := W1.out.c2
      rw [hW]
      clear hW c0 c1 c2 f2
      go_wp2_with fail
      refine bodyPost_ret (results_none rfl _ _ _) rfl ?_
      refine ⟨rfl, ⟨_, l, true, W1.out, .inl ⟨rfl, ?_⟩⟩, B1.out⟩
      rcases HK.out with ⟨k1, k2⟩ | ⟨k1, -⟩
      · exact OuS.over_put xs k2
      · cases k1
    | false =>
      obtain ⟨hno, hls⟩ : ¬ s.over M ∧ l = s.b := by
        rcases HK.out with ⟨k1, k2⟩ | ⟨k1, k2, k3⟩
        · cases k1
        · exact ⟨k2, k3⟩
      have HNO := Lib.hid hno
      have HLS := Lib.hid hls
      clear hno hls
      go_enter Try.func62, Try.ntmps62
      go_wp2_with fail
      go_quiet (fail)
      obtain ⟨W, hW⟩ : ∃ W, w.drewN nq = W := ⟨_, rfl⟩
      have W1 := Lib.hid (show Pw W o M (.slice Av l.length cv) l false by rw [← hW]; exact HW.out.drewN _)
      have R1 := Lib.hid (show Rd .u8 W A n xs by rw [← hW]; exact HR.out.below (below_drewN (Below.refl _ _) _))
      have B1 := Lib.hid (show Gw o w W by rw [← hW]; exact (Gw.refl o w).drew _)
      have g2 := W1.out.c2
      have g0 : W.cell? ⟨o, 0, none⟩ = some (.slice Av L cv) := by have := W1.out.c0; rw [HL.out] at this; exact this
      have lt := W1.out.lt
      have OW := Lib.hid (show W.ownsRow (o + 1) 5 1 (.slice Av L cv) L (l.map (Value.int .u8)) by have h := W1.out.own; unfold Own8 at h; rw [HL.out] at h; exact h)
      rw [hW]
      clear hW c0 c1 c2 f2
      go_wp2_with (at_builtin; refine wpList_catK _ rfl (.tmp 29) (.tmp 30) 33 rfl (o + 1) 1 5 .u8 Try.underlying33 info8u (by omega) (.slice Av L cv) L l rfl OW.out A n _ xs rfl R1.out (by omega) (by omega) ?_)
      intro v' w2 hn hg
      have hown : w2.ownsRow (o + 1) 5 1 v' (L + n) ((l ++ xs).map (Value.int .u8)) := by simpa using hn
      obtain ⟨A2, c2, rfl, -⟩ := own_rd hown
      obtain ⟨y0, z0, r0, hb, ho⟩ := W1.out.app (x := xs) (m := L + n) (Below.refl _ _) (by rw [HL.out, HR.out.len]) (by omega) hown (by rw [show (Value.slice Av l.length cv).ownBlock = (Value.slice Av L cv).ownBlock by cases Av <;> rfl]; exact hg)
      have y1 : w2.cell? ⟨o, 0, none⟩ = some (.slice Av L cv) := by rw [HL.out] at y0; exact y0
      have HB := Lib.hid hb
      have HO2 := Lib.hid ho
      clear hn hown hg hb ho y0 r0 g0
      go_wp2_with fail
      refine bodyPost_ret (results_none rfl _ _ _) rfl ?_
      refine ⟨rfl, ⟨_, l ++ xs, false, HO2.out, .inr ⟨rfl, ?_, ?_⟩⟩, B1.out.trans HB.out⟩
      · rintro (k | k)
        · exact HNO.out (.inl k)
        · have k : M < (s.b ++ xs).length := k
          rw [← HLS.out, List.length_append, HL.out, HR.out.len] at k
          omega
      · show l ++ xs = s.b ++ xs
        rw [HLS.out]
end Go.Proofs.Ytcnekfpgoceblaa
/-
  The program's writer: what flag and count answer.
-/
namespace Go.Proofs.Ytcnekfpgoceblaa
open Go.RowKit
set_option linter.unusedVariables false
set_option maxRecDepth 100000 in
theorem or128 : ∀ a, a < 256 → a ||| 128 = a % 128 + 128 := by decide
/-- A digit of a count that others follow. -/
theorem or8_more {a : Nat} (h : a < 256) : bits .or .u8 (a : Int) 128 = ((a % 128 + 128 : Nat) : Int) := by
  have h1 : (BitVec.ofInt 8 (a : Int)).toNat = a := by
    rw [BitVec.ofInt_natCast, BitVec.toNat_ofNat]; exact Nat.mod_eq_of_lt (by omega)
  show IntKind.u8.wrap ((BitVec.ofInt 8 (a : Int) ||| BitVec.ofInt 8 128).toNat : Int) = _
  rw [BitVec.toNat_or, h1]
  have h2 : (BitVec.ofInt 8 128).toNat = 128 := rfl
  rw [h2, IntKind.wrap_u8]
  have h3 : a ||| 128 = a % 128 + 128 := or128 a h
  rw [h3]
  omega
/-! ### flag -/
set_option maxHeartbeats 1000000 in
theorem pflag_any {w : World} {o M : Nat} {s : OuS} (h : Pt w o M s) (hM : M ≤ 2097152) (q : Bool) :
    Calls Try.prog 41 #[.pointer (some ⟨o, 0, none⟩), .bool q] w (PtP o M (s.tru q) w) := by
  have HP := Lib.hid h
  have lt := h.lt
  clear h
  cases q with
  | true =>
    go_enter Try.func41, Try.ntmps41
    go_wp2_with fail
    refine (pput_any (HP.out.below ((Below.refl _ _).alloc (Nat.le_refl _) _)) hM (A := some ⟨w.heap.size, 0, none⟩) (n := 1) (c := 1) (xs := [1]) (rd_one _ (cell_one _ _ _) (by simp))).mono ?_
    rintro e w1 ⟨rfl, h1, b1⟩
    have H1 := Lib.hid h1
    have B1 := Lib.hid b1
    clear h1 b1
    go_wp2_with fail
    refine bodyPost_ret (results_none rfl _ _ _) rfl ?_
    exact ⟨rfl, H1.out, ((Gw.refl o w).alloc _).trans B1.out⟩
  | false =>
    go_enter Try.func41, Try.ntmps41
    go_wp2_with fail
    refine (pput_any (HP.out.below ((Below.refl _ _).alloc (Nat.le_refl _) _)) hM (A := some ⟨w.heap.size, 0, none⟩) (n := 1) (c := 1) (xs := [0]) (rd_one _ (cell_one _ _ _) (by simp))).mono ?_
    rintro e w1 ⟨rfl, h1, b1⟩
    have H1 := Lib.hid h1
    have B1 := Lib.hid b1
    clear h1 b1
    go_wp2_with fail
    refine bodyPost_ret (results_none rfl _ _ _) rfl ?_
    exact ⟨rfl, H1.out, ((Gw.refl o w).alloc _).trans B1.out⟩
/-! ### count -/
def PcR (s : OuS) (m o M : Nat) (w : World) (i : Value) (wr : World) : Prop :=
  ∃ (k : Nat) (pre : List Int), i = .int .u64 k ∧ k ≤ m ∧ cntE m = pre ++ cntE k ∧ Pt wr o M (s.put pre) ∧ Gw o w wr
theorem OuS.put_nil (s : OuS) : s.put [] = s := by unfold OuS.put; rw [List.append_nil]
set_option maxHeartbeats 4000000 in
theorem pcnt_any {w : World} {o M : Nat} {s : OuS} (h : Pt w o M s) (hM : M ≤ 2097152) {m : Nat} (hm : m < 18446744073709551616) :
    Calls Try.prog 40 #[.pointer (some ⟨o, 0, none⟩), .int .u64 m] w (PtP o M (s.put (cntE m)) w) := by
  have HP := Lib.hid h
  clear h
  go_enter Try.func40, Try.ntmps40
  go_wp2_with fail
  go_loopw [1] (fun i wr => PcR s m o M w i wr) (fun i _ => (intOf i).toNat)
  case atStart => exact ⟨m, [], rfl, Nat.le_refl _, rfl, by rw [OuS.put_nil]; exact HP.out, Gw.refl _ _⟩
  case round =>
    obtain ⟨k, pre, rfl, hk, hpre, hot, hb⟩ := hrel
    have HOT := Lib.hid hot
    have HB := Lib.hid hb
    have HPRE := Lib.hid hpre
    have lt := hot.lt
    clear hot hb hpre
    rcases Nat.lt_or_ge k 128 with g | g
    · have e1 : decide ((128 : Int) ≤ (k : Int)) = false := by simp; omega
      have e2 : IntKind.u8.wrap (k : Int) = (k : Int) := by rw [IntKind.wrap_u8]; omega
      go_wp2_with fail
      refine (pput_any (HOT.out.below ((Below.refl _ _).alloc (Nat.le_refl _) _)) hM (A := some ⟨wr.heap.size, 0, none⟩) (n := 1) (c := 1) (xs := [(k : Int)]) (rd_one _ (cell_one _ _ _) (by simp))).mono ?_
      rintro e w1 ⟨rfl, h1, b1⟩
      have H1 := Lib.hid h1
      have B1 := Lib.hid b1
      clear h1 b1
      go_wp2_with fail
      refine bodyPost_ret (results_none rfl _ _ _) rfl ?_
      refine ⟨rfl, ?_, HB.out.trans (((Gw.refl o wr).alloc _).trans B1.out)⟩
      have h := H1.out
      rw [OuS.put_put, ← cntE_lt g, ← HPRE.out] at h
      exact h
    · have e1 : decide ((128 : Int) ≤ (k : Int)) = true := by simp; omega
      have e2 : bits .or .u8 ((k : Int) % 256) 128 = ((k % 128 + 128 : Nat) : Int) := by
        have : (k : Int) % 256 = ((k % 256 : Nat) : Int) := by omega
        rw [this, or8_more (by omega)]
        omega
      obtain ⟨y, hy⟩ : ∃ y, k % 128 + 128 = y := ⟨_, rfl⟩
      have HY := Lib.hid hy
      rw [hy] at e2
      clear hy
      go_wp2_with fail
      refine (pput_any (HOT.out.below ((Below.refl _ _).alloc (Nat.le_refl _) _)) hM (A := some ⟨wr.heap.size, 0, none⟩) (n := 1) (c := 1) (xs := [(y : Int)]) (rd_one _ (cell_one _ _ _) (by simp))).mono ?_
      rintro e w1 ⟨rfl, h1, b1⟩
      have H1 := Lib.hid h1
      have B1 := Lib.hid b1
      clear h1 b1
      go_wp2_with fail
      go_roundw
      case rel =>
        refine ⟨k / 128, pre ++ [(y : Int)], by go_num, by omega, ?_, by have h := H1.out; rw [OuS.put_put] at h; exact h, HB.out.trans (((Gw.refl o wr).alloc _).trans B1.out)⟩
        rw [HPRE.out, cntE_ge g, HY.out, List.append_assoc]; rfl
      case measure => simp [intOf]; omega
end Go.Proofs.Ytcnekfpgoceblaa
/-
  The program's writer: what limbs, number, text and numbers answer.
-/
namespace Go.Proofs.Ytcnekfpgoceblaa
open Go.RowKit
set_option linter.unusedVariables false
/-! ### limbs -/
set_option maxHeartbeats 400000 in
theorem wlimbs_any (A : Option Addr) (n c : Nat) (xs : List Int) (w : World) (h : Rd .u64 w A n xs) (hd : Dig W xs) (hnc : n ≤ c) (hc : n ≤ 17592186044416) :
    Calls Try.prog 78 #[.slice A n c] w fun e w' => e = .returned (.slice A (nl xs) c) ∧ w = w' := by
  go_enter Try.func78, Try.ntmps78
  go_wp2
  go_loop [3] (fun t => LimR xs n t) (fun t => (intOf t).toNat)
  case atStart => exact ⟨n, Nat.le_refl _, fun j h1 h2 => by omega, rfl⟩
  case round =>
    obtain ⟨k, hk, hz, rfl⟩ := hrel
    have HZ := Lib.hid hz
    clear hz
    rcases Nat.eq_zero_or_pos k with h0 | h0
    · subst h0
      go_wp2
      go_ret
      exact ⟨by rw [← limbs_end h hd hk HZ.out (fun h => absurd h (by omega))]; rfl, rfl⟩
    · obtain ⟨m, rfl⟩ : ∃ m, k = m + 1 := ⟨k - 1, by omega⟩
      obtain ⟨b, off, x, rfl, hb, hx, hcell⟩ := h.at_ (j := m) (by omega)
      have HX := Lib.hid hx
      clear hx
      by_cases hx0 : x = 0
      · subst hx0
        go_wp2
        go_round
        case rel =>
          refine ⟨m, by omega, fun j h1 h2 => ?_, by go_num⟩
          rcases Nat.lt_or_ge m j with h3 | h3
          · exact HZ.out j (by omega) h2
          · obtain rfl : j = m := by omega
            rw [List.getD_eq_getElem?_getD, HX.out]; rfl
        case measure => simp [intOf]
      · have hx1 : ((x : Int) == 0) = false := by simpa using hx0
        go_wp2
        go_ret
        exact ⟨by rw [← limbs_end h hd hk HZ.out (fun _ => by rw [Nat.add_sub_cancel, List.getD_eq_getElem?_getD, HX.out]; exact hx0)]; rfl, rfl⟩
theorem wlimbs_nm {A : Option Addr} {n c : Nat} {N : Int} {w : World} (h : Nm w A n c N) :
    Calls Try.prog 78 #[.slice A n c] w fun e w' => e = .returned (.slice A (dl N) c) ∧ w = w' := by
  obtain ⟨⟨xs, h1, h2, h3⟩, h4, h5, h6⟩ := h
  refine (wlimbs_any A n c xs w h1 h2 h4 h5).mono fun e w' ⟨he, hw⟩ => ⟨?_, hw⟩
  subst h3
  exact he
/-- What lies below a block stays. -/
theorem Rd.oldP {k : IntKind} {w w' : World} {A : Option Addr} {n B : Nat} {xs : List Int} (h : Rd k w A n xs) (hb : Below B w w') (hA : ∀ a, A = some a → 0 < n → a.block < B) : Rd k w' A n xs :=
  ⟨h.len, fun hn => by
    obtain ⟨b, off, e, hlt, hc⟩ := h.cells hn
    exact ⟨b, off, e, Nat.lt_of_lt_of_le hlt hb.size, fun j x hj => (World.cell?_of_block (hb.block b (hA _ e hn))).trans (hc j x hj)⟩⟩
theorem Nm.oldP {w w' : World} {A : Option Addr} {n c B : Nat} {N : Int} (h : Nm w A n c N) (hb : Below B w w') (hA : ∀ a, A = some a → 0 < n → a.block < B) : Nm w' A n c N := by
  obtain ⟨xs, h1, h2, h3⟩ := h.ex
  exact ⟨⟨xs, h1.oldP hb hA, h2, h3⟩, h.nc, h.c60, h.pos⟩
/-! ### number -/
def PnR (s : OuS) (N : Int) (o M : Nat) (w : World) (x i k : Value) (wq : World) : Prop :=
  ∃ (j : Nat), i = .int .i64 j ∧ j ≤ dl N ∧ Pt wq o M ((s.put (cntE (dl N))).put (((dg W N).take j).flatMap limE)) ∧ Gw o w wq
def PiR (S : OuS) (X : Int) (o M : Nat) (w : World) (x k : Value) (wq : World) : Prop :=
  ∃ (q : Nat), k = .int .i64 q ∧ q ≤ 8 ∧ x = .int .u64 (X / 256 ^ q) ∧ Pt wq o M (S.put ((limE X).take q)) ∧ Gw o w wq
theorem limE_snocP (X : Int) {q : Nat} (h : q < 8) : (limE X).take (q + 1) = (limE X).take q ++ [X / 256 ^ q % 256] := by
  rw [List.take_succ_eq_append_getElem (by rw [limE_len]; exact h)]
  congr 2
  have := limE_at X h
  unfold dig at this
  rw [List.getD_eq_getElem?_getD, List.getElem?_eq_getElem (by rw [limE_len]; exact h)] at this
  exact this
theorem limE_allP (X : Int) : (limE X).take 8 = limE X := List.take_of_length_le (by rw [limE_len]; decide)
theorem take_snocP {l : List Int} {j : Nat} (h : j < l.length) : (l.take (j + 1)).flatMap limE = (l.take j).flatMap limE ++ limE (dig l j) := by
  rw [List.take_succ_eq_append_getElem h, List.flatMap_append]
  congr 1
  rw [List.flatMap_cons, List.flatMap_nil, List.append_nil]
  congr 1
  unfold dig
  rw [List.getD_eq_getElem?_getD, List.getElem?_eq_getElem h]; rfl
set_option maxHeartbeats 8000000 in
set_option maxRecDepth 100000 in
theorem pnum_any {w : World} {o M : Nat} {s : OuS} (h : Pt w o M s) (hM : M ≤ 2097152) {A : Option Addr} {n c : Nat} {N : Int} (hN : Nm w A n c N) (hA : ∀ a, A = some a → 0 < n → a.block < o) :
    Calls Try.prog 66 #[.pointer (some ⟨o, 0, none⟩), .slice A n c] w (PtP o M (s.num N) w) := by
  have HO := Lib.hid h
  have HN := Lib.hid hN
  have HA := Lib.hid hA
  have hlt := h.lt
  obtain ⟨d, hd⟩ : ∃ d, dl N = d := ⟨_, rfl⟩
  have HD := Lib.hid hd
  have d60 : d ≤ 17592186044416 := by have := hN.dl_le; have := hN.c60; omega
  have dn := hN.dl_le
  have nc := hN.nc
  rw [hd] at dn
  clear h hN hA hd
  go_enter Try.func66, Try.ntmps66
  go_wp2_with fail
  refine (wlimbs_nm HN.out).mono ?_
  rintro e w1 ⟨rfl, rfl⟩
  rw [HD.out]
  rcases Nat.lt_or_ge 64 d with g | g
  · have e1 : decide ((64 : Int) < (d : Int)) = true := by simp; omega
    have E := Lib.hid (show s.num N = s.fail 2 by unfold OuS.num; rw [if_pos (by rw [HD.out]; exact g)])
    obtain ⟨v, l, q, hw, -⟩ := HO.out
    have HW := Lib.hid hw
    have c2 := hw.c2
    have f2 := hw.fz 2
    clear hw
    go_wp2_with fail
    refine bodyPost_ret (results_none rfl _ _ _) rfl ?_
    exact ⟨rfl, by rw [E.out]; exact ⟨v, l, true, HW.out.setQ true, .inl ⟨rfl, OuS.fail_over M (by decide)⟩⟩, Gw.set o 2 _ _⟩
  have e1 : decide ((64 : Int) < (d : Int)) = false := by simp; omega
  have e3 : IntKind.u64.wrap (d : Int) = (d : Int) := by rw [IntKind.wrap_u64]; omega
  have E := Lib.hid (show s.num N = (s.put (cntE d)).put ((dg W N).flatMap limE) by
    unfold OuS.num
    rw [if_neg (by rw [HD.out]; omega), OuS.put_put]
    unfold OuS.numE
    rw [HD.out])
  go_wp2_with fail
  clear e1
  refine (pcnt_any HO.out hM (m := d) (by omega)).mono ?_
  rintro e w1 ⟨rfl, o1, b1⟩
  have O1 := Lib.hid o1
  have B1 := Lib.hid b1
  clear o1 b1 e3
  go_wp2_with fail
  go_loopw [6, 22, 26] (fun x i k wr => PnR s N o M w x i k wr) (fun _ i _ _ => d - (intOf i).toNat)
  case atStart => exact ⟨0, rfl, Nat.zero_le _, by rw [HD.out]; show Pt w1 o M (OuS.put _ []); rw [OuS.put_nil]; exact O1.out, B1.out⟩
  case round =>
    obtain ⟨j, rfl, hj, hot, hb⟩ := hrel
    rw [HD.out] at hj hot
    have HOT := Lib.hid hot
    have HB := Lib.hid hb
    clear hot hb
    rcases Nat.lt_or_ge j d with hlt2 | hge
    · have hji : (j : Int) < (d : Int) := by omega
      have hnm := HN.out.oldP (HB.out.below hlt) HA.out
      obtain ⟨xs, h1, h2, h3⟩ := hnm.ex
      have hx := strip_ex W_two h2
      rw [h3] at hx
      obtain ⟨b, off, X, rfl, hbb, hX, hcell⟩ := h1.at_ (j := j) (by omega)
      have hXd := dig_lt hX
      have HXD := Lib.hid (show dig (dg W N) j = X by
        rw [hx]
        show ((xs.take (dl N))).getD j 0 = X
        rw [HD.out, List.getD_eq_getElem?_getD, List.getElem?_take_of_lt hlt2]
        unfold dig at hXd
        rw [List.getD_eq_getElem?_getD] at hXd
        exact hXd)
      have xb := dig_W h2 j
      rw [hXd] at xb
      have XB := Lib.hid xb
      clear hnm h1 h2 h3 hx hX hXd xb
      obtain ⟨S, hS⟩ : ∃ S, (s.put (cntE d)).put (((dg W N).take j).flatMap limE) = S := ⟨_, rfl⟩
      have HS := Lib.hid hS
      rw [hS] at HOT
      clear hS
      obtain ⟨wl, hwl⟩ : ∃ wl, wl = wr := ⟨_, rfl⟩
      subst hwl
      go_wp2_with fail
      go_loopw [6, 26] (fun x k wr => PiR S X o M w x k wr) (fun _ k _ => 8 - (intOf k).toNat)
      case atStart => exact ⟨0, rfl, by decide, by simp, by show Pt wl o M (OuS.put _ []); rw [OuS.put_nil]; exact HOT.out, HB.out⟩
      case round =>
        obtain ⟨q, rfl, hq, rfl, hot2, hb2⟩ := hrel
        have HOT2 := Lib.hid hot2
        have HB2 := Lib.hid hb2
        have lt := hot2.lt
        clear hot2 hb2
        obtain ⟨z, hz⟩ : ∃ z, X / 256 ^ q = z := ⟨_, rfl⟩
        have HZ := Lib.hid hz
        have z0 : 0 ≤ z := by rw [← hz]; exact Int.ediv_nonneg XB.out.1 (Int.le_of_lt (Int.pow_pos (by decide)))
        have z1 : z < 18446744073709551616 := by
          rw [← hz]
          have := Int.ediv_le_self (256 ^ q) XB.out.1
          have := XB.out.2
          omega
        rw [hz]
        rcases Nat.lt_or_ge q 8 with g8 | g8
        · have hqi : (q : Int) < 8 := by omega
          have t3 : IntKind.u8.wrap z = z % 256 := by rw [IntKind.wrap_u8]
          clear hz
          go_wp2_with fail
          refine (pput_any (HOT2.out.below ((Below.refl _ _).alloc (Nat.le_refl _) _)) hM (A := some ⟨wr.heap.size, 0, none⟩) (n := 1) (c := 1) (xs := [z % 256]) (rd_one _ (cell_one _ _ _) (by simp))).mono ?_
          rintro e w2 ⟨rfl, h1, b1⟩
          have H1 := Lib.hid h1
          have B2 := Lib.hid b1
          clear h1 b1
          go_wp2_with fail
          go_roundw
          case rel =>
            refine ⟨q + 1, by go_num, by omega, ?_, by have h := H1.out; rw [OuS.put_put, ← HZ.out, ← limE_snocP X g8] at h; exact h, HB2.out.trans (((Gw.refl o wr).alloc _).trans B2.out)⟩
            rw [← HZ.out, Int.pow_succ, Int.ediv_ediv_of_nonneg (Int.le_of_lt (Int.pow_pos (by decide)))]
          case measure => simp [intOf]; omega
        · obtain rfl : q = 8 := by omega
          clear hz
          go_wp2_with fail
          go_roundw
          case rel =>
            refine ⟨j + 1, by go_num, by rw [HD.out]; omega, ?_, HB2.out⟩
            have h := HOT2.out
            rw [limE_allP, ← HS.out, OuS.put_put] at h
            rw [take_snocP (by rw [show (dg W N).length = d from HD.out]; exact hlt2), HXD.out, HD.out]
            exact h
          case measure => simp [intOf]; omega
    · obtain rfl : j = d := by omega
      have hji : decide ((j : Int) < (j : Int)) = false := by simp
      go_wp2_with fail
      refine bodyPost_ret (results_none rfl _ _ _) rfl ?_
      refine ⟨rfl, ?_, HB.out⟩
      have h := HOT.out
      rw [List.take_of_length_le (by rw [show (dg W N).length = j from HD.out]; exact Nat.le_refl _), ← E.out] at h
      exact h
/-! ### text -/
set_option maxHeartbeats 1000000 in
theorem ptxt_any {w : World} {o M : Nat} {s : OuS} (h : Pt w o M s) (hM : M ≤ 2097152) {A : Option Addr} {n c : Nat} {xs : List Int} (hr : Rd .u8 w A n xs) (hn : n ≤ 4611686018427387904) (hA : ∀ a, A = some a → 0 < n → a.block < o) :
    Calls Try.prog 48 #[.pointer (some ⟨o, 0, none⟩), .slice A n c] w (PtP o M ((s.put (cntE n)).put xs) w) := by
  have HO := Lib.hid h
  have HR := Lib.hid hr
  have HA := Lib.hid hA
  have hlt := h.lt
  have e3 : IntKind.u64.wrap (n : Int) = (n : Int) := by rw [IntKind.wrap_u64]; omega
  clear h hr hA
  go_enter Try.func48, Try.ntmps48
  go_wp2_with fail
  refine (pcnt_any HO.out hM (m := n) (by omega)).mono ?_
  rintro e w1 ⟨rfl, o1, b1⟩
  have O1 := Lib.hid o1
  have B1 := Lib.hid b1
  have R1 := Lib.hid (HR.out.oldP (b1.below hlt) HA.out)
  clear o1 b1 e3
  go_wp2_with fail
  refine (pput_any O1.out hM R1.out).mono ?_
  rintro e w2 ⟨rfl, o2, b2⟩
  have O2 := Lib.hid o2
  have B2 := Lib.hid b2
  clear o2 b2
  go_wp2_with fail
  refine bodyPost_ret (results_none rfl _ _ _) rfl ?_
  exact ⟨rfl, O2.out, B1.out.trans B2.out⟩
end Go.Proofs.Ytcnekfpgoceblaa
/-
  The program's writer: what numbers and writeList answer. By program: genpw3.py.
-/
namespace Go.Proofs.Ytcnekfpgoceblaa
open Go.RowKit
set_option linter.unusedVariables false
/-- What stays too long. -/
theorem over_fold {M : Nat} {f : OuS → Nat → OuS} (hf : ∀ s i, s.over M → (f s i).over M) (s : OuS) {j n : Nat} (h : j ≤ n) (ho : ((List.range j).foldl f s).over M) : ((List.range n).foldl f s).over M := by
  induction n with
  | zero =>
    obtain rfl : j = 0 := by omega
    exact ho
  | succ n ih =>
    rcases Nat.lt_or_ge n j with g | g
    · obtain rfl : j = n + 1 := by omega
      exact ho
    · rw [List.range_succ, List.foldl_append]
      exact hf _ _ (ih g)
theorem fold_succ (f : OuS → Nat → OuS) (s : OuS) (n : Nat) : (List.range (n + 1)).foldl f s = f ((List.range n).foldl f s) n := by rw [List.range_succ, List.foldl_append]; rfl
theorem Nm.inW {w0 : World} {A : Option Addr} {n c : Nat} {N : Int} (h : Nm w0 A n c N) : ∀ a, A = some a → 0 < n → a.block < w0.heap.size := fun a ha hn => by
  obtain ⟨xs, h1, -, -⟩ := h.ex
  obtain ⟨b, off, e, hb, -⟩ := h1.cells hn
  rw [e] at ha; injection ha with ha; subst ha; exact hb
/-! ### numbers -/
def PmR (S : Nat → Nsl) (s : OuS) (n o M : Nat) (w : World) (i : Value) (wr : World) : Prop :=
  ∃ (j : Nat), i = .int .i64 j ∧ j ≤ n ∧ Pt wr o M ((List.range j).foldl (fun s i => s.num (S i).N) s) ∧ Gw o w wr
set_option maxHeartbeats 2000000 in
set_option maxRecDepth 100000 in
theorem pnums_any {w0 w : World} {o M : Nat} {s : OuS} (h : Pt w o M s) (hM : M ≤ 2097152) (h0 : w0.heap.size ≤ o) (hb : Below w0.heap.size w0 w) {g n c : Nat} {S : Nat → Nsl} (hn : n ≤ 1000) (hg : g < w.heap.size) (hgo : g ≠ o) (hgb : ¬ ByB w g)
    (hc : ∀ i, i < n → w.cell? ⟨g, i, none⟩ = some (.slice (S i).A (S i).n (S i).c)) (hS : ∀ i, i < n → Nm w0 (S i).A (S i).n (S i).c (S i).N) :
    Calls Try.prog 44 #[.pointer (some ⟨o, 0, none⟩), .slice (some ⟨g, 0, none⟩) n c] w (PtP o M ((List.range n).foldl (fun s i => s.num (S i).N) s) w) := by
  have HO := Lib.hid h
  have HS := Lib.hid hS
  have HC := Lib.hid hc
  have HB0 := Lib.hid hb
  have HG := Lib.hid hgb
  have lt := h.lt
  clear h hS hc hb hgb
  go_enter Try.func44, Try.ntmps44
  go_wp2_with fail
  go_loopw [8] (fun i wr => PmR S s n o M w i wr) (fun i _ => n - (intOf i).toNat)
  case atStart => exact ⟨0, rfl, Nat.zero_le _, HO.out, Gw.refl _ _⟩
  case round =>
    obtain ⟨j, rfl, hj, hot, hbb⟩ := hrel
    have HOT := Lib.hid hot
    have HB := Lib.hid hbb
    clear hot hbb
    rcases Nat.lt_or_ge j n with hlt | hge
    · have hji : (j : Int) < (n : Int) := by omega
      have hcj := ((HB.out.cell (p := ⟨g, j, none⟩) hg hgo HG.out)).trans (HC.out j hlt)
      go_wp2_with fail
      refine (pnum_any HOT.out hM ((HS.out j hlt).below (HB0.out.trans ((HB.out.below lt).mono h0))) (fun a ha hn => Nat.lt_of_lt_of_le ((HS.out j hlt).inW a ha hn) h0)).mono ?_
      rintro e w1 ⟨rfl, o1, b1⟩
      have O1 := Lib.hid o1
      have B1 := Lib.hid b1
      clear o1 b1
      go_wp2_with fail
      go_roundw
      case rel => exact ⟨j + 1, by go_num, by omega, by rw [fold_succ]; exact O1.out, HB.out.trans B1.out⟩
      case measure => simp [intOf]; omega
    · obtain rfl : j = n := by omega
      have hji : decide ((j : Int) < (j : Int)) = false := by simp
      go_wp2_with fail
      refine bodyPost_ret (results_none rfl _ _ _) rfl ?_
      exact ⟨rfl, HOT.out, HB.out⟩
/-! ### writeList -/
def WlR (f : OuS → Nat → OuS) (s : OuS) (n o M : Nat) (w0 w : World) (K : World → Prop) (i : Value) (wr : World) : Prop :=
  ∃ (j : Nat), i = .int .i64 j ∧ j ≤ n ∧ Pt wr o M ((List.range j).foldl f s) ∧ Gw o w wr ∧ K wr ∧ Below w0.heap.size w0 wr
set_option maxHeartbeats 4000000 in
set_option maxRecDepth 100000 in
theorem wl_pair {w0 w : World} {o M : Nat} {s : OuS} {K : World → Prop} (hK : ∀ W W', K W → Gw o W W' → K W') {k : Nat} {c1 : Value} (hent : ∀ (xs : Array Value) (W : World), (callFunc k xs).run Try.prog W = .ok (.enter k xs) W)
    {f : OuS → Nat → OuS} (hf : ∀ s i, s.over M → (f s i).over M) {A : Option Addr} {n c : Nat} {S : Nat → Stp}
    (hF : ∀ i, i < n → ∀ (W : World) (s : OuS), Below w0.heap.size w0 W → Pt W o M s → K W → Calls Try.prog k #[.agg #[.slice (S i).A1 (S i).n1 (S i).c1, .slice (S i).A2 (S i).n2 (S i).c2, .slice (S i).A3 (S i).n3 (S i).c3], c1] W (PtP o M (f s i) W))
    (h : Pt w o M s) (hM : M ≤ 2097152) (h0 : w0.heap.size ≤ o) (hb : Below w0.heap.size w0 w) (hk : K w) (hn : n ≤ 17592186044416)
    (ex : 0 < n → ∃ b off, A = some ⟨b, off, none⟩ ∧ b < w0.heap.size ∧ ∀ i, i < n → Cells w0 b (off + i * 3) (S i)) :
    Calls Try.prog 65 #[.pointer (some ⟨o, 0, none⟩), .slice A n c, .func (.func k) #[] #[c1]] w (PtP o M ((List.range n).foldl f (s.put (cntE n))) w) := by
  have HO := Lib.hid h
  have HF := Lib.hid hF
  have HK := Lib.hid hK
  have HK0 := Lib.hid hk
  have HB0 := Lib.hid hb
  have EX := Lib.hid ex
  have HFO := Lib.hid hf
  have lt := h.lt
  have e3 : IntKind.u64.wrap (n : Int) = (n : Int) := by rw [IntKind.wrap_u64]; omega
  clear h hF hK hk hb ex hf
  go_enter Try.func65, Try.ntmps65
  go_wp2_with fail
  refine (pcnt_any HO.out hM (m := n) (by omega)).mono ?_
  rintro e w1 ⟨rfl, o1, b1⟩
  have O1 := Lib.hid o1
  have B1 := Lib.hid b1
  clear o1 b1 e3
  go_wp2_with fail
  go_loopw [15] (fun i wr => WlR f (s.put (cntE n)) n o M w0 w K i wr) (fun i _ => n - (intOf i).toNat)
  case atStart => exact ⟨0, rfl, Nat.zero_le _, O1.out, B1.out, HK.out _ _ HK0.out B1.out, HB0.out.trans ((B1.out.below lt).mono h0)⟩
  case round =>
    obtain ⟨j, rfl, hj, hot, hbb, hkk, hb0⟩ := hrel
    have HOT := Lib.hid hot
    have HB := Lib.hid hbb
    have HKK := Lib.hid hkk
    have HBW := Lib.hid hb0
    clear hot hbb hkk hb0
    rcases Nat.lt_or_ge j n with hlt | hge
    · have hji : (j : Int) < (n : Int) := by omega
      obtain ⟨b, off, rfl, hbl, hx⟩ := EX.out (by omega)
      have x0 := (HBW.out.cell (p := ⟨b, off + j * 3, none⟩) hbl).trans (hx j hlt).c0
      have x1 := (HBW.out.cell (p := ⟨b, off + j * 3 + 1, none⟩) hbl).trans (hx j hlt).c1
      have x2 := (HBW.out.cell (p := ⟨b, off + j * 3 + 2, none⟩) hbl).trans (hx j hlt).c2
      clear hx
      obtain ⟨v, l, q, hw, hl⟩ := HOT.out
      have HL := Lib.hid hl
      have HGW := Lib.hid (show Gw o wr (wr.alloc (.cells #[.slice (S j).A1 (S j).n1 (S j).c1, .slice (S j).A2 (S j).n2 (S j).c2, .slice (S j).A3 (S j).n3 (S j).c3] 74)) from (Gw.refl _ _).alloc _)
      have HPW := Lib.hid (show Pt (wr.alloc (.cells #[.slice (S j).A1 (S j).n1 (S j).c1, .slice (S j).A2 (S j).n2 (S j).c2, .slice (S j).A3 (S j).n3 (S j).c3] 74)) o M ((List.range j).foldl f (s.put (cntE n))) from HOT.out.below ((Below.refl _ _).alloc (Nat.le_refl _) _))
      have HBX := Lib.hid (show Below w0.heap.size w0 (wr.alloc (.cells #[.slice (S j).A1 (S j).n1 (S j).c1, .slice (S j).A2 (S j).n2 (S j).c2, .slice (S j).A3 (S j).n3 (S j).c3] 74)) from HBW.out.trans ((HGW.out.below (Pt.lt HOT.out)).mono h0))
      have c2 : (wr.alloc (.cells #[.slice (S j).A1 (S j).n1 (S j).c1, .slice (S j).A2 (S j).n2 (S j).c2, .slice (S j).A3 (S j).n3 (S j).c3] 74)).cell? ⟨o, 2, none⟩ = some (.bool q) := (hw.below ((Below.refl _ _).alloc (Nat.le_refl _) _)).c2
      clear hw hl
      cases q with
      | true =>
        go_wp2_with fail
        refine bodyPost_ret (results_none rfl _ _ _) rfl ?_
        refine ⟨rfl, ?_, HB.out.trans HGW.out⟩
        obtain ⟨v2, l2, q2, hw2, hl2⟩ := HPW.out
        have ov : ((List.range j).foldl f (s.put (cntE n))).over M := by
          rcases HL.out with ⟨-, k2⟩ | ⟨k1, -⟩
          · exact k2
          · cases k1
        have e2 : q2 = true := by
          rcases hl2 with ⟨k1, -⟩ | ⟨-, k2, -⟩
          · exact k1
          · exact absurd ov k2
        subst e2
        exact ⟨v2, l2, true, hw2, .inl ⟨rfl, over_fold HFO.out _ (Nat.le_of_lt hlt) ov⟩⟩
      | false =>
        go_wp2_with fail
        refine (HF.out j hlt (wr.alloc (.cells #[.slice (S j).A1 (S j).n1 (S j).c1, .slice (S j).A2 (S j).n2 (S j).c2, .slice (S j).A3 (S j).n3 (S j).c3] 74)) _ HBX.out HPW.out (HK.out _ _ HKK.out HGW.out)).mono ?_
        rintro e w2 ⟨rfl, o2, b2⟩
        have O2 := Lib.hid o2
        have B2 := Lib.hid b2
        clear o2 b2
        go_wp2_with fail
        go_roundw
        case rel => exact ⟨j + 1, by go_num, by omega, by rw [fold_succ]; exact O2.out, HB.out.trans (HGW.out.trans B2.out), HK.out _ _ HKK.out (HGW.out.trans B2.out), HBX.out.trans ((B2.out.below (Pt.lt HPW.out)).mono h0)⟩
        case measure => simp [intOf]; omega
    · obtain rfl : j = n := by omega
      have hji : decide ((j : Int) < (j : Int)) = false := by simp
      go_wp2_with fail
      refine bodyPost_ret (results_none rfl _ _ _) rfl ?_
      exact ⟨rfl, HOT.out, HB.out⟩
set_option maxHeartbeats 4000000 in
set_option maxRecDepth 100000 in
theorem wl_proof {w0 w : World} {o M : Nat} {s : OuS} {K : World → Prop} (hK : ∀ W W', K W → Gw o W W' → K W') {k : Nat} {c1 : Value} (hent : ∀ (xs : Array Value) (W : World), (callFunc k xs).run Try.prog W = .ok (.enter k xs) W)
    {f : OuS → Nat → OuS} (hf : ∀ s i, s.over M → (f s i).over M) {A : Option Addr} {n c : Nat} {S : Nat → Pf2}
    (hF : ∀ i, i < n → ∀ (W : World) (s : OuS), Below w0.heap.size w0 W → Pt W o M s → K W → Calls Try.prog k #[.agg #[.slice (S i).A1 (S i).n1 (S i).c1, .slice (S i).A2 (S i).n2 (S i).c2], c1] W (PtP o M (f s i) W))
    (h : Pt w o M s) (hM : M ≤ 2097152) (h0 : w0.heap.size ≤ o) (hb : Below w0.heap.size w0 w) (hk : K w) (hn : n ≤ 17592186044416)
    (ex : 0 < n → ∃ b off, A = some ⟨b, off, none⟩ ∧ b < w0.heap.size ∧ ∀ i, i < n → w0.cell? ⟨b, off + i * 2, none⟩ = some (.slice (S i).A1 (S i).n1 (S i).c1) ∧ w0.cell? ⟨b, off + i * 2 + 1, none⟩ = some (.slice (S i).A2 (S i).n2 (S i).c2)) :
    Calls Try.prog 69 #[.pointer (some ⟨o, 0, none⟩), .slice A n c, .func (.func k) #[] #[c1]] w (PtP o M ((List.range n).foldl f (s.put (cntE n))) w) := by
  have HO := Lib.hid h
  have HF := Lib.hid hF
  have HK := Lib.hid hK
  have HK0 := Lib.hid hk
  have HB0 := Lib.hid hb
  have EX := Lib.hid ex
  have HFO := Lib.hid hf
  have lt := h.lt
  have e3 : IntKind.u64.wrap (n : Int) = (n : Int) := by rw [IntKind.wrap_u64]; omega
  clear h hF hK hk hb ex hf
  go_enter Try.func69, Try.ntmps69
  go_wp2_with fail
  refine (pcnt_any HO.out hM (m := n) (by omega)).mono ?_
  rintro e w1 ⟨rfl, o1, b1⟩
  have O1 := Lib.hid o1
  have B1 := Lib.hid b1
  clear o1 b1 e3
  go_wp2_with fail
  go_loopw [15] (fun i wr => WlR f (s.put (cntE n)) n o M w0 w K i wr) (fun i _ => n - (intOf i).toNat)
  case atStart => exact ⟨0, rfl, Nat.zero_le _, O1.out, B1.out, HK.out _ _ HK0.out B1.out, HB0.out.trans ((B1.out.below lt).mono h0)⟩
  case round =>
    obtain ⟨j, rfl, hj, hot, hbb, hkk, hb0⟩ := hrel
    have HOT := Lib.hid hot
    have HB := Lib.hid hbb
    have HKK := Lib.hid hkk
    have HBW := Lib.hid hb0
    clear hot hbb hkk hb0
    rcases Nat.lt_or_ge j n with hlt | hge
    · have hji : (j : Int) < (n : Int) := by omega
      obtain ⟨b, off, rfl, hbl, hx⟩ := EX.out (by omega)
      have x0 := (HBW.out.cell (p := ⟨b, off + j * 2, none⟩) hbl).trans (hx j hlt).1
      have x1 := (HBW.out.cell (p := ⟨b, off + j * 2 + 1, none⟩) hbl).trans (hx j hlt).2
      clear hx
      obtain ⟨v, l, q, hw, hl⟩ := HOT.out
      have HL := Lib.hid hl
      have HGW := Lib.hid (show Gw o wr (wr.alloc (.cells #[.slice (S j).A1 (S j).n1 (S j).c1, .slice (S j).A2 (S j).n2 (S j).c2] 76)) from (Gw.refl _ _).alloc _)
      have HPW := Lib.hid (show Pt (wr.alloc (.cells #[.slice (S j).A1 (S j).n1 (S j).c1, .slice (S j).A2 (S j).n2 (S j).c2] 76)) o M ((List.range j).foldl f (s.put (cntE n))) from HOT.out.below ((Below.refl _ _).alloc (Nat.le_refl _) _))
      have HBX := Lib.hid (show Below w0.heap.size w0 (wr.alloc (.cells #[.slice (S j).A1 (S j).n1 (S j).c1, .slice (S j).A2 (S j).n2 (S j).c2] 76)) from HBW.out.trans ((HGW.out.below (Pt.lt HOT.out)).mono h0))
      have c2 : (wr.alloc (.cells #[.slice (S j).A1 (S j).n1 (S j).c1, .slice (S j).A2 (S j).n2 (S j).c2] 76)).cell? ⟨o, 2, none⟩ = some (.bool q) := (hw.below ((Below.refl _ _).alloc (Nat.le_refl _) _)).c2
      clear hw hl
      cases q with
      | true =>
        go_wp2_with fail
        refine bodyPost_ret (results_none rfl _ _ _) rfl ?_
        refine ⟨rfl, ?_, HB.out.trans HGW.out⟩
        obtain ⟨v2, l2, q2, hw2, hl2⟩ := HPW.out
        have ov : ((List.range j).foldl f (s.put (cntE n))).over M := by
          rcases HL.out with ⟨-, k2⟩ | ⟨k1, -⟩
          · exact k2
          · cases k1
        have e2 : q2 = true := by
          rcases hl2 with ⟨k1, -⟩ | ⟨-, k2, -⟩
          · exact k1
          · exact absurd ov k2
        subst e2
        exact ⟨v2, l2, true, hw2, .inl ⟨rfl, over_fold HFO.out _ (Nat.le_of_lt hlt) ov⟩⟩
      | false =>
        go_wp2_with fail
        refine (HF.out j hlt (wr.alloc (.cells #[.slice (S j).A1 (S j).n1 (S j).c1, .slice (S j).A2 (S j).n2 (S j).c2] 76)) _ HBX.out HPW.out (HK.out _ _ HKK.out HGW.out)).mono ?_
        rintro e w2 ⟨rfl, o2, b2⟩
        have O2 := Lib.hid o2
        have B2 := Lib.hid b2
        clear o2 b2
        go_wp2_with fail
        go_roundw
        case rel => exact ⟨j + 1, by go_num, by omega, by rw [fold_succ]; exact O2.out, HB.out.trans (HGW.out.trans B2.out), HK.out _ _ HKK.out (HGW.out.trans B2.out), HBX.out.trans ((B2.out.below (Pt.lt HPW.out)).mono h0)⟩
        case measure => simp [intOf]; omega
    · obtain rfl : j = n := by omega
      have hji : decide ((j : Int) < (j : Int)) = false := by simp
      go_wp2_with fail
      refine bodyPost_ret (results_none rfl _ _ _) rfl ?_
      exact ⟨rfl, HOT.out, HB.out⟩
set_option maxHeartbeats 4000000 in
set_option maxRecDepth 100000 in
theorem wl_pairs {w0 w : World} {o M : Nat} {s : OuS} {K : World → Prop} (hK : ∀ W W', K W → Gw o W W' → K W') {k : Nat} {c1 c2 : Value} (hent : ∀ (xs : Array Value) (W : World), (callFunc k xs).run Try.prog W = .ok (.enter k xs) W)
    {f : OuS → Nat → OuS} (hf : ∀ s i, s.over M → (f s i).over M) {A : Option Addr} {n c : Nat} {EA : Nat → Option Addr} {En Ec : Nat → Nat}
    (hF : ∀ i, i < n → ∀ (W : World) (s : OuS), Below w0.heap.size w0 W → Pt W o M s → K W → Calls Try.prog k #[.slice (EA i) (En i) (Ec i), c1, c2] W (PtP o M (f s i) W))
    (h : Pt w o M s) (hM : M ≤ 2097152) (h0 : w0.heap.size ≤ o) (hb : Below w0.heap.size w0 w) (hk : K w) (hn : n ≤ 17592186044416)
    (ex : 0 < n → ∃ b off, A = some ⟨b, off, none⟩ ∧ b < w0.heap.size ∧ ∀ i, i < n → w0.cell? ⟨b, off + i, none⟩ = some (.slice (EA i) (En i) (Ec i))) :
    Calls Try.prog 63 #[.pointer (some ⟨o, 0, none⟩), .slice A n c, .func (.func k) #[] #[c1, c2]] w (PtP o M ((List.range n).foldl f (s.put (cntE n))) w) := by
  have HO := Lib.hid h
  have HF := Lib.hid hF
  have HK := Lib.hid hK
  have HK0 := Lib.hid hk
  have HB0 := Lib.hid hb
  have EX := Lib.hid ex
  have HFO := Lib.hid hf
  have lt := h.lt
  have e3 : IntKind.u64.wrap (n : Int) = (n : Int) := by rw [IntKind.wrap_u64]; omega
  clear h hF hK hk hb ex hf
  go_enter Try.func63, Try.ntmps63
  go_wp2_with fail
  refine (pcnt_any HO.out hM (m := n) (by omega)).mono ?_
  rintro e w1 ⟨rfl, o1, b1⟩
  have O1 := Lib.hid o1
  have B1 := Lib.hid b1
  clear o1 b1 e3
  go_wp2_with fail
  go_loopw [15] (fun i wr => WlR f (s.put (cntE n)) n o M w0 w K i wr) (fun i _ => n - (intOf i).toNat)
  case atStart => exact ⟨0, rfl, Nat.zero_le _, O1.out, B1.out, HK.out _ _ HK0.out B1.out, HB0.out.trans ((B1.out.below lt).mono h0)⟩
  case round =>
    obtain ⟨j, rfl, hj, hot, hbb, hkk, hb0⟩ := hrel
    have HOT := Lib.hid hot
    have HB := Lib.hid hbb
    have HKK := Lib.hid hkk
    have HBW := Lib.hid hb0
    clear hot hbb hkk hb0
    rcases Nat.lt_or_ge j n with hlt | hge
    · have hji : (j : Int) < (n : Int) := by omega
      obtain ⟨b, off, rfl, hbl, hx⟩ := EX.out (by omega)
      have x0 := (HBW.out.cell (p := ⟨b, off + j, none⟩) hbl).trans (hx j hlt)
      clear hx
      obtain ⟨v, l, q, hw, hl⟩ := HOT.out
      have HL := Lib.hid hl
      have HGW := Lib.hid (show Gw o wr (wr) from Gw.refl _ _)
      have HPW := Lib.hid (show Pt (wr) o M ((List.range j).foldl f (s.put (cntE n))) from HOT.out)
      have HBX := Lib.hid (show Below w0.heap.size w0 (wr) from HBW.out.trans ((HGW.out.below (Pt.lt HOT.out)).mono h0))
      have c2 : (wr).cell? ⟨o, 2, none⟩ = some (.bool q) := hw.c2
      clear hw hl
      cases q with
      | true =>
        go_wp2_with fail
        refine bodyPost_ret (results_none rfl _ _ _) rfl ?_
        refine ⟨rfl, ?_, HB.out.trans HGW.out⟩
        obtain ⟨v2, l2, q2, hw2, hl2⟩ := HPW.out
        have ov : ((List.range j).foldl f (s.put (cntE n))).over M := by
          rcases HL.out with ⟨-, k2⟩ | ⟨k1, -⟩
          · exact k2
          · cases k1
        have e2 : q2 = true := by
          rcases hl2 with ⟨k1, -⟩ | ⟨-, k2, -⟩
          · exact k1
          · exact absurd ov k2
        subst e2
        exact ⟨v2, l2, true, hw2, .inl ⟨rfl, over_fold HFO.out _ (Nat.le_of_lt hlt) ov⟩⟩
      | false =>
        go_wp2_with fail
        refine (HF.out j hlt (wr) _ HBX.out HPW.out (HK.out _ _ HKK.out HGW.out)).mono ?_
        rintro e w2 ⟨rfl, o2, b2⟩
        have O2 := Lib.hid o2
        have B2 := Lib.hid b2
        clear o2 b2
        go_wp2_with fail
        go_roundw
        case rel => exact ⟨j + 1, by go_num, by omega, by rw [fold_succ]; exact O2.out, HB.out.trans (HGW.out.trans B2.out), HK.out _ _ HKK.out (HGW.out.trans B2.out), HBX.out.trans ((B2.out.below (Pt.lt HPW.out)).mono h0)⟩
        case measure => simp [intOf]; omega
    · obtain rfl : j = n := by omega
      have hji : decide ((j : Int) < (j : Int)) = false := by simp
      go_wp2_with fail
      refine bodyPost_ret (results_none rfl _ _ _) rfl ?_
      exact ⟨rfl, HOT.out, HB.out⟩
set_option maxHeartbeats 4000000 in
set_option maxRecDepth 100000 in
theorem wl_proofs {w0 w : World} {o M : Nat} {s : OuS} {K : World → Prop} (hK : ∀ W W', K W → Gw o W W' → K W') {k : Nat} {c1 c2 : Value} (hent : ∀ (xs : Array Value) (W : World), (callFunc k xs).run Try.prog W = .ok (.enter k xs) W)
    {f : OuS → Nat → OuS} (hf : ∀ s i, s.over M → (f s i).over M) {A : Option Addr} {n c : Nat} {EA : Nat → Option Addr} {En Ec : Nat → Nat}
    (hF : ∀ i, i < n → ∀ (W : World) (s : OuS), Below w0.heap.size w0 W → Pt W o M s → K W → Calls Try.prog k #[.slice (EA i) (En i) (Ec i), c1, c2] W (PtP o M (f s i) W))
    (h : Pt w o M s) (hM : M ≤ 2097152) (h0 : w0.heap.size ≤ o) (hb : Below w0.heap.size w0 w) (hk : K w) (hn : n ≤ 17592186044416)
    (ex : 0 < n → ∃ b off, A = some ⟨b, off, none⟩ ∧ b < w0.heap.size ∧ ∀ i, i < n → w0.cell? ⟨b, off + i, none⟩ = some (.slice (EA i) (En i) (Ec i))) :
    Calls Try.prog 67 #[.pointer (some ⟨o, 0, none⟩), .slice A n c, .func (.func k) #[] #[c1, c2]] w (PtP o M ((List.range n).foldl f (s.put (cntE n))) w) := by
  have HO := Lib.hid h
  have HF := Lib.hid hF
  have HK := Lib.hid hK
  have HK0 := Lib.hid hk
  have HB0 := Lib.hid hb
  have EX := Lib.hid ex
  have HFO := Lib.hid hf
  have lt := h.lt
  have e3 : IntKind.u64.wrap (n : Int) = (n : Int) := by rw [IntKind.wrap_u64]; omega
  clear h hF hK hk hb ex hf
  go_enter Try.func67, Try.ntmps67
  go_wp2_with fail
  refine (pcnt_any HO.out hM (m := n) (by omega)).mono ?_
  rintro e w1 ⟨rfl, o1, b1⟩
  have O1 := Lib.hid o1
  have B1 := Lib.hid b1
  clear o1 b1 e3
  go_wp2_with fail
  go_loopw [15] (fun i wr => WlR f (s.put (cntE n)) n o M w0 w K i wr) (fun i _ => n - (intOf i).toNat)
  case atStart => exact ⟨0, rfl, Nat.zero_le _, O1.out, B1.out, HK.out _ _ HK0.out B1.out, HB0.out.trans ((B1.out.below lt).mono h0)⟩
  case round =>
    obtain ⟨j, rfl, hj, hot, hbb, hkk, hb0⟩ := hrel
    have HOT := Lib.hid hot
    have HB := Lib.hid hbb
    have HKK := Lib.hid hkk
    have HBW := Lib.hid hb0
    clear hot hbb hkk hb0
    rcases Nat.lt_or_ge j n with hlt | hge
    · have hji : (j : Int) < (n : Int) := by omega
      obtain ⟨b, off, rfl, hbl, hx⟩ := EX.out (by omega)
      have x0 := (HBW.out.cell (p := ⟨b, off + j, none⟩) hbl).trans (hx j hlt)
      clear hx
      obtain ⟨v, l, q, hw, hl⟩ := HOT.out
      have HL := Lib.hid hl
      have HGW := Lib.hid (show Gw o wr (wr) from Gw.refl _ _)
      have HPW := Lib.hid (show Pt (wr) o M ((List.range j).foldl f (s.put (cntE n))) from HOT.out)
      have HBX := Lib.hid (show Below w0.heap.size w0 (wr) from HBW.out.trans ((HGW.out.below (Pt.lt HOT.out)).mono h0))
      have c2 : (wr).cell? ⟨o, 2, none⟩ = some (.bool q) := hw.c2
      clear hw hl
      cases q with
      | true =>
        go_wp2_with fail
        refine bodyPost_ret (results_none rfl _ _ _) rfl ?_
        refine ⟨rfl, ?_, HB.out.trans HGW.out⟩
        obtain ⟨v2, l2, q2, hw2, hl2⟩ := HPW.out
        have ov : ((List.range j).foldl f (s.put (cntE n))).over M := by
          rcases HL.out with ⟨-, k2⟩ | ⟨k1, -⟩
          · exact k2
          · cases k1
        have e2 : q2 = true := by
          rcases hl2 with ⟨k1, -⟩ | ⟨-, k2, -⟩
          · exact k1
          · exact absurd ov k2
        subst e2
        exact ⟨v2, l2, true, hw2, .inl ⟨rfl, over_fold HFO.out _ (Nat.le_of_lt hlt) ov⟩⟩
      | false =>
        go_wp2_with fail
        refine (HF.out j hlt (wr) _ HBX.out HPW.out (HK.out _ _ HKK.out HGW.out)).mono ?_
        rintro e w2 ⟨rfl, o2, b2⟩
        have O2 := Lib.hid o2
        have B2 := Lib.hid b2
        clear o2 b2
        go_wp2_with fail
        go_roundw
        case rel => exact ⟨j + 1, by go_num, by omega, by rw [fold_succ]; exact O2.out, HB.out.trans (HGW.out.trans B2.out), HK.out _ _ HKK.out (HGW.out.trans B2.out), HBX.out.trans ((B2.out.below (Pt.lt HPW.out)).mono h0)⟩
        case measure => simp [intOf]; omega
    · obtain rfl : j = n := by omega
      have hji : decide ((j : Int) < (j : Int)) = false := by simp
      go_wp2_with fail
      refine bodyPost_ret (results_none rfl _ _ _) rfl ?_
      exact ⟨rfl, HOT.out, HB.out⟩
set_option maxHeartbeats 4000000 in
set_option maxRecDepth 100000 in
theorem wl_text {w0 w : World} {o M : Nat} {s : OuS} {K : World → Prop} (hK : ∀ W W', K W → Gw o W W' → K W') {k : Nat} {c1 : Value} (hent : ∀ (xs : Array Value) (W : World), (callFunc k xs).run Try.prog W = .ok (.enter k xs) W)
    {f : OuS → Nat → OuS} (hf : ∀ s i, s.over M → (f s i).over M) {A : Option Addr} {n c : Nat} {EA : Nat → Option Addr} {En Ec : Nat → Nat}
    (hF : ∀ i, i < n → ∀ (W : World) (s : OuS), Below w0.heap.size w0 W → Pt W o M s → K W → Calls Try.prog k #[c1, .slice (EA i) (En i) (Ec i)] W (PtP o M (f s i) W))
    (h : Pt w o M s) (hM : M ≤ 2097152) (h0 : w0.heap.size ≤ o) (hb : Below w0.heap.size w0 w) (hk : K w) (hn : n ≤ 17592186044416)
    (ex : 0 < n → ∃ b off, A = some ⟨b, off, none⟩ ∧ b < w0.heap.size ∧ ∀ i, i < n → w0.cell? ⟨b, off + i, none⟩ = some (.slice (EA i) (En i) (Ec i))) :
    Calls Try.prog 47 #[.pointer (some ⟨o, 0, none⟩), .slice A n c, .func (.func k) #[c1] #[]] w (PtP o M ((List.range n).foldl f (s.put (cntE n))) w) := by
  have HO := Lib.hid h
  have HF := Lib.hid hF
  have HK := Lib.hid hK
  have HK0 := Lib.hid hk
  have HB0 := Lib.hid hb
  have EX := Lib.hid ex
  have HFO := Lib.hid hf
  have lt := h.lt
  have e3 : IntKind.u64.wrap (n : Int) = (n : Int) := by rw [IntKind.wrap_u64]; omega
  clear h hF hK hk hb ex hf
  go_enter Try.func47, Try.ntmps47
  go_wp2_with fail
  refine (pcnt_any HO.out hM (m := n) (by omega)).mono ?_
  rintro e w1 ⟨rfl, o1, b1⟩
  have O1 := Lib.hid o1
  have B1 := Lib.hid b1
  clear o1 b1 e3
  go_wp2_with fail
  go_loopw [15] (fun i wr => WlR f (s.put (cntE n)) n o M w0 w K i wr) (fun i _ => n - (intOf i).toNat)
  case atStart => exact ⟨0, rfl, Nat.zero_le _, O1.out, B1.out, HK.out _ _ HK0.out B1.out, HB0.out.trans ((B1.out.below lt).mono h0)⟩
  case round =>
    obtain ⟨j, rfl, hj, hot, hbb, hkk, hb0⟩ := hrel
    have HOT := Lib.hid hot
    have HB := Lib.hid hbb
    have HKK := Lib.hid hkk
    have HBW := Lib.hid hb0
    clear hot hbb hkk hb0
    rcases Nat.lt_or_ge j n with hlt | hge
    · have hji : (j : Int) < (n : Int) := by omega
      obtain ⟨b, off, rfl, hbl, hx⟩ := EX.out (by omega)
      have x0 := (HBW.out.cell (p := ⟨b, off + j, none⟩) hbl).trans (hx j hlt)
      clear hx
      obtain ⟨v, l, q, hw, hl⟩ := HOT.out
      have HL := Lib.hid hl
      have HGW := Lib.hid (show Gw o wr (wr) from Gw.refl _ _)
      have HPW := Lib.hid (show Pt (wr) o M ((List.range j).foldl f (s.put (cntE n))) from HOT.out)
      have HBX := Lib.hid (show Below w0.heap.size w0 (wr) from HBW.out.trans ((HGW.out.below (Pt.lt HOT.out)).mono h0))
      have c2 : (wr).cell? ⟨o, 2, none⟩ = some (.bool q) := hw.c2
      clear hw hl
      cases q with
      | true =>
        go_wp2_with fail
        refine bodyPost_ret (results_none rfl _ _ _) rfl ?_
        refine ⟨rfl, ?_, HB.out.trans HGW.out⟩
        obtain ⟨v2, l2, q2, hw2, hl2⟩ := HPW.out
        have ov : ((List.range j).foldl f (s.put (cntE n))).over M := by
          rcases HL.out with ⟨-, k2⟩ | ⟨k1, -⟩
          · exact k2
          · cases k1
        have e2 : q2 = true := by
          rcases hl2 with ⟨k1, -⟩ | ⟨-, k2, -⟩
          · exact k1
          · exact absurd ov k2
        subst e2
        exact ⟨v2, l2, true, hw2, .inl ⟨rfl, over_fold HFO.out _ (Nat.le_of_lt hlt) ov⟩⟩
      | false =>
        go_wp2_with fail
        refine (HF.out j hlt (wr) _ HBX.out HPW.out (HK.out _ _ HKK.out HGW.out)).mono ?_
        rintro e w2 ⟨rfl, o2, b2⟩
        have O2 := Lib.hid o2
        have B2 := Lib.hid b2
        clear o2 b2
        go_wp2_with fail
        go_roundw
        case rel => exact ⟨j + 1, by go_num, by omega, by rw [fold_succ]; exact O2.out, HB.out.trans (HGW.out.trans B2.out), HK.out _ _ HKK.out (HGW.out.trans B2.out), HBX.out.trans ((B2.out.below (Pt.lt HPW.out)).mono h0)⟩
        case measure => simp [intOf]; omega
    · obtain rfl : j = n := by omega
      have hji : decide ((j : Int) < (j : Int)) = false := by simp
      go_wp2_with fail
      refine bodyPost_ret (results_none rfl _ _ _) rfl ?_
      exact ⟨rfl, HOT.out, HB.out⟩
end Go.Proofs.Ytcnekfpgoceblaa
