/-
  Several texts in one: Pr6, PrL.
-/
import Derived.Test.YtcnekfpgoceblaaPce
import Derived.Test.YtcnekfpgoceblaaPci
import Derived.Deep.RegionLaw
import Derived.Laws.Rows
/-
  The program's reader: the closures that message makes.
-/
namespace Go.Proofs.Ytcnekfpgoceblaa
open Go.RowKit
set_option linter.unusedVariables false
/-- Nothing has turned but block s. -/
structure Se (s : Nat) (w w' : World) : Prop where
  os : w'.os = w.os
  tape : w'.tape = w.tape
  output : w'.output = w.output
  size : w'.heap.size = w.heap.size
  block : ∀ k, k ≠ s → w'.heap[k]? = w.heap[k]?
theorem Se.refl (s : Nat) (w : World) : Se s w w := ⟨rfl, rfl, rfl, rfl, fun _ _ => rfl⟩
theorem Se.set {s : Nat} {w w' : World} (h : Se s w w') (i : Nat) (v : Value) : Se s w (w'.setCell ⟨s, i, none⟩ v) := ⟨h.os, h.tape, h.output, by simpa using h.size, fun k hk => (heap_setCell_other w' ⟨s, i, none⟩ k v hk).trans (h.block k hk)⟩
theorem Se.ti {s r : Nat} {w w1 w2 : World} (h : Ti r w w1) (k : Se s w1 w2) (hs : w.heap.size ≤ s) : Ti r w w2 :=
  ⟨k.os.trans h.os, k.tape.trans h.tape, k.output.trans h.output, by rw [k.size]; exact h.size, fun i hi hb => (k.block i (by omega)).trans (h.block i hi hb)⟩
theorem Se.rw_ {s r : Nat} {w w' : World} {L : List Int} {q : Bool} (h : Rw w r L q) (k : Se s w w') (hs : r < s) : Rw w' r L q := by
  obtain ⟨A, n, c, h⟩ := h
  refine ⟨A, n, c, (k.block r (by omega)).trans h.row, ⟨h.rd.len, fun hn => ?_⟩, h.dig_, h.old, h.nc, h.nil, h.n47⟩
  obtain ⟨b, off, e, hb, hc⟩ := h.rd.cells hn
  have h8 : b < r := h.old _ e hn
  exact ⟨b, off, e, by rw [k.size]; exact hb, fun j x hj => (World.cell?_of_block (a := ⟨b, off + j, none⟩) (k.block b (by omega))).trans (hc j x hj)⟩
theorem Se.nm {s : Nat} {w w' : World} {A : Option Addr} {n c : Nat} {N : Int} (h : Nm w A n c N) (k : Se s w w') (hs : ∀ b, BlN A n b → b ≠ s) : Nm w' A n c N := h.stay (by rw [k.size]; exact Nat.le_refl _) fun b hb => k.block b (hs b hb)
theorem Ti.cell {r : Nat} {w w' : World} (h : Ti r w w') {p : Addr} (hp : p.block < w.heap.size) (hr : p.block ≠ r) : w'.cell? p = w.cell? p := World.cell?_of_block (h.block p.block hp hr)
theorem sizePr : (Try.prog.info? 74).map (·.size) = some 3 := by kernel_rfl
theorem sizePf : (Try.prog.info? 76).map (·.size) = some 2 := by kernel_rfl
theorem row3 {w : World} {g : Nat} {t : TypeId} {a b c x y z : Value} (hg : w.heap[g]? = some (.cells #[a, b, c] t (0, 0))) :
    (((w.setCell ⟨g, 0, none⟩ x).setCell ⟨g, 1, none⟩ y).setCell ⟨g, 2, none⟩ z).heap[g]? = some (.cells #[x, y, z] t (0, 0)) :=
  heap_setCell_same _ g 2 _ _ z (heap_setCell_same _ g 1 _ _ y (heap_setCell_same w g 0 _ _ x hg))
theorem row2 {w : World} {g : Nat} {t : TypeId} {a b x y : Value} (hg : w.heap[g]? = some (.cells #[a, b] t (0, 0))) :
    ((w.setCell ⟨g, 0, none⟩ x).setCell ⟨g, 1, none⟩ y).heap[g]? = some (.cells #[x, y] t (0, 0)) :=
  heap_setCell_same _ g 1 _ _ y (heap_setCell_same w g 0 _ _ x hg)
theorem pr_end {w W0 u1 u2 u3 u4 : World} {r s : Nat} {L L1 L2 L3 : List Int} {q q1 q2 q3 : Bool} {A1 A2 A3 : Option Addr} {n1 c1 n2 c2 n3 c3 : Nat} {N1 N2 N3 : Int}
    (BD : Ti r w W0) (sz : s < W0.heap.size) (ws : w.heap.size ≤ s) (rl : r < s) (T1 : Ti r W0 u1) (T2 : Ti r u1 u2) (T3 : Ti r u2 u3)
    (M1 : Nm u1 A1 n1 c1 N1) (B1 : ∀ b, BlN A1 n1 b → W0.heap.size ≤ b) (M2 : Nm u2 A2 n2 c2 N2) (B2 : ∀ b, BlN A2 n2 b → u1.heap.size ≤ b) (M3 : Nm u3 A3 n3 c3 N3) (B3 : ∀ b, BlN A3 n3 b → u2.heap.size ≤ b)
    (H3 : Rw u3 r L3 q3) (X1 : Rx numC L q (dg W N1) L1 q1) (X2 : Rx numC L1 q1 (dg W N2) L2 q2) (X3 : Rx numC L2 q2 (dg W N3) L3 q3) (se : Se s u3 u4) :
    ReP kPr ev_pr prC dvP r L q w (.returned (.agg #[.slice A1 n1 c1, .slice A2 n2 c2, .slice A3 n3 c3])) u4 := by
  have z1 := T1.size
  have z2 := T2.size
  have z3 := T3.size
  refine ⟨⟨A1, n1, c1, A2, n2, c2, A3, n3, c3, N1, N2, N3⟩, L3, q3, rfl, ⟨?_, ?_, ?_⟩, fun b hb => ?_, se.rw_ H3 rl, se.ti (((BD.trans T1).trans T2).trans T3) ws, Rx.pair X1 (Rx.pair X2 X3)⟩
  · exact se.nm ((M1.ti T2 fun b hb => by have := B1 b hb; omega).ti T3 fun b hb => by have := B1 b hb; omega) fun b hb => by have := B1 b hb; omega
  · exact se.nm (M2.ti T3 fun b hb => by have := B2 b hb; omega) fun b hb => by have := B2 b hb; omega
  · exact se.nm M3 fun b hb => by have := B3 b hb; omega
  · rcases hb with hb | hb | hb
    · have := B1 b hb; omega
    · have := B2 b hb; omega
    · have := B3 b hb; omega
theorem pf_end {w W0 u1 u2 u4 : World} {r s : Nat} {L L1 L2 : List Int} {q q1 q2 : Bool} {A1 A2 : Option Addr} {n1 c1 n2 c2 : Nat} {N1 N2 : Int}
    (BD : Ti r w W0) (sz : s < W0.heap.size) (ws : w.heap.size ≤ s) (rl : r < s) (T1 : Ti r W0 u1) (T2 : Ti r u1 u2)
    (M1 : Nm u1 A1 n1 c1 N1) (B1 : ∀ b, BlN A1 n1 b → W0.heap.size ≤ b) (M2 : Nm u2 A2 n2 c2 N2) (B2 : ∀ b, BlN A2 n2 b → u1.heap.size ≤ b)
    (H3 : Rw u2 r L2 q2) (X1 : Rx numC L q (dg W N1) L1 q1) (X2 : Rx numC L1 q1 (dg W N2) L2 q2) (se : Se s u2 u4) :
    ReP kPf ev_pf pfC dvF r L q w (.returned (.agg #[.slice A1 n1 c1, .slice A2 n2 c2])) u4 := by
  have z1 := T1.size
  have z2 := T2.size
  refine ⟨⟨A1, n1, c1, N1, A2, n2, c2, N2⟩, L2, q2, rfl, ⟨?_, ?_⟩, fun b hb => ?_, se.rw_ H3 rl, se.ti ((BD.trans T1).trans T2) ws, Rx.pair X1 X2⟩
  · exact se.nm (M1.ti T2 fun b hb => by have := B1 b hb; omega) fun b hb => by have := B1 b hb; omega
  · exact se.nm M2 fun b hb => by have := B2 b hb; omega
  · rcases hb with hb | hb
    · have := B1 b hb; omega
    · have := B2 b hb; omega
set_option maxHeartbeats 8000000 in
set_option maxRecDepth 100000 in
theorem rc_pr {w : World} {r g : Nat} {L : List Int} {q : Bool} (h : Rw w r L q) (k0 : w.cell? ⟨g, 0, none⟩ = some (.pointer (some ⟨r, 0, none⟩))) (lg : g < w.heap.size) (gr : g ≠ r) :
    Calls Try.prog 55 #[.pointer (some ⟨g, 0, none⟩)] w (ReP kPr ev_pr prC dvP r L q w) := by
  have lt := h.lt
  obtain ⟨s, hs⟩ : ∃ s, w.heap.size = s := ⟨_, rfl⟩
  obtain ⟨W1, hW⟩ : ∃ W1, W1 = w.alloc (.cells #[.slice none 0 0, .slice none 0 0, .slice none 0 0] 74) := ⟨_, rfl⟩
  have b1 : Below w.heap.size w W1 := by rw [hW]; exact (Below.refl _ _).alloc (Nat.le_refl _) _
  have row : W1.heap[s]? = some (.cells #[.slice none 0 0, .slice none 0 0, .slice none 0 0] 74 (0, 0)) := by rw [hW, ← hs]; exact heap_alloc_new w _
  have sz1 : W1.heap.size = s + 1 := by rw [hW, ← hs]; simp
  have HD := Lib.hid (show Rw W1.drew r L q from (h.below b1).below (Below.refl _ _).drew)
  have BD := Lib.hid (show Ti r w W1.drew from Ti.of (b1.trans ((Below.refl _ _).drew.mono b1.size)) (Nat.le_refl _))
  have q0 : W1.drew.cell? ⟨g, 0, none⟩ = some (.pointer (some ⟨r, 0, none⟩)) := (BD.out.cell (p := ⟨g, 0, none⟩) lg gr).trans k0
  have RS := Lib.hid (show ∀ W', Ti r W1.drew W' → W'.heap[s]? = some (.cells #[.slice none 0 0, .slice none 0 0, .slice none 0 0] 74 (0, 0)) from fun W' k => (k.block s (by show s < W1.heap.size; omega) (by omega)).trans row)
  have QC := Lib.hid (show ∀ W', Ti r w W' → W'.cell? ⟨g, 0, none⟩ = some (.pointer (some ⟨r, 0, none⟩)) from fun W' k => (k.cell (p := ⟨g, 0, none⟩) lg gr).trans k0)
  have SZ := Lib.hid sz1
  have HS := Lib.hid hs
  clear h k0 b1 row sz1
  go_enter Try.func55, Try.ntmps55
  go_wp2_with fail
  rw [← hW]
  try rw [hs]
  clear hW hs
  go_region_law (first
    | (go_simp; go_at_call 56; (with_reducible refine (rnumq_any H2.out).mono ?_); rintro e u3 ⟨A3, n3, c3, N3, L3, q3, rfl, hn3, hb3, hr3, ht3, hx3⟩; have H3 := Lib.hid hr3; have T3 := Lib.hid ht3; have X3 := Lib.hid hx3; have M3 := Lib.hid hn3; have B3 := Lib.hid hb3; have x0 := (cell_of_row u3 s 0 _ _ _ (RS.out u3 ((T1.out.trans T2.out).trans ht3))); have x1 := (cell_of_row u3 s 1 _ _ _ (RS.out u3 ((T1.out.trans T2.out).trans ht3))); have x2 := (cell_of_row u3 s 2 _ _ _ (RS.out u3 ((T1.out.trans T2.out).trans ht3))); have f0 := frozen_of_row u3 s 0 _ _ (RS.out u3 ((T1.out.trans T2.out).trans ht3)); have f1 := frozen_of_row u3 s 1 _ _ (RS.out u3 ((T1.out.trans T2.out).trans ht3)); have f2 := frozen_of_row u3 s 2 _ _ (RS.out u3 ((T1.out.trans T2.out).trans ht3)); have R3 := Lib.hid (RS.out u3 ((T1.out.trans T2.out).trans ht3)); clear hn3 hb3 hr3 ht3 hx3)
    | (go_simp; go_at_call 56; (with_reducible refine (rnumq_any H1.out).mono ?_); rintro e u2 ⟨A2, n2, c2, N2, L2, q2, rfl, hn2, hb2, hr2, ht2, hx2⟩; have H2 := Lib.hid hr2; have T2 := Lib.hid ht2; have X2 := Lib.hid hx2; have M2 := Lib.hid hn2; have B2 := Lib.hid hb2; have y2 := QC.out u2 ((BD.out.trans T1.out).trans ht2); clear hn2 hb2 hr2 ht2 hx2)
    | (go_simp; go_at_call 56; (with_reducible refine (rnumq_any HD.out).mono ?_); rintro e u1 ⟨A1, n1, c1, N1, L1, q1, rfl, hn1, hb1, hr1, ht1, hx1⟩; have H1 := Lib.hid hr1; have T1 := Lib.hid ht1; have X1 := Lib.hid hx1; have M1 := Lib.hid hn1; have B1 := Lib.hid hb1; have y1 := QC.out u1 (BD.out.trans ht1); clear hn1 hb1 hr1 ht1 hx1))
  all_goals
    go_wp2_with fail
    refine bodyPost_ret (v := .agg #[.slice A1 n1 c1, .slice A2 n2 c2, .slice A3 n3 c3]) (results_cell_row Try.results55 _ _ s _ _ _ _ rfl (row3 R3.out) Try.underlying74 rfl sizePr) rfl ?_
    exact pr_end BD.out (by show s < W1.heap.size; have := SZ.out; omega) (by have := HS.out; omega) (by have := HS.out; omega) T1.out T2.out T3.out M1.out B1.out M2.out B2.out M3.out B3.out H3.out X1.out X2.out X3.out ((((Se.refl s u3).set 0 _).set 1 _).set 2 _)
set_option maxHeartbeats 8000000 in
set_option maxRecDepth 100000 in
theorem rc_pf {w : World} {r g : Nat} {L : List Int} {q : Bool} (h : Rw w r L q) (k0 : w.cell? ⟨g, 0, none⟩ = some (.pointer (some ⟨r, 0, none⟩))) (lg : g < w.heap.size) (gr : g ≠ r) :
    Calls Try.prog 57 #[.pointer (some ⟨g, 0, none⟩)] w (ReP kPf ev_pf pfC dvF r L q w) := by
  have lt := h.lt
  obtain ⟨s, hs⟩ : ∃ s, w.heap.size = s := ⟨_, rfl⟩
  obtain ⟨W1, hW⟩ : ∃ W1, W1 = w.alloc (.cells #[.slice none 0 0, .slice none 0 0] 76) := ⟨_, rfl⟩
  have b1 : Below w.heap.size w W1 := by rw [hW]; exact (Below.refl _ _).alloc (Nat.le_refl _) _
  have row : W1.heap[s]? = some (.cells #[.slice none 0 0, .slice none 0 0] 76 (0, 0)) := by rw [hW, ← hs]; exact heap_alloc_new w _
  have sz1 : W1.heap.size = s + 1 := by rw [hW, ← hs]; simp
  have HD := Lib.hid (show Rw W1.drew r L q from (h.below b1).below (Below.refl _ _).drew)
  have BD := Lib.hid (show Ti r w W1.drew from Ti.of (b1.trans ((Below.refl _ _).drew.mono b1.size)) (Nat.le_refl _))
  have q0 : W1.drew.cell? ⟨g, 0, none⟩ = some (.pointer (some ⟨r, 0, none⟩)) := (BD.out.cell (p := ⟨g, 0, none⟩) lg gr).trans k0
  have RS := Lib.hid (show ∀ W', Ti r W1.drew W' → W'.heap[s]? = some (.cells #[.slice none 0 0, .slice none 0 0] 76 (0, 0)) from fun W' k => (k.block s (by show s < W1.heap.size; omega) (by omega)).trans row)
  have QC := Lib.hid (show ∀ W', Ti r w W' → W'.cell? ⟨g, 0, none⟩ = some (.pointer (some ⟨r, 0, none⟩)) from fun W' k => (k.cell (p := ⟨g, 0, none⟩) lg gr).trans k0)
  have SZ := Lib.hid sz1
  have HS := Lib.hid hs
  clear h k0 b1 row sz1
  go_enter Try.func57, Try.ntmps57
  go_wp2_with fail
  rw [← hW]
  try rw [hs]
  clear hW hs
  go_region_law (first
    | (go_simp; go_at_call 56; (with_reducible refine (rnumq_any H1.out).mono ?_); rintro e u2 ⟨A2, n2, c2, N2, L2, q2, rfl, hn2, hb2, hr2, ht2, hx2⟩; have H2 := Lib.hid hr2; have T2 := Lib.hid ht2; have X2 := Lib.hid hx2; have M2 := Lib.hid hn2; have B2 := Lib.hid hb2; have x0 := (cell_of_row u2 s 0 _ _ _ (RS.out u2 (T1.out.trans ht2))); have f0 := frozen_of_row u2 s 0 _ _ (RS.out u2 (T1.out.trans ht2)); have x1 := (cell_of_row u2 s 1 _ _ _ (RS.out u2 (T1.out.trans ht2))); have f1 := frozen_of_row u2 s 1 _ _ (RS.out u2 (T1.out.trans ht2)); have R3 := Lib.hid (RS.out u2 (T1.out.trans ht2)); clear hn2 hb2 hr2 ht2 hx2)
    | (go_simp; go_at_call 56; (with_reducible refine (rnumq_any HD.out).mono ?_); rintro e u1 ⟨A1, n1, c1, N1, L1, q1, rfl, hn1, hb1, hr1, ht1, hx1⟩; have H1 := Lib.hid hr1; have T1 := Lib.hid ht1; have X1 := Lib.hid hx1; have M1 := Lib.hid hn1; have B1 := Lib.hid hb1; have y1 := QC.out u1 (BD.out.trans ht1); clear hn1 hb1 hr1 ht1 hx1))
  all_goals
    go_wp2_with fail
    refine bodyPost_ret (v := .agg #[.slice A1 n1 c1, .slice A2 n2 c2]) (results_cell_row Try.results57 _ _ s _ _ _ _ rfl (row2 R3.out) Try.underlying76 rfl sizePf) rfl ?_
    exact pf_end BD.out (by show s < W1.heap.size; have := SZ.out; omega) (by have := HS.out; omega) (by have := HS.out; omega) T1.out T2.out M1.out B1.out M2.out B2.out H2.out X1.out X2.out (((Se.refl s u2).set 0 _).set 1 _)
end Go.Proofs.Ytcnekfpgoceblaa
/-
  The program's reader: lists of lists, texts. By program: genprl.py.
-/
namespace Go.Proofs.Ytcnekfpgoceblaa
open Go.RowKit
set_option linter.unusedVariables false
/-- A variable that a closure holds. -/
structure BxT (g r : Nat) (u : Value) (W : World) : Prop where
  ne : g ≠ r
  lt : g < W.heap.size
  cell : W.cell? ⟨g, 0, none⟩ = some u
theorem BxT.ti {g r : Nat} {u : Value} {W W' : World} (h : BxT g r u W) (k : Ti r W W') : BxT g r u W' := ⟨h.ne, Nat.lt_of_lt_of_le h.lt k.size, (k.cell (p := ⟨g, 0, none⟩) h.lt h.ne).trans h.cell⟩
theorem BxT.new {r : Nat} (W : World) (u : Value) (t : TypeId) (hr : r < W.heap.size) : BxT W.heap.size r u (W.alloc (.cells #[u] t)) := ⟨by omega, by simp, by rw [World.cell?_alloc_at _ _ _ _ rfl]; rfl⟩
section
variable {e : TypeId} {w w' : World} {base : Nat} {v : Value} {n : Nat}
theorem Owk.ch {S : Nat → Stp} (h : Owk kPr e w base v n S) (h60 : n ≤ 17592186044416) : ∃ A c, v = .slice A n c ∧ (∀ a, A = some a → base ≤ a.block) ∧ Ch w A n c S := by
  obtain ⟨A, c, rfl, hnc, hb, hc⟩ := h.form
  refine ⟨A, c, rfl, hb, hnc, h60, fun hn => ?_, fun i hi => h.at_ i hi⟩
  obtain ⟨g, eg, hl, hx⟩ := hc hn
  refine ⟨g, 0, eg, hl, fun i hi => ?_⟩
  rw [Nat.zero_add]
  exact ⟨hx i 0 _ hi rfl, hx i 1 _ hi rfl, hx i 2 _ hi rfl⟩
theorem Owk.pfs {S : Nat → Pf2} (h : Owk kPf e w base v n S) (h60 : n ≤ 17592186044416) : ∃ A c, v = .slice A n c ∧ (∀ a, A = some a → base ≤ a.block) ∧ Pfs w A n c S := by
  obtain ⟨A, c, rfl, hnc, hb, hc⟩ := h.form
  refine ⟨A, c, rfl, hb, hnc, h60, fun hn => ?_, fun i hi => h.at_ i hi⟩
  obtain ⟨g, eg, hl, hx⟩ := hc hn
  refine ⟨g, 0, eg, hl, fun i hi => ?_⟩
  rw [Nat.zero_add]
  exact ⟨hx i 0 _ hi rfl, hx i 1 _ hi rfl⟩
theorem Owk.bat {S : Nat → Lsl} (h : Owk kLs e w base v n S) (h60 : n ≤ 17592186044416) : ∃ A c, v = .slice A n c ∧ (∀ a, A = some a → base ≤ a.block) ∧ Bat w A n c S := by
  obtain ⟨A, c, rfl, hnc, hb, hc⟩ := h.form
  refine ⟨A, c, rfl, hb, hnc, h60, fun hn => ?_, fun i hi => h.at_ i hi⟩
  obtain ⟨g, eg, hl, hx⟩ := hc hn
  refine ⟨g, 0, eg, hl, fun i hi => ?_⟩
  have := hx i 0 _ hi rfl
  rw [Nat.zero_add]
  rwa [Nat.mul_one, Nat.add_zero] at this
theorem Owk.pba {S : Nat → Psl} (h : Owk kPs e w base v n S) (h60 : n ≤ 17592186044416) : ∃ A c, v = .slice A n c ∧ (∀ a, A = some a → base ≤ a.block) ∧ Pba w A n c S := by
  obtain ⟨A, c, rfl, hnc, hb, hc⟩ := h.form
  refine ⟨A, c, rfl, hb, hnc, h60, fun hn => ?_, fun i hi => h.at_ i hi⟩
  obtain ⟨g, eg, hl, hx⟩ := hc hn
  refine ⟨g, 0, eg, hl, fun i hi => ?_⟩
  have := hx i 0 _ hi rfl
  rw [Nat.zero_add]
  rwa [Nat.mul_one, Nat.add_zero] at this
theorem Owk.txs {S : Nat → Txt} (h : Owk kTx e w base v n S) (h60 : n ≤ 17592186044416) : ∃ A c, v = .slice A n c ∧ (∀ a, A = some a → base ≤ a.block) ∧ Txs w A n c S := by
  obtain ⟨A, c, rfl, hnc, hb, hc⟩ := h.form
  refine ⟨A, c, rfl, hb, hnc, h60, fun hn => ?_, fun i hi => h.at_ i hi⟩
  obtain ⟨g, eg, hl, hx⟩ := hc hn
  refine ⟨g, 0, eg, hl, fun i hi => ?_⟩
  have := hx i 0 _ hi rfl
  rw [Nat.zero_add]
  rwa [Nat.mul_one, Nat.add_zero] at this
end
theorem blN_geL {A : Option Addr} {n B : Nat} (h : ∀ a, A = some a → B ≤ a.block) : ∀ b, BlN A n b → B ≤ b := fun b ⟨a, ha, _, hb⟩ => by rw [← hb]; exact h a ha
theorem ent_c3 : ∀ (xs : Array Value) (W : World), (callFunc 58 xs).run Try.prog W = .ok (.enter 58 xs) W := ent_w Try.func58 (by kernel_rfl) rfl
set_option maxHeartbeats 4000000 in
set_option maxRecDepth 100000 in
theorem rc_tx {w : World} {r g : Nat} {L : List Int} {q : Bool} (h : Rw w r L q) (hk : BxT g r (.pointer (some ⟨r, 0, none⟩)) w) :
    Calls Try.prog 58 #[.pointer (some ⟨g, 0, none⟩)] w (ReP kTx ev_tx bytesC Txt.xs r L q w) := by
  have H := Lib.hid h
  have k0 := hk.cell
  clear h hk
  go_enter Try.func58, Try.ntmps58
  go_wp2_with fail
  refine (rtext_any H.out).mono ?_
  rintro e w1 ⟨v, bs, L1, q1, rfl, ho, hdg, h1, t1, x1⟩
  obtain ⟨A, c, rfl, rd, -, ge⟩ := own_rd ho
  have H1 := Lib.hid h1
  have T1 := Lib.hid t1
  have X1 := Lib.hid x1
  have RD := Lib.hid rd
  have DG := Lib.hid hdg
  have GE := Lib.hid ge
  clear h1 t1 x1 rd hdg ge ho
  go_wp2_with fail
  go_ret
  exact ⟨⟨A, c, bs⟩, L1, q1, rfl, ⟨RD.out, DG.out⟩, blN_geL GE.out, H1.out, T1.out, X1.out⟩
theorem sq_mkR : ∀ (fn : Fn) (first cap : Array Value) (w : World), (Instr.makeFunc fn first cap).run Try.prog w = .ok (.func fn first cap) w := fun _ _ _ _ => rfl
theorem own_baseV {w : World} {base base' k : Nat} {t : TypeId} {v : Value} {n : Nat} {xs : List Value} (h : w.ownsRow base t k v n xs) (hb : base' ≤ base) : w.ownsRow base' t k v n xs := by
  refine ⟨h.1, ?_⟩
  rcases h.2 with g | ⟨g, cap, cur, h1, h2, h3⟩
  · exact .inl g
  · exact .inr ⟨g, cap, cur, h1, Nat.le_trans hb h2, h3⟩
/-! ### Pair -/
theorem ent_rpa : ∀ (xs : Array Value) (W : World), (callFunc 55 xs).run Try.prog W = .ok (.enter 55 xs) W := ent_w Try.func55 (by kernel_rfl) rfl
theorem ent_qpa : ∀ (xs : Array Value) (W : World), (callFunc 73 xs).run Try.prog W = .ok (.enter 73 xs) W := ent_w Try.func73 (by kernel_rfl) rfl
/-- What the closures hold. -/
structure KRpa (r g g1 g2 : Nat) (W : World) : Prop where
  b0 : BxT g r (.pointer (some ⟨r, 0, none⟩)) W
  b1 : BxT g1 r (.pointer (some ⟨r, 0, none⟩)) W
  b2 : BxT g2 r (.func (.func 55) #[] #[.pointer (some ⟨g, 0, none⟩)]) W
theorem KRpa.ti {r g g1 g2 : Nat} (W W' : World) (h : KRpa r g g1 g2 W) (k : Ti r W W') : KRpa r g g1 g2 W' := ⟨h.b0.ti k, h.b1.ti k, h.b2.ti k⟩
set_option maxHeartbeats 4000000 in
set_option maxRecDepth 100000 in
theorem rcl_pa {w : World} {r g g1 g2 : Nat} {L : List Int} {q : Bool} (h : Rw w r L q) (hk : KRpa r g g1 g2 w) :
    Calls Try.prog 73 #[.pointer (some ⟨g1, 0, none⟩), .pointer (some ⟨g2, 0, none⟩)] w (ReP kLs ev_ls (listC prC) dvL r L q w) := by
  have H := Lib.hid h
  have HK := Lib.hid hk
  have k1 := hk.b1.cell
  have k2 := hk.b2.cell
  clear h hk
  go_enter Try.func73, Try.ntmps73
  go_wp2_with fail
  with_reducible refine (rl_pr (K := fun W => BxT g r (.pointer (some ⟨r, 0, none⟩)) W) (fun W W' a b => BxT.ti a b) ent_rpa (fun W L q a b => rc_pr a b.cell b.lt b.ne) H.out HK.out.b0).mono ?_
  rintro e w1 ⟨v, n, S, L1, q1, rfl, ho, hn, hbl, h1, t1, x1⟩
  obtain ⟨A, c, rfl, ge, hch⟩ := ho.ch (by omega)
  have H1 := Lib.hid h1
  have T1 := Lib.hid t1
  have X1 := Lib.hid x1
  have CH := Lib.hid hch
  have GE := Lib.hid ge
  have BL := Lib.hid hbl
  clear h1 t1 x1 hch ge ho hbl
  go_wp2_with fail
  go_ret
  refine ⟨⟨A, n, c, S⟩, L1, q1, rfl, CH.out, fun b hb => ?_, H1.out, T1.out, X1.out⟩
  rcases hb with hb | ⟨i, hi, hb⟩
  · exact blN_geL GE.out b hb
  · exact BL.out i hi b hb
set_option maxHeartbeats 4000000 in
set_option maxRecDepth 100000 in
theorem rls_pa {w : World} {r g : Nat} {L : List Int} {q : Bool} (h : Rw w r L q) (hk : BxT g r (.pointer (some ⟨r, 0, none⟩)) w) :
    Calls Try.prog 59 #[.pointer (some ⟨r, 0, none⟩), .func (.func 55) #[] #[.pointer (some ⟨g, 0, none⟩)]] w (RlP kLs 59 (listC prC) dvL r L q w) := by
  have H := Lib.hid h
  have lt := h.lt
  obtain ⟨W1, hW1⟩ : ∃ W1, w.alloc (.cells #[.pointer (some ⟨r, 0, none⟩)] 82) = W1 := ⟨_, rfl⟩
  have b1 : Below w.heap.size w W1 := by rw [← hW1]; exact (Below.refl _ _).alloc (Nat.le_refl _) _
  have s1 : W1.heap.size = w.heap.size + 1 := by rw [← hW1]; simp
  obtain ⟨W2, hW2⟩ : ∃ W2, W1.alloc (.cells #[.func (.func 55) #[] #[.pointer (some ⟨g, 0, none⟩)]] 107) = W2 := ⟨_, rfl⟩
  have b2 : Below W1.heap.size W1 W2 := by rw [← hW2]; exact (Below.refl _ _).alloc (Nat.le_refl _) _
  have t12 : Ti r w W2 := (Ti.of b1 (Nat.le_refl _)).trans (Ti.of b2 (Nat.le_refl _))
  have kk : KRpa r g w.heap.size (w.heap.size + 1) W2 := ⟨hk.ti t12, (by rw [← hW1]; exact BxT.new w _ _ lt : BxT w.heap.size r _ W1).ti (Ti.of b2 (Nat.le_refl _)), by rw [← hW2, ← s1]; exact BxT.new W1 _ _ (by omega)⟩
  have T12 := Lib.hid t12
  have B12 := Lib.hid (show Below w.heap.size w W2 from b1.trans (b2.mono (by omega)))
  have HK := Lib.hid kk
  have k1 := kk.b1.cell
  have he := @sq_mkR
  clear h hk b1 b2 kk t12
  go_enter Try.func59, Try.ntmps59
  go_wp2_with fail
  try rw [hW1]
  try rw [hW2]
  with_reducible refine (rl_ls (K := fun W => KRpa r g w.heap.size (w.heap.size + 1) W) (fun W W' a b => KRpa.ti W W' a b) ent_qpa (fun W L q a b => rcl_pa a b) (H.out.below B12.out) HK.out).mono ?_
  rintro e w3 ⟨v, n, S, L1, q1, rfl, ho, hn, hbl, h1, t1, x1⟩
  obtain ⟨A, c, rfl, -⟩ := ho.form
  have HO := Lib.hid ho
  have HN := Lib.hid hn
  have H1 := Lib.hid h1
  have T1 := Lib.hid t1
  have X1 := Lib.hid x1
  have BL := Lib.hid hbl
  clear h1 t1 x1 ho hbl hn
  go_wp2_with fail
  go_ret
  have hz := B12.out.size
  exact ⟨_, n, S, L1, q1, rfl, ⟨own_baseV HO.out.own hz, HO.out.at_, HO.out.els⟩, HN.out, fun i hi b hb => Nat.le_trans hz (BL.out i hi b hb), H1.out, T12.out.trans T1.out, X1.out⟩
/-! ### Proof -/
theorem ent_rpf : ∀ (xs : Array Value) (W : World), (callFunc 57 xs).run Try.prog W = .ok (.enter 57 xs) W := ent_w Try.func57 (by kernel_rfl) rfl
theorem ent_qpf : ∀ (xs : Array Value) (W : World), (callFunc 76 xs).run Try.prog W = .ok (.enter 76 xs) W := ent_w Try.func76 (by kernel_rfl) rfl
/-- What the closures hold. -/
structure KRpf (r g g1 g2 : Nat) (W : World) : Prop where
  b0 : BxT g r (.pointer (some ⟨r, 0, none⟩)) W
  b1 : BxT g1 r (.pointer (some ⟨r, 0, none⟩)) W
  b2 : BxT g2 r (.func (.func 57) #[] #[.pointer (some ⟨g, 0, none⟩)]) W
theorem KRpf.ti {r g g1 g2 : Nat} (W W' : World) (h : KRpf r g g1 g2 W) (k : Ti r W W') : KRpf r g g1 g2 W' := ⟨h.b0.ti k, h.b1.ti k, h.b2.ti k⟩
set_option maxHeartbeats 4000000 in
set_option maxRecDepth 100000 in
theorem rcl_pf {w : World} {r g g1 g2 : Nat} {L : List Int} {q : Bool} (h : Rw w r L q) (hk : KRpf r g g1 g2 w) :
    Calls Try.prog 76 #[.pointer (some ⟨g1, 0, none⟩), .pointer (some ⟨g2, 0, none⟩)] w (ReP kPs ev_ps (listC pfC) dvQ r L q w) := by
  have H := Lib.hid h
  have HK := Lib.hid hk
  have k1 := hk.b1.cell
  have k2 := hk.b2.cell
  clear h hk
  go_enter Try.func76, Try.ntmps76
  go_wp2_with fail
  with_reducible refine (rl_pf (K := fun W => BxT g r (.pointer (some ⟨r, 0, none⟩)) W) (fun W W' a b => BxT.ti a b) ent_rpf (fun W L q a b => rc_pf a b.cell b.lt b.ne) H.out HK.out.b0).mono ?_
  rintro e w1 ⟨v, n, S, L1, q1, rfl, ho, hn, hbl, h1, t1, x1⟩
  obtain ⟨A, c, rfl, ge, hch⟩ := ho.pfs (by omega)
  have H1 := Lib.hid h1
  have T1 := Lib.hid t1
  have X1 := Lib.hid x1
  have CH := Lib.hid hch
  have GE := Lib.hid ge
  have BL := Lib.hid hbl
  clear h1 t1 x1 hch ge ho hbl
  go_wp2_with fail
  go_ret
  refine ⟨⟨A, n, c, S⟩, L1, q1, rfl, CH.out, fun b hb => ?_, H1.out, T1.out, X1.out⟩
  rcases hb with hb | ⟨i, hi, hb⟩
  · exact blN_geL GE.out b hb
  · exact BL.out i hi b hb
set_option maxHeartbeats 4000000 in
set_option maxRecDepth 100000 in
theorem rls_pf {w : World} {r g : Nat} {L : List Int} {q : Bool} (h : Rw w r L q) (hk : BxT g r (.pointer (some ⟨r, 0, none⟩)) w) :
    Calls Try.prog 60 #[.pointer (some ⟨r, 0, none⟩), .func (.func 57) #[] #[.pointer (some ⟨g, 0, none⟩)]] w (RlP kPs 60 (listC pfC) dvQ r L q w) := by
  have H := Lib.hid h
  have lt := h.lt
  obtain ⟨W1, hW1⟩ : ∃ W1, w.alloc (.cells #[.pointer (some ⟨r, 0, none⟩)] 82) = W1 := ⟨_, rfl⟩
  have b1 : Below w.heap.size w W1 := by rw [← hW1]; exact (Below.refl _ _).alloc (Nat.le_refl _) _
  have s1 : W1.heap.size = w.heap.size + 1 := by rw [← hW1]; simp
  obtain ⟨W2, hW2⟩ : ∃ W2, W1.alloc (.cells #[.func (.func 57) #[] #[.pointer (some ⟨g, 0, none⟩)]] 108) = W2 := ⟨_, rfl⟩
  have b2 : Below W1.heap.size W1 W2 := by rw [← hW2]; exact (Below.refl _ _).alloc (Nat.le_refl _) _
  have t12 : Ti r w W2 := (Ti.of b1 (Nat.le_refl _)).trans (Ti.of b2 (Nat.le_refl _))
  have kk : KRpf r g w.heap.size (w.heap.size + 1) W2 := ⟨hk.ti t12, (by rw [← hW1]; exact BxT.new w _ _ lt : BxT w.heap.size r _ W1).ti (Ti.of b2 (Nat.le_refl _)), by rw [← hW2, ← s1]; exact BxT.new W1 _ _ (by omega)⟩
  have T12 := Lib.hid t12
  have B12 := Lib.hid (show Below w.heap.size w W2 from b1.trans (b2.mono (by omega)))
  have HK := Lib.hid kk
  have k1 := kk.b1.cell
  have he := @sq_mkR
  clear h hk b1 b2 kk t12
  go_enter Try.func60, Try.ntmps60
  go_wp2_with fail
  try rw [hW1]
  try rw [hW2]
  with_reducible refine (rl_ps (K := fun W => KRpf r g w.heap.size (w.heap.size + 1) W) (fun W W' a b => KRpf.ti W W' a b) ent_qpf (fun W L q a b => rcl_pf a b) (H.out.below B12.out) HK.out).mono ?_
  rintro e w3 ⟨v, n, S, L1, q1, rfl, ho, hn, hbl, h1, t1, x1⟩
  obtain ⟨A, c, rfl, -⟩ := ho.form
  have HO := Lib.hid ho
  have HN := Lib.hid hn
  have H1 := Lib.hid h1
  have T1 := Lib.hid t1
  have X1 := Lib.hid x1
  have BL := Lib.hid hbl
  clear h1 t1 x1 ho hbl hn
  go_wp2_with fail
  go_ret
  have hz := B12.out.size
  exact ⟨_, n, S, L1, q1, rfl, ⟨own_baseV HO.out.own hz, HO.out.at_, HO.out.els⟩, HN.out, fun i hi b hb => Nat.le_trans hz (BL.out i hi b hb), H1.out, T12.out.trans T1.out, X1.out⟩
end Go.Proofs.Ytcnekfpgoceblaa
