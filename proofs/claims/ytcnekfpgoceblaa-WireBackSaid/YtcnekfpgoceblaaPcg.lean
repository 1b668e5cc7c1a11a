/-
  Several texts in one: Pr7, Pr8, PrM, Pr9.
-/
import Derived.Test.YtcnekfpgoceblaaPcf
import Derived.Test.YtcnekfpgoceblaaPcj
import Derived.Laws.ResultCell
import Derived.Deep.RegionHeld3
/-
  The program's reading of packets: what packet, read and ReadPacket answer.
-/
namespace Go.Proofs.Ytcnekfpgoceblaa
open Go.RowKit
set_option linter.unusedVariables false
theorem Se.rd {k : IntKind} {s : Nat} {w w' : World} {A : Option Addr} {n : Nat} {xs : List Int} (h : Rd k w A n xs) (se : Se s w w') (hs : ∀ b, BlN A n b → b ≠ s) : Rd k w' A n xs := h.stayK (by rw [se.size]; exact Nat.le_refl _) fun b hb => se.block b (hs b hb)
theorem blN_ge {A : Option Addr} {n B : Nat} (h : ∀ a, A = some a → B ≤ a.block) : ∀ b, BlN A n b → B ≤ b := fun b ⟨a, ha, _, hb⟩ => by rw [← hb]; exact h a ha
theorem resultsS {fn : Func} {p u : Tmp} {ty : TypeId} (h : fn.results = #[.cell p ty, .tmp u]) (tmps : Array Value) (P : Program) (w : World) (g : Nat) (cs : Array Value)
    (hp : tmps.getD p undef = .pointer (some ⟨g, 0, none⟩)) (hl : (loadVar ty ⟨g, 0, none⟩).run P w = .ok (.agg cs) w) {v : Value} (hv : tmps.getD u undef = v) :
    (results fn tmps).run P w = .ok (.tuple #[.agg cs, v]) w := by
  rw [results_cell_tmp h, hp, hv]
  simp [asAddr, hl, Result.andThen]
theorem sizePk : (Try.prog.info? 43).map (·.size) = some 5 := by kernel_rfl
theorem load_pk {w : World} {g : Nat} {x0 x1 x2 x3 x4 : Value} (hg : w.heap[g]? = some (.cells #[x0, x1, x2, x3, x4] 43 (0, 0))) : (loadVar 43 ⟨g, 0, none⟩).run Try.prog w = .ok (.agg #[x0, x1, x2, x3, x4]) w :=
  run_loadVar_row w g _ _ _ _ _ hg Try.underlying43 rfl sizePk
theorem row5 {w : World} {g : Nat} {t : TypeId} {a0 a1 a2 a3 a4 x0 x1 x2 x3 x4 : Value} (hg : w.heap[g]? = some (.cells #[a0, a1, a2, a3, a4] t (0, 0))) :
    (((((w.setCell ⟨g, 0, none⟩ x0).setCell ⟨g, 1, none⟩ x1).setCell ⟨g, 2, none⟩ x2).setCell ⟨g, 3, none⟩ x3).setCell ⟨g, 4, none⟩ x4).heap[g]? = some (.cells #[x0, x1, x2, x3, x4] t (0, 0)) :=
  heap_setCell_same _ g 4 _ _ x4 (heap_setCell_same _ g 3 _ _ x3 (heap_setCell_same _ g 2 _ _ x2 (heap_setCell_same _ g 1 _ _ x1 (heap_setCell_same w g 0 _ _ x0 hg))))
theorem se5 (s : Nat) (w : World) (x0 x1 x2 x3 x4 : Value) : Se s w (((((w.setCell ⟨s, 0, none⟩ x0).setCell ⟨s, 1, none⟩ x1).setCell ⟨s, 2, none⟩ x2).setCell ⟨s, 3, none⟩ x3).setCell ⟨s, 4, none⟩ x4) :=
  (((((Se.refl s w).set 0 _).set 1 _).set 2 _).set 3 _).set 4 _
/-! ### packet -/
def pv (m : Pkd) : PktT := (m.f.toNat, (m.t.toNat, (m.q.toNat, (m.a, m.xs))))
abbrev Pkd.v (m : Pkd) : Value := .agg #[.int .i64 m.f, .int .i64 m.t, .int .u64 m.q, .bool m.a, .slice m.A m.xs.length m.c]
def RpP (r : Nat) (L : List Int) (q : Bool) (w : World) (en : Ending) (w' : World) : Prop :=
  ∃ (m : Pkd) (L' : List Int) (q' : Bool), en = .returned m.v ∧ Rd .u8 w' m.A m.xs.length m.xs ∧ (∀ b, BlN m.A m.xs.length b → w.heap.size ≤ b) ∧ Dig 256 m.xs ∧ m.Cn ∧ Rw w' r L' q' ∧ Ti r w w' ∧ Rx pktC L q (pv m) L' q'
set_option maxHeartbeats 8000000 in
set_option maxRecDepth 100000 in
theorem rpkt_any {w : World} {r : Nat} {L : List Int} {q : Bool} (h : Rw w r L q) :
    Calls Try.prog 32 #[.pointer (some ⟨r, 0, none⟩)] w (RpP r L q w) := by
  have lt := h.lt
  obtain ⟨s, hs⟩ : ∃ s, w.heap.size = s := ⟨_, rfl⟩
  obtain ⟨W1, hW⟩ : ∃ W1, W1 = w.alloc (.cells #[.int .i64 0, .int .i64 0, .int .u64 0, .bool false, .slice none 0 0] 43) := ⟨_, rfl⟩
  have b1 : Below w.heap.size w W1 := by rw [hW]; exact (Below.refl _ _).alloc (Nat.le_refl _) _
  have row : W1.heap[s]? = some (.cells #[.int .i64 0, .int .i64 0, .int .u64 0, .bool false, .slice none 0 0] 43 (0, 0)) := by rw [hW, ← hs]; exact heap_alloc_new w _
  have sz1 : W1.heap.size = s + 1 := by rw [hW, ← hs]; simp
  have HD := Lib.hid (show Rw W1 r L q from h.below b1)
  have BD := Lib.hid (show Ti r w W1 from Ti.of b1 (Nat.le_refl _))
  have RS := Lib.hid (show ∀ W', Ti r W1 W' → W'.heap[s]? = some (.cells #[.int .i64 0, .int .i64 0, .int .u64 0, .bool false, .slice none 0 0] 43 (0, 0)) from fun W' k => (k.block s (by show s < W1.heap.size; omega) (by omega)).trans row)
  have SZ := Lib.hid sz1
  have HS := Lib.hid hs
  clear h b1 row sz1
  go_enter Try.func32, Try.ntmps32
  go_wp2_with fail
  try rw [← hW]
  try rw [hs]
  clear hW hs
  refine (rint_any HD.out).mono ?_
  rintro e u1 ⟨k1, L1, q1, rfl, hk1, h1, t1, x1⟩
  have H1 := Lib.hid h1
  have T1 := Lib.hid t1
  have X1 := Lib.hid x1
  have K1 := Lib.hid hk1
  clear h1 t1 x1 hk1
  go_wp2_with fail
  refine (rint_any H1.out).mono ?_
  rintro e u2 ⟨k2, L2, q2, rfl, hk2, h2, t2, x2⟩
  have H2 := Lib.hid h2
  have T2 := Lib.hid (T1.out.trans t2)
  have X2 := Lib.hid x2
  have K2 := Lib.hid hk2
  clear h2 t2 x2 hk2
  go_wp2_with fail
  refine (rcntT_any H2.out).mono ?_
  rintro e u3 ⟨k3, L3, q3, rfl, hk3, h3, t3, x3, -⟩
  have H3 := Lib.hid h3
  have T3 := Lib.hid (T2.out.trans t3)
  have X3 := Lib.hid x3
  have K3 := Lib.hid hk3
  clear h3 t3 x3 hk3
  go_wp2_with fail
  refine (rflag_any H3.out).mono ?_
  rintro e u4 ⟨k4, L4, q4, rfl, h4, t4, x4⟩
  have H4 := Lib.hid h4
  have T4 := Lib.hid (T3.out.trans t4)
  have X4 := Lib.hid x4
  clear h4 t4 x4
  go_wp2_with fail
  refine (rtext_any H4.out).mono ?_
  rintro e u5 ⟨v, bs, L5, q5, rfl, ho, hdg, h5, t5, x5⟩
  obtain ⟨A5, c5, rfl, rd5, -, ge5⟩ := own_rd ho
  have H5 := Lib.hid h5
  have T5 := Lib.hid (T4.out.trans t5)
  have X5 := Lib.hid x5
  have DG := Lib.hid hdg
  have R5 := Lib.hid rd5
  have G5 := Lib.hid (blN_ge (n := bs.length) ge5)
  have RR := Lib.hid (RS.out u5 T5.out)
  have y0 := cell_of_row u5 s 0 _ _ _ RR.out
  have y1 := cell_of_row u5 s 1 _ _ _ RR.out
  have y2 := cell_of_row u5 s 2 _ _ _ RR.out
  have y3 := cell_of_row u5 s 3 _ _ _ RR.out
  have y4 := cell_of_row u5 s 4 _ _ _ RR.out
  have f0 := frozen_of_row u5 s 0 _ _ RR.out
  have f1 := frozen_of_row u5 s 1 _ _ RR.out
  have f2 := frozen_of_row u5 s 2 _ _ RR.out
  have f3 := frozen_of_row u5 s 3 _ _ RR.out
  have f4 := frozen_of_row u5 s 4 _ _ RR.out
  clear h5 t5 x5 hdg rd5 ge5 ho
  go_wp2_with fail
  refine bodyPost_ret (v := .agg #[.int .i64 (k1 : Int), .int .i64 (k2 : Int), .int .u64 (k3 : Int), .bool k4, .slice A5 bs.length c5]) (results_cell_row Try.results32 _ _ s _ _ _ _ rfl (row5 RR.out) Try.underlying43 rfl sizePk) rfl ?_
  have z4 := T4.out.size
  have z0 := SZ.out
  have hs := HS.out
  have se := se5 s u5 (.int .i64 (k1 : Int)) (.int .i64 (k2 : Int)) (.int .u64 (k3 : Int)) (.bool k4) (.slice A5 bs.length c5)
  have c1 : Cnt (k1 : Int) := ⟨by omega, by have := K1.out; unfold topC at this; omega⟩
  have c2 : Cnt (k2 : Int) := ⟨by omega, by have := K2.out; unfold topC at this; omega⟩
  have c3 : Cnt (k3 : Int) := ⟨by omega, by have := K3.out; unfold topC at this; omega⟩
  exact ⟨⟨k1, k2, k3, k4, A5, c5, bs⟩, L5, q5, rfl, se.rd R5.out (fun b hb => by have := G5.out b hb; omega), (fun b hb => by have := G5.out b hb; omega), DG.out, ⟨c1, c2, c3⟩, se.rw_ H5.out (by omega), se.ti (BD.out.trans T5.out) (by omega), Rx.pair X1.out (Rx.pair X2.out (Rx.pair X3.out (Rx.pair X4.out X5.out)))⟩
end Go.Proofs.Ytcnekfpgoceblaa
/-
  The program's reading: what read and ReadPacket answer. By program: genpr8.py pk.
-/
namespace Go.Proofs.Ytcnekfpgoceblaa
open Go.RowKit
set_option linter.unusedVariables false
/-- A packet that was read, in memory. -/
structure MemP (w : World) (m : Pkd) : Prop where
  rd : Rd .u8 w m.A m.xs.length m.xs
  dig_ : Dig 256 m.xs
  cn : m.Cn
def Pkd.Bl (m : Pkd) (b : Nat) : Prop := BlN m.A m.xs.length b
theorem MemP.stay {w w' : World} {m : Pkd} (h : MemP w m) (hs : w.heap.size ≤ w'.heap.size) (hb : ∀ b, m.Bl b → b < w.heap.size → w'.heap[b]? = w.heap[b]?) : MemP w' m := ⟨h.rd.stayK hs fun b g => hb b g (h.rd.bltK g), h.dig_, h.cn⟩
/-- What was read, or why nothing was. -/
def Ropk (xs : List Int) (w : World) (en : Ending) (w' : World) : Prop :=
  (∃ m : Pkd, rdC pktC 2097152 xs = (0, some (pv m)) ∧ en = .returned (.tuple #[m.v, .nilIface]) ∧ MemP w' m ∧ (∀ b, m.Bl b → w.heap.size ≤ b) ∧ Below w.heap.size w w') ∨
  (∃ code : Int, rdC pktC 2097152 xs = (code, none) ∧ (code = 2 ∨ code = 9 ∨ code = 10) ∧ en = .returned (.tuple #[.agg #[.int .i64 0, .int .i64 0, .int .u64 0, .bool false, .slice none 0 0], .iface 57 (.int .i64 code)]) ∧ Below w.heap.size w w')
theorem ent_pk : ∀ (xs : Array Value) (W : World), (callFunc 32 xs).run Try.prog W = .ok (.enter 32 xs) W := ent_w Try.func32 (by kernel_rfl) rfl
theorem Se.below {s B : Nat} {w w' : World} (h : Se s w w') (hs : B ≤ s) : Below B w w' := ⟨h.os, h.tape, h.output, by rw [h.size]; exact Nat.le_refl _, fun k hk => h.block k (by omega)⟩
set_option maxHeartbeats 16000000 in
set_option maxRecDepth 100000 in
theorem pread_pk {w : World} {A : Option Addr} {n c : Nat} {xs : List Int} (hr : Rd .u8 w A n xs) (hd : Dig 256 xs) (hnc : n ≤ c) (hn47 : n ≤ 140737488355328) :
    Calls Try.prog 31 #[.slice A n c, .int .i64 2097152, .func (.func 32) #[] #[]] w (Ropk xs w) := by
  have HR := Lib.hid hr
  have HD := Lib.hid hd
  have HL := Lib.hid hr.len
  obtain ⟨s, hs⟩ : ∃ s, w.heap.size = s := ⟨_, rfl⟩
  obtain ⟨W1, hW1⟩ : ∃ W1, w.alloc (.cells #[.int .i64 0, .int .i64 0, .int .u64 0, .bool false, .slice none 0 0] 43) = W1 := ⟨_, rfl⟩
  have b1 : Below w.heap.size w W1 := by rw [← hW1]; exact (Below.refl _ _).alloc (Nat.le_refl _) _
  have s1 : W1.heap.size = s + 1 := by rw [← hW1, ← hs]; simp
  have r10 : W1.heap[s]? = some (.cells #[.int .i64 0, .int .i64 0, .int .u64 0, .bool false, .slice none 0 0] 43 (0, 0)) := by rw [← hW1, ← hs]; exact heap_alloc_new w _
  obtain ⟨W2, hW2⟩ : ∃ W2, W1.alloc (.cells #[.int .i64 0, .int .i64 0, .int .u64 0, .bool false, .slice none 0 0] 43) = W2 := ⟨_, rfl⟩
  have b2 : Below W1.heap.size W1 W2 := by rw [← hW2]; exact (Below.refl _ _).alloc (Nat.le_refl _) _
  have s2 : W2.heap.size = s + 2 := by rw [← hW2]; simp [s1]
  have R21 := Lib.hid (show W2.heap[s + 1]? = some (.cells #[.int .i64 0, .int .i64 0, .int .u64 0, .bool false, .slice none 0 0] 43 (0, 0)) by rw [← hW2, ← s1]; exact heap_alloc_new W1 _)
  have R20 := Lib.hid (show W2.heap[s]? = some (.cells #[.int .i64 0, .int .i64 0, .int .u64 0, .bool false, .slice none 0 0] 43 (0, 0)) from (b2.block s (by omega)).trans r10)
  have B2 := Lib.hid (show Below w.heap.size w W2 from b1.trans (b2.mono (by omega)))
  have HS := Lib.hid hs
  clear hr hd b1 b2 r10
  rcases Nat.lt_or_ge 2097152 n with g | g
  · have e1 : decide ((2097152 : Int) < (n : Int)) = true := by simp; omega
    have x0 := cell_of_row W2 s 0 _ _ _ R20.out
    have x1 := cell_of_row W2 s 1 _ _ _ R20.out
    have x2 := cell_of_row W2 s 2 _ _ _ R20.out
    have x3 := cell_of_row W2 s 3 _ _ _ R20.out
    have x4 := cell_of_row W2 s 4 _ _ _ R20.out
    have f0 := frozen_of_row W2 s 0 _ _ R20.out
    have f1 := frozen_of_row W2 s 1 _ _ R20.out
    have f2 := frozen_of_row W2 s 2 _ _ R20.out
    have f3 := frozen_of_row W2 s 3 _ _ R20.out
    have f4 := frozen_of_row W2 s 4 _ _ R20.out
    have y0 := cell_of_row W2 (s + 1) 0 _ _ _ R21.out
    have y1 := cell_of_row W2 (s + 1) 1 _ _ _ R21.out
    have y2 := cell_of_row W2 (s + 1) 2 _ _ _ R21.out
    have y3 := cell_of_row W2 (s + 1) 3 _ _ _ R21.out
    have y4 := cell_of_row W2 (s + 1) 4 _ _ _ R21.out

    have G := Lib.hid g
    clear g
    go_enter Try.func31, Try.ntmps31
    go_wp2_with fail
    refine bodyPost_ret (v := .tuple #[.agg #[.int .i64 0, .int .i64 0, .int .u64 0, .bool false, .slice none 0 0], .iface 57 (.int .i64 2)]) (resultsS Try.results31 _ _ _ s _ rfl (load_pk (row5 R20.out)) rfl) rfl ?_
    refine .inr ⟨2, ?_, .inl rfl, rfl, B2.out.trans ((se5 s W2 (.int .i64 0) (.int .i64 0) (.int .u64 0) (.bool false) (.slice none 0 0)).below (by have := HS.out; omega))⟩
    unfold rdC
    rw [if_pos (by rw [HL.out]; exact G.out)]
  · have e1 : decide ((2097152 : Int) < (n : Int)) = false := by simp; omega
    obtain ⟨W3, hW3⟩ : ∃ W3, W2.alloc (.cells #[.slice A n c, .bool false] 105) = W3 := ⟨_, rfl⟩
    have b3 : Below W2.heap.size W2 W3 := by rw [← hW3]; exact (Below.refl _ _).alloc (Nat.le_refl _) _
    have R3 := Lib.hid (show W3.heap[s + 2]? = some (.cells #[.slice A n c, .bool false] 105 (0, 0)) by rw [← hW3, ← s2]; exact heap_alloc_new W2 _)
    have B3 := Lib.hid (show Below w.heap.size w W3 from B2.out.trans (b3.mono (by have := HS.out; omega)))
    have RW := Lib.hid (show Rw W3 (s + 2) xs false from ⟨A, n, c, R3.out, HR.out.below B3.out, HD.out, fun a ha hn => by
      obtain ⟨b, off, e, hb, -⟩ := HR.out.cells hn
      rw [e] at ha
      injection ha with ha
      subst ha
      have := HS.out
      show b < s + 2
      omega, hnc, (fun h => by cases h), by omega⟩)
    have S3 := Lib.hid (show W3.heap.size = s + 3 by rw [← hW3]; simp [s2])
    have R30 := Lib.hid (show W3.heap[s]? = some (.cells #[.int .i64 0, .int .i64 0, .int .u64 0, .bool false, .slice none 0 0] 43 (0, 0)) from (b3.block s (by omega)).trans R20.out)
    have R31 := Lib.hid (show W3.heap[s + 1]? = some (.cells #[.int .i64 0, .int .i64 0, .int .u64 0, .bool false, .slice none 0 0] 43 (0, 0)) from (b3.block (s + 1) (by omega)).trans R21.out)
    have G := Lib.hid g
    clear g b3
    go_enter Try.func31, Try.ntmps31
    have he := ent_pk
    go_wp2_with fail
    try rw [hW1]
    try rw [hW2]
    try rw [hW3]
    refine (rpkt_any RW.out).mono ?_
    rintro e u4 ⟨m, L4, q4, rfl, hmem, hge, hdg, hcn, hq4, t4, rx4⟩
    skip
    have M4 := Lib.hid (show MemP u4 m from ⟨hmem, hdg, hcn⟩)
    have H4 := Lib.hid hq4
    have T4 := Lib.hid t4
    have X4 := Lib.hid rx4
    have GE := Lib.hid (show ∀ b, m.Bl b → W3.heap.size ≤ b from hge)
    obtain ⟨S4, hS4⟩ : ∃ S4, u4.heap.size = S4 := ⟨_, rfl⟩
    obtain ⟨W5, hW5⟩ : ∃ W5, u4.alloc (.cells #[.int .i64 m.f, .int .i64 m.t, .int .u64 m.q, .bool m.a, .slice m.A m.xs.length m.c] 43) = W5 := ⟨_, rfl⟩
    have B5 := Lib.hid (show Below u4.heap.size u4 W5 by rw [← hW5]; exact (Below.refl _ _).alloc (Nat.le_refl _) _)
    have R5 := Lib.hid (show W5.heap[u4.heap.size]? = some (.cells #[.int .i64 m.f, .int .i64 m.t, .int .u64 m.q, .bool m.a, .slice m.A m.xs.length m.c] 43 (0, 0)) by rw [← hW5]; exact heap_alloc_new u4 _)
    have H5 := Lib.hid (H4.out.below B5.out)
    have T5 := Lib.hid (t4.trans (Ti.of B5.out (Nat.le_refl _)))
    have L5 := Lib.hid (show s + 3 ≤ u4.heap.size by have := t4.size; have := S3.out; omega)
    have R50 := Lib.hid (show W5.heap[s]? = some (.cells #[.int .i64 0, .int .i64 0, .int .u64 0, .bool false, .slice none 0 0] 43 (0, 0)) from (T5.out.block s (by have := S3.out; omega) (by omega)).trans R30.out)
    have R51 := Lib.hid (show W5.heap[s + 1]? = some (.cells #[.int .i64 0, .int .i64 0, .int .u64 0, .bool false, .slice none 0 0] 43 (0, 0)) from (T5.out.block (s + 1) (by have := S3.out; omega) (by omega)).trans R31.out)
    have M5 := Lib.hid (M4.out.stay B5.out.size fun k h1 h2 => B5.out.block k h2)
    have BE := Lib.hid (show ∀ W', Se s W5 W' → Below w.heap.size w W' from fun W' k => (B3.out.trans (T5.out.below (by have := HS.out; omega) (by have := S3.out; have := HS.out; omega))).trans (k.below (by have := HS.out; omega)))
    obtain ⟨A6, n6, c6, hrr⟩ := H5.out
    have c0 := hrr.c0
    have c1 := hrr.c1
    have HN6 := Lib.hid hrr.rd.len
    have x0 := cell_of_row W5 s 0 _ _ _ R50.out
    have x1 := cell_of_row W5 s 1 _ _ _ R50.out
    have x2 := cell_of_row W5 s 2 _ _ _ R50.out
    have x3 := cell_of_row W5 s 3 _ _ _ R50.out
    have x4 := cell_of_row W5 s 4 _ _ _ R50.out
    have f0 := frozen_of_row W5 s 0 _ _ R50.out
    have f1 := frozen_of_row W5 s 1 _ _ R50.out
    have f2 := frozen_of_row W5 s 2 _ _ R50.out
    have f3 := frozen_of_row W5 s 3 _ _ R50.out
    have f4 := frozen_of_row W5 s 4 _ _ R50.out
    have y0 := cell_of_row W5 (s + 1) 0 _ _ _ R51.out
    have y1 := cell_of_row W5 (s + 1) 1 _ _ _ R51.out
    have y2 := cell_of_row W5 (s + 1) 2 _ _ _ R51.out
    have y3 := cell_of_row W5 (s + 1) 3 _ _ _ R51.out
    have y4 := cell_of_row W5 (s + 1) 4 _ _ _ R51.out
    have z0 := cell_of_row W5 u4.heap.size 0 _ _ _ R5.out
    have z1 := cell_of_row W5 u4.heap.size 1 _ _ _ R5.out
    have z2 := cell_of_row W5 u4.heap.size 2 _ _ _ R5.out
    have z3 := cell_of_row W5 u4.heap.size 3 _ _ _ R5.out
    have z4 := cell_of_row W5 u4.heap.size 4 _ _ _ R5.out

    clear hmem hq4 t4 rx4 hge hrr hW1 hW2 hW3 he s1 s2 hs hdg hcn
    have hS4' := Lib.hid hS4
    clear hS4
    cases q4 with
    | true =>
      go_wp2_with fail
      refine bodyPost_ret (v := .tuple #[.agg #[.int .i64 0, .int .i64 0, .int .u64 0, .bool false, .slice none 0 0], .iface 57 (.int .i64 9)]) (resultsS Try.results31 _ _ _ s _ rfl (load_pk (row5 R50.out)) rfl) rfl ?_
      refine .inr ⟨9, ?_, .inr (.inl rfl), rfl, BE.out _ (se5 s W5 (.int .i64 0) (.int .i64 0) (.int .u64 0) (.bool false) (.slice none 0 0))⟩
      unfold rdC
      rw [if_neg (by rw [HL.out]; have := G.out; omega)]
      rcases X4.out with ⟨-, -, k⟩ | ⟨k | k, -⟩
      · cases k
      · cases k
      · rw [k]
    | false =>
      have DEC := Lib.hid (show pktC.dec xs = some (pv m, L4) by
        rcases X4.out with ⟨-, k, -⟩ | ⟨-, k⟩
        · exact k
        · cases k)
      rcases Nat.eq_zero_or_pos n6 with g0 | g0
      · have e6 : decide (0 < n6) = false := by simp; omega
        have G0 := Lib.hid g0
        clear g0
        go_wp2_with fail
        refine bodyPost_ret (v := .tuple #[.agg #[.int .i64 m.f, .int .i64 m.t, .int .u64 m.q, .bool m.a, .slice m.A m.xs.length m.c], .nilIface]) (resultsS Try.results31 _ _ _ s _ rfl (load_pk (row5 R50.out)) rfl) rfl ?_
        have L0 : L4 = [] := List.eq_nil_of_length_eq_zero (by rw [HN6.out]; exact G0.out)
        refine .inl ⟨m, ?_, rfl, M5.out.stay (by rw [(se5 s W5 (.int .i64 m.f) (.int .i64 m.t) (.int .u64 m.q) (.bool m.a) (.slice m.A m.xs.length m.c)).size]; exact Nat.le_refl _) (fun k h1 h2 => (se5 s W5 (.int .i64 m.f) (.int .i64 m.t) (.int .u64 m.q) (.bool m.a) (.slice m.A m.xs.length m.c)).block k (by have := GE.out k h1; have := S3.out; omega)), (fun b hb => by have := GE.out b hb; have := S3.out; have := HS.out; omega), BE.out _ (se5 s W5 (.int .i64 m.f) (.int .i64 m.t) (.int .u64 m.q) (.bool m.a) (.slice m.A m.xs.length m.c))⟩
        unfold rdC
        rw [if_neg (by rw [HL.out]; have := G.out; omega), DEC.out, L0]
      · have e6 : decide (0 < n6) = true := by simp; omega
        have G0 := Lib.hid g0
        clear g0
        go_wp2_with fail
        refine bodyPost_ret (v := .tuple #[.agg #[.int .i64 0, .int .i64 0, .int .u64 0, .bool false, .slice none 0 0], .iface 57 (.int .i64 10)]) (resultsS Try.results31 _ _ _ s _ rfl (load_pk (row5 R50.out)) rfl) rfl ?_
        refine .inr ⟨10, ?_, .inr (.inr rfl), rfl, BE.out _ (se5 s W5 (.int .i64 0) (.int .i64 0) (.int .u64 0) (.bool false) (.slice none 0 0))⟩
        unfold rdC
        rw [if_neg (by rw [HL.out]; have := G.out; omega), DEC.out]
        cases hL : L4 with
        | nil =>
          have h9 := HN6.out
          rw [hL] at h9
          have := G0.out
          simp at h9
          omega
        | cons a l => rfl
set_option maxHeartbeats 16000000 in
set_option maxRecDepth 100000 in
theorem pReadPacket_any {w : World} {A : Option Addr} {n c : Nat} {xs : List Int} (hr : Rd .u8 w A n xs) (hd : Dig 256 xs) (hnc : n ≤ c) (hn47 : n ≤ 140737488355328) :
    Calls Try.prog 16 #[.slice A n c] w (Ropk xs w) := by
  have HR := Lib.hid hr
  have HD := Lib.hid hd
  obtain ⟨s, hs⟩ : ∃ s, w.heap.size = s := ⟨_, rfl⟩
  obtain ⟨W1, hW1⟩ : ∃ W1, w.alloc (.cells #[.int .i64 0, .int .i64 0, .int .u64 0, .bool false, .slice none 0 0] 43) = W1 := ⟨_, rfl⟩
  have B1 := Lib.hid (show Below w.heap.size w W1 by rw [← hW1]; exact (Below.refl _ _).alloc (Nat.le_refl _) _)
  have R1 := Lib.hid (show W1.heap[s]? = some (.cells #[.int .i64 0, .int .i64 0, .int .u64 0, .bool false, .slice none 0 0] 43 (0, 0)) by rw [← hW1, ← hs]; exact heap_alloc_new w _)
  have S1 := Lib.hid (show W1.heap.size = s + 1 by rw [← hW1, ← hs]; simp)
  have HS := Lib.hid hs
  clear hr hd
  go_enter Try.func16, Try.ntmps16
  go_wp2_with fail
  try rw [hW1]
  refine (pread_pk (HR.out.below B1.out) HD.out hnc hn47).mono ?_
  have hW1' := Lib.hid hW1
  clear hW1
  rintro e u2 (⟨m, hrd, rfl, hmem, hge, hb⟩ | ⟨code, hrd, hc, rfl, hb⟩)
  · have RR := Lib.hid (show u2.heap[s]? = some (.cells #[.int .i64 0, .int .i64 0, .int .u64 0, .bool false, .slice none 0 0] 43 (0, 0)) from (hb.block s (by have := S1.out; omega)).trans R1.out)
    have B2 := Lib.hid (show Below w.heap.size w u2 from B1.out.trans (hb.mono B1.out.size))
    have HM := Lib.hid hmem
    have HRD := Lib.hid hrd
    have GE := Lib.hid hge
    have x0 := cell_of_row u2 s 0 _ _ _ RR.out
    have x1 := cell_of_row u2 s 1 _ _ _ RR.out
    have x2 := cell_of_row u2 s 2 _ _ _ RR.out
    have x3 := cell_of_row u2 s 3 _ _ _ RR.out
    have x4 := cell_of_row u2 s 4 _ _ _ RR.out
    have f0 := frozen_of_row u2 s 0 _ _ RR.out
    have f1 := frozen_of_row u2 s 1 _ _ RR.out
    have f2 := frozen_of_row u2 s 2 _ _ RR.out
    have f3 := frozen_of_row u2 s 3 _ _ RR.out
    have f4 := frozen_of_row u2 s 4 _ _ RR.out

    clear hrd hmem hb hge
    skip
    go_wp2_with fail
    refine bodyPost_ret (v := .tuple #[.agg #[.int .i64 m.f, .int .i64 m.t, .int .u64 m.q, .bool m.a, .slice m.A m.xs.length m.c], .nilIface]) (resultsS Try.results16 _ _ _ s _ rfl (load_pk (row5 RR.out)) rfl) rfl ?_
    exact .inl ⟨m, HRD.out, rfl, HM.out.stay (by rw [(se5 s u2 (.int .i64 m.f) (.int .i64 m.t) (.int .u64 m.q) (.bool m.a) (.slice m.A m.xs.length m.c)).size]; exact Nat.le_refl _) (fun k h1 h2 => (se5 s u2 (.int .i64 m.f) (.int .i64 m.t) (.int .u64 m.q) (.bool m.a) (.slice m.A m.xs.length m.c)).block k (by have := GE.out k h1; have := S1.out; omega)), (fun b hb => by have := GE.out b hb; have := S1.out; have := HS.out; omega), B2.out.trans ((se5 s u2 (.int .i64 m.f) (.int .i64 m.t) (.int .u64 m.q) (.bool m.a) (.slice m.A m.xs.length m.c)).below (by have := HS.out; omega))⟩
  · have RR := Lib.hid (show u2.heap[s]? = some (.cells #[.int .i64 0, .int .i64 0, .int .u64 0, .bool false, .slice none 0 0] 43 (0, 0)) from (hb.block s (by have := S1.out; omega)).trans R1.out)
    have B2 := Lib.hid (show Below w.heap.size w u2 from B1.out.trans (hb.mono B1.out.size))
    have HRD := Lib.hid hrd
    have HC := Lib.hid hc
    have x0 := cell_of_row u2 s 0 _ _ _ RR.out
    have x1 := cell_of_row u2 s 1 _ _ _ RR.out
    have x2 := cell_of_row u2 s 2 _ _ _ RR.out
    have x3 := cell_of_row u2 s 3 _ _ _ RR.out
    have x4 := cell_of_row u2 s 4 _ _ _ RR.out
    have f0 := frozen_of_row u2 s 0 _ _ RR.out
    have f1 := frozen_of_row u2 s 1 _ _ RR.out
    have f2 := frozen_of_row u2 s 2 _ _ RR.out
    have f3 := frozen_of_row u2 s 3 _ _ RR.out
    have f4 := frozen_of_row u2 s 4 _ _ RR.out

    clear hrd hb hc
    go_wp2_with fail
    refine bodyPost_ret (v := .tuple #[.agg #[.int .i64 0, .int .i64 0, .int .u64 0, .bool false, .slice none 0 0], .iface 57 (.int .i64 code)]) (resultsS Try.results16 _ _ _ s _ rfl (load_pk (row5 RR.out)) rfl) rfl ?_
    exact .inr ⟨code, HRD.out, HC.out, rfl, B2.out.trans ((se5 s u2 (.int .i64 0) (.int .i64 0) (.int .u64 0) (.bool false) (.slice none 0 0)).below (by have := HS.out; omega))⟩
end Go.Proofs.Ytcnekfpgoceblaa
/-
  The program's reader: what message answers. By program: genprm.py.
-/
namespace Go.Proofs.Ytcnekfpgoceblaa
open Go.RowKit
set_option linter.unusedVariables false
/-! ### A message that was read, in memory -/
def Mgd.Bl (m : Mgd) (b : Nat) : Prop := (BlN m.Ab m.nb b ∨ ∃ i, i < m.nb ∧ BlL (m.B i) b) ∨ (BlN m.Ap m.np b ∨ ∃ i, i < m.np ∧ BlQ (m.P i) b) ∨ (BlN m.At m.nt b ∨ ∃ i, i < m.nt ∧ BlN (m.T i).A (m.T i).xs.length b) ∨ BlN m.Av m.nv b
theorem cells_stay {w w' : World} {A : Option Addr} {n b off : Nat} (e : A = some ⟨b, off, none⟩) (hn : 0 < n) (hb : ∀ b, BlN A n b → w'.heap[b]? = w.heap[b]?) : ∀ o, w'.cell? ⟨b, o, none⟩ = w.cell? ⟨b, o, none⟩ := fun o => World.cell?_of_block (a := ⟨b, o, none⟩) (hb b ⟨_, e, hn, rfl⟩)
theorem Bat.stay {w w' : World} {A : Option Addr} {n c : Nat} {B : Nat → Lsl} (h : Bat w A n c B) (hs : w.heap.size ≤ w'.heap.size) (hb : ∀ b, (BlN A n b ∨ ∃ i, i < n ∧ BlL (B i) b) → w'.heap[b]? = w.heap[b]?) : Bat w' A n c B := by
  refine ⟨h.nc, h.c60, fun hn => ?_, fun i hi => (h.at_ i hi).stay hs fun b g => hb b (.inr ⟨i, hi, g⟩)⟩
  obtain ⟨b, off, e, hl, hc⟩ := h.ex hn
  exact ⟨b, off, e, Nat.lt_of_lt_of_le hl hs, fun i hi => (cells_stay e hn (fun b g => hb b (.inl g)) _).trans (hc i hi)⟩
theorem Pba.stay {w w' : World} {A : Option Addr} {n c : Nat} {B : Nat → Psl} (h : Pba w A n c B) (hs : w.heap.size ≤ w'.heap.size) (hb : ∀ b, (BlN A n b ∨ ∃ i, i < n ∧ BlQ (B i) b) → w'.heap[b]? = w.heap[b]?) : Pba w' A n c B := by
  refine ⟨h.nc, h.c60, fun hn => ?_, fun i hi => (h.at_ i hi).stay hs fun b g => hb b (.inr ⟨i, hi, g⟩)⟩
  obtain ⟨b, off, e, hl, hc⟩ := h.ex hn
  exact ⟨b, off, e, Nat.lt_of_lt_of_le hl hs, fun i hi => (cells_stay e hn (fun b g => hb b (.inl g)) _).trans (hc i hi)⟩
theorem Txs.stay {w w' : World} {A : Option Addr} {n c : Nat} {T : Nat → Txt} (h : Txs w A n c T) (hs : w.heap.size ≤ w'.heap.size) (hb : ∀ b, (BlN A n b ∨ ∃ i, i < n ∧ BlN (T i).A (T i).xs.length b) → w'.heap[b]? = w.heap[b]?) : Txs w' A n c T := by
  refine ⟨h.nc, h.c60, fun hn => ?_, fun i hi => ⟨(h.at_ i hi).1.stayK hs fun b g => hb b (.inr ⟨i, hi, g⟩), (h.at_ i hi).2⟩⟩
  obtain ⟨b, off, e, hl, hc⟩ := h.ex hn
  exact ⟨b, off, e, Nat.lt_of_lt_of_le hl hs, fun i hi => (cells_stay e hn (fun b g => hb b (.inl g)) _).trans (hc i hi)⟩
theorem own_bl {w : World} {A : Option Addr} {n b : Nat} (h : 0 < n → ∃ b off, A = some ⟨b, off, none⟩ ∧ b < w.heap.size) (hb : BlN A n b) : b < w.heap.size := by
  obtain ⟨a, e, hn, rfl⟩ := hb
  obtain ⟨b, off, e2, hl⟩ := h hn
  rw [e2] at e
  injection e with e
  rw [← e]
  exact hl
theorem Mg.blt {w : World} {m : Mgd} (h : Mg w m) {b : Nat} (hb : m.Bl b) : b < w.heap.size := by
  rcases hb with (hb | ⟨i, hi, hb⟩) | (hb | ⟨i, hi, hb⟩) | (hb | ⟨i, hi, hb⟩) | hb
  · exact own_bl (fun hn => by obtain ⟨b, off, e, hl, -⟩ := h.b.ex hn; exact ⟨b, off, e, hl⟩) hb
  · exact Ch.blt (h.b.at_ i hi) hb
  · exact own_bl (fun hn => by obtain ⟨b, off, e, hl, -⟩ := h.p.ex hn; exact ⟨b, off, e, hl⟩) hb
  · exact Pfs.blt (h.p.at_ i hi) hb
  · exact own_bl (fun hn => by obtain ⟨b, off, e, hl, -⟩ := h.t.ex hn; exact ⟨b, off, e, hl⟩) hb
  · exact (h.t.at_ i hi).1.bltK hb
  · exact h.v.blt hb
theorem Mg.stay {w w' : World} {m : Mgd} (h : Mg w m) (hs : w.heap.size ≤ w'.heap.size) (hb : ∀ b, m.Bl b → w'.heap[b]? = w.heap[b]?) : Mg w' m :=
  ⟨h.b.stay hs fun b g => hb b (.inl g), h.p.stay hs fun b g => hb b (.inr (.inl g)), h.t.stay hs fun b g => hb b (.inr (.inr (.inl g))), h.v.stay hs fun b g => hb b (.inr (.inr (.inr g)))⟩
structure MemM (w : World) (m : Mgd) : Prop where
  mg : Mg w m
  cn : m.Cn
theorem MemM.stay {w w' : World} {m : Mgd} (h : MemM w m) (hs : w.heap.size ≤ w'.heap.size) (hb : ∀ b, m.Bl b → b < w.heap.size → w'.heap[b]? = w.heap[b]?) : MemM w' m := ⟨h.mg.stay hs fun b g => hb b g (h.mg.blt g), h.cn⟩
/-- What a message tells. -/
def mv (m : Mgd) : MsgT := (m.k.toNat, (m.g.toNat, (m.l.toNat, (m.p.toNat, (m.s.toNat, (m.u.toNat, (m.ok, ((List.range m.nb).map (fun i => dvL (m.B i)), ((List.range m.np).map (fun i => dvQ (m.P i)), ((List.range m.nt).map (fun i => (m.T i).xs), (m.i.toNat, dg W m.V)))))))))))
def RmP (r : Nat) (L : List Int) (q : Bool) (w : World) (en : Ending) (w' : World) : Prop :=
  ∃ (m : Mgd) (L' : List Int) (q' : Bool), en = .returned (.agg m.cells) ∧ MemM w' m ∧ (∀ b, m.Bl b → w.heap.size ≤ b) ∧ Rw w' r L' q' ∧ Ti r w w' ∧ Rx msgC L q (mv m) L' q'
/-- The call's own list, much later. -/
theorem Owk.fz {κ : Type} {k : Nat} {KD : Kk κ k} {e : TypeId} {w w' : World} {base : Nat} {v : Value} {n : Nat} {S : Nat → κ} (h : Owk KD e w base v n S) (hs : w.heap.size ≤ w'.heap.size) (hb : ∀ k, base ≤ k → k < w.heap.size → w'.heap[k]? = w.heap[k]?) (hbl : ∀ i, i < n → ∀ b, KD.Bl (S i) b → base ≤ b) : Owk KD e w' base v n S :=
  ⟨ownsRow_block h.own fun g eg => hb g (h.lt eg).1 (h.lt eg).2, fun i hi => KD.stay (h.at_ i hi) hs fun b g => hb b (hbl i hi b g) (KD.lt (h.at_ i hi) g), h.els⟩
theorem later {r s B : Nat} {u v w : World} (h : Ti r u v) (k : Se s v w) (hr : r < B) (hs : s < B) : u.heap.size ≤ w.heap.size ∧ ∀ k, B ≤ k → k < u.heap.size → w.heap[k]? = u.heap[k]? :=
  ⟨by rw [k.size]; exact h.size, fun j h1 h2 => (k.block j (by omega)).trans (h.block j h2 (by omega))⟩
theorem len_flat {α : Type} {f : α → List Int} {v : α} {vs : List α} (h : v ∈ vs) : (f v).length ≤ (vs.flatMap f).length := by
  induction vs with
  | nil => cases h
  | cons a l ih =>
    rw [List.flatMap_cons, List.length_append]
    rcases List.mem_cons.1 h with rfl | h
    · omega
    · have := ih h; omega
/-- No text that was read is longer than what was read. -/
theorem list_bytes {c : Nat} : ∀ (n : Nat) (l : List Int) (vs : List (List Int)) (r : List Int), Dig 256 l → bytesC.decN n l = some (vs, r) → l.length ≤ c → ∀ v ∈ vs, v.length ≤ c := fun n l vs r hd h hl v hv => by
  have h1 := (bytesC.decN_bwd n l vs r hd h).2.2
  have h2 : (bytesC.enc v).length ≤ (vs.flatMap bytesC.enc).length := len_flat hv
  rw [bytesC_enc, List.length_append] at h2
  rw [h1, List.length_append] at hl
  omega
theorem sizeMg : (Try.prog.info? 30).map (·.size) = some 12 := by kernel_rfl
theorem load_mg {w : World} {g : Nat} {x0 x1 x2 x3 x4 x5 x6 x7 x8 x9 x10 x11 : Value} (hg : w.heap[g]? = some (.cells #[x0, x1, x2, x3, x4, x5, x6, x7, x8, x9, x10, x11] 30 (0, 0))) : (loadVar 30 ⟨g, 0, none⟩).run Try.prog w = .ok (.agg #[x0, x1, x2, x3, x4, x5, x6, x7, x8, x9, x10, x11]) w :=
  run_loadVar_row w g _ _ _ _ _ hg Try.underlying30 rfl sizeMg
theorem row12 {w : World} {g : Nat} {t : TypeId} {a0 a1 a2 a3 a4 a5 a6 a7 a8 a9 a10 a11 x0 x1 x2 x3 x4 x5 x6 x7 x8 x9 x10 x11 : Value} (hg : w.heap[g]? = some (.cells #[a0, a1, a2, a3, a4, a5, a6, a7, a8, a9, a10, a11] t (0, 0))) :
    ((((((((((((w.setCell ⟨g, 0, none⟩ x0).setCell ⟨g, 1, none⟩ x1).setCell ⟨g, 2, none⟩ x2).setCell ⟨g, 3, none⟩ x3).setCell ⟨g, 4, none⟩ x4).setCell ⟨g, 5, none⟩ x5).setCell ⟨g, 6, none⟩ x6).setCell ⟨g, 7, none⟩ x7).setCell ⟨g, 8, none⟩ x8).setCell ⟨g, 9, none⟩ x9).setCell ⟨g, 10, none⟩ x10).setCell ⟨g, 11, none⟩ x11).heap[g]? = some (.cells #[x0, x1, x2, x3, x4, x5, x6, x7, x8, x9, x10, x11] t (0, 0)) := by
  have h0 : (w.setCell ⟨g, 0, none⟩ x0).heap[g]? = some (.cells #[x0, a1, a2, a3, a4, a5, a6, a7, a8, a9, a10, a11] t (0, 0)) := heap_setCell_same _ g 0 _ _ x0 hg
  have h1 : ((w.setCell ⟨g, 0, none⟩ x0).setCell ⟨g, 1, none⟩ x1).heap[g]? = some (.cells #[x0, x1, a2, a3, a4, a5, a6, a7, a8, a9, a10, a11] t (0, 0)) := heap_setCell_same _ g 1 _ _ x1 h0
  have h2 : (((w.setCell ⟨g, 0, none⟩ x0).setCell ⟨g, 1, none⟩ x1).setCell ⟨g, 2, none⟩ x2).heap[g]? = some (.cells #[x0, x1, x2, a3, a4, a5, a6, a7, a8, a9, a10, a11] t (0, 0)) := heap_setCell_same _ g 2 _ _ x2 h1
  have h3 : ((((w.setCell ⟨g, 0, none⟩ x0).setCell ⟨g, 1, none⟩ x1).setCell ⟨g, 2, none⟩ x2).setCell ⟨g, 3, none⟩ x3).heap[g]? = some (.cells #[x0, x1, x2, x3, a4, a5, a6, a7, a8, a9, a10, a11] t (0, 0)) := heap_setCell_same _ g 3 _ _ x3 h2
  have h4 : (((((w.setCell ⟨g, 0, none⟩ x0).setCell ⟨g, 1, none⟩ x1).setCell ⟨g, 2, none⟩ x2).setCell ⟨g, 3, none⟩ x3).setCell ⟨g, 4, none⟩ x4).heap[g]? = some (.cells #[x0, x1, x2, x3, x4, a5, a6, a7, a8, a9, a10, a11] t (0, 0)) := heap_setCell_same _ g 4 _ _ x4 h3
  have h5 : ((((((w.setCell ⟨g, 0, none⟩ x0).setCell ⟨g, 1, none⟩ x1).setCell ⟨g, 2, none⟩ x2).setCell ⟨g, 3, none⟩ x3).setCell ⟨g, 4, none⟩ x4).setCell ⟨g, 5, none⟩ x5).heap[g]? = some (.cells #[x0, x1, x2, x3, x4, x5, a6, a7, a8, a9, a10, a11] t (0, 0)) := heap_setCell_same _ g 5 _ _ x5 h4
  have h6 : (((((((w.setCell ⟨g, 0, none⟩ x0).setCell ⟨g, 1, none⟩ x1).setCell ⟨g, 2, none⟩ x2).setCell ⟨g, 3, none⟩ x3).setCell ⟨g, 4, none⟩ x4).setCell ⟨g, 5, none⟩ x5).setCell ⟨g, 6, none⟩ x6).heap[g]? = some (.cells #[x0, x1, x2, x3, x4, x5, x6, a7, a8, a9, a10, a11] t (0, 0)) := heap_setCell_same _ g 6 _ _ x6 h5
  have h7 : ((((((((w.setCell ⟨g, 0, none⟩ x0).setCell ⟨g, 1, none⟩ x1).setCell ⟨g, 2, none⟩ x2).setCell ⟨g, 3, none⟩ x3).setCell ⟨g, 4, none⟩ x4).setCell ⟨g, 5, none⟩ x5).setCell ⟨g, 6, none⟩ x6).setCell ⟨g, 7, none⟩ x7).heap[g]? = some (.cells #[x0, x1, x2, x3, x4, x5, x6, x7, a8, a9, a10, a11] t (0, 0)) := heap_setCell_same _ g 7 _ _ x7 h6
  have h8 : (((((((((w.setCell ⟨g, 0, none⟩ x0).setCell ⟨g, 1, none⟩ x1).setCell ⟨g, 2, none⟩ x2).setCell ⟨g, 3, none⟩ x3).setCell ⟨g, 4, none⟩ x4).setCell ⟨g, 5, none⟩ x5).setCell ⟨g, 6, none⟩ x6).setCell ⟨g, 7, none⟩ x7).setCell ⟨g, 8, none⟩ x8).heap[g]? = some (.cells #[x0, x1, x2, x3, x4, x5, x6, x7, x8, a9, a10, a11] t (0, 0)) := heap_setCell_same _ g 8 _ _ x8 h7
  have h9 : ((((((((((w.setCell ⟨g, 0, none⟩ x0).setCell ⟨g, 1, none⟩ x1).setCell ⟨g, 2, none⟩ x2).setCell ⟨g, 3, none⟩ x3).setCell ⟨g, 4, none⟩ x4).setCell ⟨g, 5, none⟩ x5).setCell ⟨g, 6, none⟩ x6).setCell ⟨g, 7, none⟩ x7).setCell ⟨g, 8, none⟩ x8).setCell ⟨g, 9, none⟩ x9).heap[g]? = some (.cells #[x0, x1, x2, x3, x4, x5, x6, x7, x8, x9, a10, a11] t (0, 0)) := heap_setCell_same _ g 9 _ _ x9 h8
  have h10 : (((((((((((w.setCell ⟨g, 0, none⟩ x0).setCell ⟨g, 1, none⟩ x1).setCell ⟨g, 2, none⟩ x2).setCell ⟨g, 3, none⟩ x3).setCell ⟨g, 4, none⟩ x4).setCell ⟨g, 5, none⟩ x5).setCell ⟨g, 6, none⟩ x6).setCell ⟨g, 7, none⟩ x7).setCell ⟨g, 8, none⟩ x8).setCell ⟨g, 9, none⟩ x9).setCell ⟨g, 10, none⟩ x10).heap[g]? = some (.cells #[x0, x1, x2, x3, x4, x5, x6, x7, x8, x9, x10, a11] t (0, 0)) := heap_setCell_same _ g 10 _ _ x10 h9
  have h11 : ((((((((((((w.setCell ⟨g, 0, none⟩ x0).setCell ⟨g, 1, none⟩ x1).setCell ⟨g, 2, none⟩ x2).setCell ⟨g, 3, none⟩ x3).setCell ⟨g, 4, none⟩ x4).setCell ⟨g, 5, none⟩ x5).setCell ⟨g, 6, none⟩ x6).setCell ⟨g, 7, none⟩ x7).setCell ⟨g, 8, none⟩ x8).setCell ⟨g, 9, none⟩ x9).setCell ⟨g, 10, none⟩ x10).setCell ⟨g, 11, none⟩ x11).heap[g]? = some (.cells #[x0, x1, x2, x3, x4, x5, x6, x7, x8, x9, x10, x11] t (0, 0)) := heap_setCell_same _ g 11 _ _ x11 h10
  exact h11
theorem se12 (s : Nat) (w : World) (x0 x1 x2 x3 x4 x5 x6 x7 x8 x9 x10 x11 : Value) : Se s w ((((((((((((w.setCell ⟨s, 0, none⟩ x0).setCell ⟨s, 1, none⟩ x1).setCell ⟨s, 2, none⟩ x2).setCell ⟨s, 3, none⟩ x3).setCell ⟨s, 4, none⟩ x4).setCell ⟨s, 5, none⟩ x5).setCell ⟨s, 6, none⟩ x6).setCell ⟨s, 7, none⟩ x7).setCell ⟨s, 8, none⟩ x8).setCell ⟨s, 9, none⟩ x9).setCell ⟨s, 10, none⟩ x10).setCell ⟨s, 11, none⟩ x11) :=
  (((((((((((((Se.refl s w).set 0 _).set 1 _).set 2 _).set 3 _).set 4 _).set 5 _).set 6 _).set 7 _).set 8 _).set 9 _).set 10 _).set 11 _)
theorem box_kept {w : World} {s g : Nat} {u : Value} (h : w.cell? ⟨g, 0, none⟩ = some u) (hg : g ≠ s) (x0 x1 x2 x3 x4 x5 x6 x7 x8 x9 x10 x11 : Value) : ((((((((((((w.setCell ⟨s, 0, none⟩ x0).setCell ⟨s, 1, none⟩ x1).setCell ⟨s, 2, none⟩ x2).setCell ⟨s, 3, none⟩ x3).setCell ⟨s, 4, none⟩ x4).setCell ⟨s, 5, none⟩ x5).setCell ⟨s, 6, none⟩ x6).setCell ⟨s, 7, none⟩ x7).setCell ⟨s, 8, none⟩ x8).setCell ⟨s, 9, none⟩ x9).setCell ⟨s, 10, none⟩ x10).setCell ⟨s, 11, none⟩ x11).cell? ⟨g, 0, none⟩ = some u :=
  (World.cell?_of_block (a := ⟨g, 0, none⟩) ((se12 s w x0 x1 x2 x3 x4 x5 x6 x7 x8 x9 x10 x11).block g hg)).trans h
/-- What is answered at the end. -/
theorem rm_end {w W0 u7 u8 u9 u10 u11 u12 u13 : World} {r s : Nat} {L L1 L2 L3 L4 L5 L6 L7 L8 L9 L10 L11 L12 : List Int} {q q1 q2 q3 q4 q5 q6 q7 q8 q9 q10 q11 q12 : Bool} {k1 k2 k3 k4 k5 k6 k11 : Nat} {k7 : Bool}
    {A8 A9 A10 A12 : Option Addr} {n8 c8 n9 c9 n10 c10 n12 c12 : Nat} {N12 : Int} {S8 : Nat → Lsl} {S9 : Nat → Psl} {S10 : Nat → Txt} {e8 e9 e10 : TypeId}
    (hL : L9.length ≤ 2097152) (dL : Dig 256 L9)
    (BD : Ti r w W0) (sz : s < W0.heap.size) (ws : w.heap.size ≤ s) (rl : r < s) (T7 : Ti r W0 u7) (T8 : Ti r u7 u8) (T9 : Ti r u8 u9) (T10 : Ti r u9 u10) (T11 : Ti r u10 u11) (T12 : Ti r u11 u12)
    (h1 : k1 ≤ topC) (h2 : k2 ≤ topC) (h3 : k3 ≤ topC) (h4 : k4 ≤ topC) (h5 : k5 ≤ topC) (h6 : k6 ≤ topC) (h11 : k11 ≤ topC)
    (O8 : Owk kLs e8 u8 u7.heap.size (.slice A8 n8 c8) n8 S8) (N8 : n8 ≤ 2097153) (B8 : ∀ i, i < n8 → ∀ b, kLs.Bl (S8 i) b → u7.heap.size ≤ b)
    (O9 : Owk kPs e9 u9 u8.heap.size (.slice A9 n9 c9) n9 S9) (N9 : n9 ≤ 2097153) (B9 : ∀ i, i < n9 → ∀ b, kPs.Bl (S9 i) b → u8.heap.size ≤ b)
    (O10 : Owk kTx e10 u10 u9.heap.size (.slice A10 n10 c10) n10 S10) (N10 : n10 ≤ 2097153) (B10 : ∀ i, i < n10 → ∀ b, kTx.Bl (S10 i) b → u9.heap.size ≤ b)
    (M12 : Nm u12 A12 n12 c12 N12) (B12 : ∀ b, BlN A12 n12 b → u11.heap.size ≤ b) (H12 : Rw u12 r L12 q12)
    (X1 : Rx cntC L q k1 L1 q1) (X2 : Rx cntC L1 q1 k2 L2 q2) (X3 : Rx cntC L2 q2 k3 L3 q3) (X4 : Rx cntC L3 q3 k4 L4 q4) (X5 : Rx cntC L4 q4 k5 L5 q5) (X6 : Rx cntC L5 q5 k6 L6 q6) (X7 : Rx truC L6 q6 k7 L7 q7)
    (X8 : Rx (listC (listC prC)) L7 q7 ((List.range n8).map fun i => dvL (S8 i)) L8 q8) (X9 : Rx (listC (listC pfC)) L8 q8 ((List.range n9).map fun i => dvQ (S9 i)) L9 q9) (X10 : Rx (listC bytesC) L9 q9 ((List.range n10).map fun i => (S10 i).xs) L10 q10)
    (X11 : Rx cntC L10 q10 k11 L11 q11) (X12 : Rx numC L11 q11 (dg W N12) L12 q12) (se : Se s u12 u13) :
    RmP r L q w (.returned (.agg #[.int .i64 (k1 : Int), .int .i64 (k2 : Int), .int .i64 (k3 : Int), .int .i64 (k4 : Int), .int .i64 (k5 : Int), .int .i64 (k6 : Int), .bool k7, .slice A8 n8 c8, .slice A9 n9 c9, .slice A10 n10 c10, .int .i64 (k11 : Int), .slice A12 n12 c12])) u13 := by
  have z7 := T7.size
  have z8 := T8.size
  have z9 := T9.size
  have z10 := T10.size
  have z11 := T11.size
  have z12 := T12.size
  obtain ⟨s8, l8⟩ := later (B := u7.heap.size) (T9.trans (T10.trans (T11.trans T12))) se (by omega) (by omega)
  obtain ⟨s9, l9⟩ := later (B := u8.heap.size) (T10.trans (T11.trans T12)) se (by omega) (by omega)
  obtain ⟨s10, l10⟩ := later (B := u9.heap.size) (T11.trans T12) se (by omega) (by omega)
  obtain ⟨A8', c8', e8', g8, M8⟩ := (O8.fz s8 l8 B8).bat (by omega)
  obtain ⟨A9', c9', e9', g9, M9⟩ := (O9.fz s9 l9 B9).pba (by omega)
  obtain ⟨A10', c10', e10', g10, M10⟩ := (O10.fz s10 l10 B10).txs (by omega)
  injection e8' with a8 _ b8
  injection e9' with a9 _ b9
  injection e10' with a10 _ b10
  subst a8 b8 a9 b9 a10 b10
  have M12' := se.nm M12 fun b hb => by have := B12 b hb; omega
  have cn : ∀ {k : Nat}, k ≤ topC → Cnt (k : Int) := fun {k} h => ⟨by omega, by unfold topC at h; omega⟩
  refine ⟨⟨k1, k2, k3, k4, k5, k6, k7, A8, n8, c8, S8, A9, n9, c9, S9, A10, n10, c10, S10, k11, A12, n12, c12, N12⟩, L12, q12, rfl, ⟨⟨M8, M9, M10, M12'⟩, ⟨cn h1, cn h2, cn h3, cn h4, cn h5, cn h6, cn h11⟩⟩, fun b hb => ?_, se.rw_ H12 rl, se.ti (BD.trans (T7.trans (T8.trans (T9.trans (T10.trans (T11.trans T12)))))) ws, ?_⟩
  · rcases hb with (hb | ⟨i, hi, hb⟩) | (hb | ⟨i, hi, hb⟩) | (hb | ⟨i, hi, hb⟩) | hb
    · have := blN_geL g8 b hb; omega
    · have := B8 i hi b hb; omega
    · have := blN_geL g9 b hb; omega
    · have := B9 i hi b hb; omega
    · have := blN_geL g10 b hb; omega
    · have := B10 i hi b hb; omega
    · have := B12 b hb; omega
  · exact Rx.pair X1 (Rx.pair X2 (Rx.pair X3 (Rx.pair X4 (Rx.pair X5 (Rx.pair X6 (Rx.pair X7 (Rx.pair X8 (Rx.pair X9 (Rx.pair X10 (Rx.pair X11 X12))))))))))
set_option maxHeartbeats 32000000 in
set_option maxRecDepth 100000 in
theorem rmsg_any {w : World} {r : Nat} {L : List Int} {q : Bool} (h : Rw w r L q) :
    Calls Try.prog 37 #[.pointer (some ⟨r, 0, none⟩)] w (RmP r L q w) := by
  have lt := h.lt
  obtain ⟨W1, hW1⟩ : ∃ W1, w.alloc (.cells #[.pointer (some ⟨r, 0, none⟩)] 82) = W1 := ⟨_, rfl⟩
  have b1 : Below w.heap.size w W1 := by rw [← hW1]; exact (Below.refl _ _).alloc (Nat.le_refl _) _
  have s1 : W1.heap.size = w.heap.size + 1 := by rw [← hW1]; simp
  obtain ⟨W2, hW2⟩ : ∃ W2, W1.alloc (.cells #[.int .i64 0, .int .i64 0, .int .i64 0, .int .i64 0, .int .i64 0, .int .i64 0, .bool false, .slice none 0 0, .slice none 0 0, .slice none 0 0, .int .i64 0, .slice none 0 0] 30) = W2 := ⟨_, rfl⟩
  have b2 : Below W1.heap.size W1 W2 := by rw [← hW2]; exact (Below.refl _ _).alloc (Nat.le_refl _) _
  have s2 : W2.heap.size = w.heap.size + 2 := by rw [← hW2]; simp [s1]
  have row : W2.heap[w.heap.size + 1]? = some (.cells #[.int .i64 0, .int .i64 0, .int .i64 0, .int .i64 0, .int .i64 0, .int .i64 0, .bool false, .slice none 0 0, .slice none 0 0, .slice none 0 0, .int .i64 0, .slice none 0 0] 30 (0, 0)) := by rw [← hW2, ← s1]; exact heap_alloc_new W1 _
  have b12 : Below w.heap.size w W2 := b1.trans (b2.mono (by omega))
  have kb : BxT w.heap.size r (.pointer (some ⟨r, 0, none⟩)) W2 := (by rw [← hW1]; exact BxT.new w _ _ lt : BxT w.heap.size r _ W1).ti (Ti.of b2 (Nat.le_refl _))
  have H0 := Lib.hid (show Rw W2.drew r L q from (h.below b12).below (Below.refl _ _).drew)
  have BD := Lib.hid (show Ti r w W2.drew from Ti.of (b12.trans ((Below.refl _ _).drew.mono b12.size)) (Nat.le_refl _))
  have DD : Ti r W2 W2.drew := Ti.of (Below.refl W2.heap.size W2).drew (Nat.le_refl _)
  have T0 := Lib.hid (Ti.refl r W2.drew)
  have RS := Lib.hid (show ∀ W', Ti r W2.drew W' → W'.heap[w.heap.size + 1]? = some (.cells #[.int .i64 0, .int .i64 0, .int .i64 0, .int .i64 0, .int .i64 0, .int .i64 0, .bool false, .slice none 0 0, .slice none 0 0, .slice none 0 0, .int .i64 0, .slice none 0 0] 30 (0, 0)) from fun W' k => (k.block _ (by show w.heap.size + 1 < W2.heap.size; omega) (by omega)).trans row)
  have KB := Lib.hid (show ∀ W', Ti r W2.drew W' → BxT w.heap.size r (.pointer (some ⟨r, 0, none⟩)) W' from fun W' k => kb.ti (DD.trans k))
  have kA := (KB.out W2.drew (Ti.refl _ _)).cell
  have S2 := Lib.hid s2
  clear h b1 b2 row b12 kb DD
  go_enter Try.func37, Try.ntmps37
  have he := @sq_mkR
  go_wp2_with fail
  try rw [hW1]
  try rw [hW2]
  clear hW1 hW2 he s1 s2
  go_region_held3 (fun w' => w'.cell? ⟨w.heap.size, 0, none⟩ = some (.pointer (some ⟨r, 0, none⟩))) (first | with_reducible exact kC _ _ _ _ _ _ _ _ _ _ _ _ | with_reducible exact kA | with_reducible exact kk1 | with_reducible exact kk2 | with_reducible exact kk3 | with_reducible exact kk4 | with_reducible exact kk5 | with_reducible exact kk6 | with_reducible exact kk7 | with_reducible exact kk8 | with_reducible exact kk9 | with_reducible exact kk10 | with_reducible exact kk11 | with_reducible exact kk12 | go_keep | assumption)
    (first
    | (go_at_call 56; (with_reducible refine (rnumq_any H11.out).mono ?_); rintro e u12 ⟨A12, n12, c12, N12, L12, q12, rfl, hn, hb, hr, ht, hx⟩; have H12 := Lib.hid hr; have D12 := Lib.hid ht; have C12 := Lib.hid (T11.out.trans ht); have T12 := Lib.hid (T11.out.trans ht); have X12 := Lib.hid hx; have kk12 := (KB.out u12 (T11.out.trans ht)).cell; have M12 := Lib.hid hn; have B12 := Lib.hid hb; have R12 := Lib.hid (RS.out u12 T12.out); have kC := box_kept (s := w.heap.size + 1) (g := w.heap.size) kk12 (by omega); have x0 := cell_of_row u12 (w.heap.size + 1) 0 _ _ _ R12.out; have f0 := frozen_of_row u12 (w.heap.size + 1) 0 _ _ R12.out; have x1 := cell_of_row u12 (w.heap.size + 1) 1 _ _ _ R12.out; have f1 := frozen_of_row u12 (w.heap.size + 1) 1 _ _ R12.out; have x2 := cell_of_row u12 (w.heap.size + 1) 2 _ _ _ R12.out; have f2 := frozen_of_row u12 (w.heap.size + 1) 2 _ _ R12.out; have x3 := cell_of_row u12 (w.heap.size + 1) 3 _ _ _ R12.out; have f3 := frozen_of_row u12 (w.heap.size + 1) 3 _ _ R12.out; have x4 := cell_of_row u12 (w.heap.size + 1) 4 _ _ _ R12.out; have f4 := frozen_of_row u12 (w.heap.size + 1) 4 _ _ R12.out; have x5 := cell_of_row u12 (w.heap.size + 1) 5 _ _ _ R12.out; have f5 := frozen_of_row u12 (w.heap.size + 1) 5 _ _ R12.out; have x6 := cell_of_row u12 (w.heap.size + 1) 6 _ _ _ R12.out; have f6 := frozen_of_row u12 (w.heap.size + 1) 6 _ _ R12.out; have x7 := cell_of_row u12 (w.heap.size + 1) 7 _ _ _ R12.out; have f7 := frozen_of_row u12 (w.heap.size + 1) 7 _ _ R12.out; have x8 := cell_of_row u12 (w.heap.size + 1) 8 _ _ _ R12.out; have f8 := frozen_of_row u12 (w.heap.size + 1) 8 _ _ R12.out; have x9 := cell_of_row u12 (w.heap.size + 1) 9 _ _ _ R12.out; have f9 := frozen_of_row u12 (w.heap.size + 1) 9 _ _ R12.out; have x10 := cell_of_row u12 (w.heap.size + 1) 10 _ _ _ R12.out; have f10 := frozen_of_row u12 (w.heap.size + 1) 10 _ _ R12.out; have x11 := cell_of_row u12 (w.heap.size + 1) 11 _ _ _ R12.out; have f11 := frozen_of_row u12 (w.heap.size + 1) 11 _ _ R12.out; clear hn hb hr ht hx)
    | (go_at_call 50; (with_reducible refine (rint_any H10.out).mono ?_); rintro e u11 ⟨k11, L11, q11, rfl, hk, hr, ht, hx⟩; have H11 := Lib.hid hr; have D11 := Lib.hid ht; have C11 := Lib.hid (T10.out.trans ht); have T11 := Lib.hid (T10.out.trans ht); have X11 := Lib.hid hx; have kk11 := (KB.out u11 (T10.out.trans ht)).cell; have G11 := Lib.hid hk; clear hk hr ht hx)
    | (go_at_call 61; (with_reducible refine (rl_tx (K := fun W => BxT w.heap.size r (.pointer (some ⟨r, 0, none⟩)) W) (fun W W2 a b => BxT.ti a b) ent_c3 (fun W L q a b => rc_tx a b) H9.out (KB.out u9 T9.out)).mono ?_); rintro e u10 ⟨v10, n10, S10, L10, q10, rfl, ho, hn, hbl, hr, ht, hx⟩; obtain ⟨A10, c10, rfl, -⟩ := ho.form; have H10 := Lib.hid hr; have D10 := Lib.hid ht; have C10 := Lib.hid (T9.out.trans ht); have T10 := Lib.hid (T9.out.trans ht); have X10 := Lib.hid hx; have kk10 := (KB.out u10 (T9.out.trans ht)).cell; have O10 := Lib.hid ho; have N10 := Lib.hid hn; have B10 := Lib.hid hbl; clear hr ht hx ho hn hbl)
    | (go_at_call 60; (with_reducible refine (rls_pf H8.out (KB.out u8 T8.out)).mono ?_); rintro e u9 ⟨v9, n9, S9, L9, q9, rfl, ho, hn, hbl, hr, ht, hx⟩; obtain ⟨A9, c9, rfl, -⟩ := ho.form; have H9 := Lib.hid hr; have D9 := Lib.hid ht; have C9 := Lib.hid (T8.out.trans ht); have T9 := Lib.hid (T8.out.trans ht); have X9 := Lib.hid hx; have kk9 := (KB.out u9 (T8.out.trans ht)).cell; have O9 := Lib.hid ho; have N9 := Lib.hid hn; have B9 := Lib.hid hbl; clear hr ht hx ho hn hbl)
    | (go_at_call 59; (with_reducible refine (rls_pa H7.out (KB.out u7 T7.out)).mono ?_); rintro e u8 ⟨v8, n8, S8, L8, q8, rfl, ho, hn, hbl, hr, ht, hx⟩; obtain ⟨A8, c8, rfl, -⟩ := ho.form; have H8 := Lib.hid hr; have D8 := Lib.hid ht; have C8 := Lib.hid (T7.out.trans ht); have T8 := Lib.hid (T7.out.trans ht); have X8 := Lib.hid hx; have kk8 := (KB.out u8 (T7.out.trans ht)).cell; have O8 := Lib.hid ho; have N8 := Lib.hid hn; have B8 := Lib.hid hbl; clear hr ht hx ho hn hbl)
    | (go_at_call 52; (with_reducible refine (rflag_any H6.out).mono ?_); rintro e u7 ⟨k7, L7, q7, rfl, hr, ht, hx⟩; have H7 := Lib.hid hr; have D7 := Lib.hid ht; have C7 := Lib.hid (T6.out.trans ht); have T7 := Lib.hid (T6.out.trans ht); have X7 := Lib.hid hx; have kk7 := (KB.out u7 (T6.out.trans ht)).cell; clear hr ht hx)
    | (go_at_call 50; (with_reducible refine (rint_any H5.out).mono ?_); rintro e u6 ⟨k6, L6, q6, rfl, hk, hr, ht, hx⟩; have H6 := Lib.hid hr; have D6 := Lib.hid ht; have C6 := Lib.hid (T5.out.trans ht); have T6 := Lib.hid (T5.out.trans ht); have X6 := Lib.hid hx; have kk6 := (KB.out u6 (T5.out.trans ht)).cell; have G6 := Lib.hid hk; clear hk hr ht hx)
    | (go_at_call 50; (with_reducible refine (rint_any H4.out).mono ?_); rintro e u5 ⟨k5, L5, q5, rfl, hk, hr, ht, hx⟩; have H5 := Lib.hid hr; have D5 := Lib.hid ht; have C5 := Lib.hid (T4.out.trans ht); have T5 := Lib.hid (T4.out.trans ht); have X5 := Lib.hid hx; have kk5 := (KB.out u5 (T4.out.trans ht)).cell; have G5 := Lib.hid hk; clear hk hr ht hx)
    | (go_at_call 50; (with_reducible refine (rint_any H3.out).mono ?_); rintro e u4 ⟨k4, L4, q4, rfl, hk, hr, ht, hx⟩; have H4 := Lib.hid hr; have D4 := Lib.hid ht; have C4 := Lib.hid (T3.out.trans ht); have T4 := Lib.hid (T3.out.trans ht); have X4 := Lib.hid hx; have kk4 := (KB.out u4 (T3.out.trans ht)).cell; have G4 := Lib.hid hk; clear hk hr ht hx)
    | (go_at_call 50; (with_reducible refine (rint_any H2.out).mono ?_); rintro e u3 ⟨k3, L3, q3, rfl, hk, hr, ht, hx⟩; have H3 := Lib.hid hr; have D3 := Lib.hid ht; have C3 := Lib.hid (T2.out.trans ht); have T3 := Lib.hid (T2.out.trans ht); have X3 := Lib.hid hx; have kk3 := (KB.out u3 (T2.out.trans ht)).cell; have G3 := Lib.hid hk; clear hk hr ht hx)
    | (go_at_call 50; (with_reducible refine (rint_any H1.out).mono ?_); rintro e u2 ⟨k2, L2, q2, rfl, hk, hr, ht, hx⟩; have H2 := Lib.hid hr; have D2 := Lib.hid ht; have C2 := Lib.hid (T1.out.trans ht); have T2 := Lib.hid (T1.out.trans ht); have X2 := Lib.hid hx; have kk2 := (KB.out u2 (T1.out.trans ht)).cell; have G2 := Lib.hid hk; clear hk hr ht hx)
    | (go_at_call 50; (with_reducible refine (rint_any H0.out).mono ?_); rintro e u1 ⟨k1, L1, q1, rfl, hk, hr, ht, hx⟩; have H1 := Lib.hid hr; have D1 := Lib.hid ht; have C1 := Lib.hid (T0.out.trans ht); have T1 := Lib.hid (T0.out.trans ht); have X1 := Lib.hid hx; have kk1 := (KB.out u1 (T0.out.trans ht)).cell; have G1 := Lib.hid hk; clear hk hr ht hx))
  all_goals
    go_wp2_with fail
    refine bodyPost_ret (v := .agg #[.int .i64 (k1 : Int), .int .i64 (k2 : Int), .int .i64 (k3 : Int), .int .i64 (k4 : Int), .int .i64 (k5 : Int), .int .i64 (k6 : Int), .bool k7, .slice A8 n8 c8, .slice A9 n9 c9, .slice A10 n10 c10, .int .i64 (k11 : Int), .slice A12 n12 c12]) (results_cell_row Try.results37 _ _ (w.heap.size + 1) _ _ _ _ rfl (row12 R12.out) Try.underlying30 rfl sizeMg) rfl ?_
    exact rm_end H9.out.len H9.out.dig_ BD.out (by show w.heap.size + 1 < W2.heap.size; have := S2.out; omega) (by omega) (by omega) C7.out D8.out D9.out D10.out D11.out D12.out G1.out G2.out G3.out G4.out G5.out G6.out G11.out O8.out N8.out B8.out O9.out N9.out B9.out O10.out N10.out B10.out M12.out B12.out H12.out X1.out X2.out X3.out X4.out X5.out X6.out X7.out X8.out X9.out X10.out X11.out X12.out (se12 _ u12 (.int .i64 (k1 : Int)) (.int .i64 (k2 : Int)) (.int .i64 (k3 : Int)) (.int .i64 (k4 : Int)) (.int .i64 (k5 : Int)) (.int .i64 (k6 : Int)) (.bool k7) (.slice A8 n8 c8) (.slice A9 n9 c9) (.slice A10 n10 c10) (.int .i64 (k11 : Int)) (.slice A12 n12 c12))
end Go.Proofs.Ytcnekfpgoceblaa
/-
  The program's reading: what read and ReadMsg answer. By program: genpr8.py mg.
-/
namespace Go.Proofs.Ytcnekfpgoceblaa
open Go.RowKit
set_option linter.unusedVariables false
/-- What was read, or why nothing was. -/
def Romg (xs : List Int) (w : World) (en : Ending) (w' : World) : Prop :=
  (∃ m : Mgd, rdC msgC 1048576 xs = (0, some (mv m)) ∧ en = .returned (.tuple #[(.agg m.cells), .nilIface]) ∧ MemM w' m ∧ (∀ b, m.Bl b → w.heap.size ≤ b) ∧ Below w.heap.size w w') ∨
  (∃ code : Int, rdC msgC 1048576 xs = (code, none) ∧ (code = 2 ∨ code = 9 ∨ code = 10) ∧ en = .returned (.tuple #[.agg #[.int .i64 0, .int .i64 0, .int .i64 0, .int .i64 0, .int .i64 0, .int .i64 0, .bool false, .slice none 0 0, .slice none 0 0, .slice none 0 0, .int .i64 0, .slice none 0 0], .iface 57 (.int .i64 code)]) ∧ Below w.heap.size w w')
theorem ent_mg : ∀ (xs : Array Value) (W : World), (callFunc 37 xs).run Try.prog W = .ok (.enter 37 xs) W := ent_w Try.func37 (by kernel_rfl) rfl
set_option maxHeartbeats 16000000 in
set_option maxRecDepth 100000 in
theorem pread_mg {w : World} {A : Option Addr} {n c : Nat} {xs : List Int} (hr : Rd .u8 w A n xs) (hd : Dig 256 xs) (hnc : n ≤ c) (hn47 : n ≤ 140737488355328) :
    Calls Try.prog 36 #[.slice A n c, .int .i64 1048576, .func (.func 37) #[] #[]] w (Romg xs w) := by
  have HR := Lib.hid hr
  have HD := Lib.hid hd
  have HL := Lib.hid hr.len
  obtain ⟨s, hs⟩ : ∃ s, w.heap.size = s := ⟨_, rfl⟩
  obtain ⟨W1, hW1⟩ : ∃ W1, w.alloc (.cells #[.int .i64 0, .int .i64 0, .int .i64 0, .int .i64 0, .int .i64 0, .int .i64 0, .bool false, .slice none 0 0, .slice none 0 0, .slice none 0 0, .int .i64 0, .slice none 0 0] 30) = W1 := ⟨_, rfl⟩
  have b1 : Below w.heap.size w W1 := by rw [← hW1]; exact (Below.refl _ _).alloc (Nat.le_refl _) _
  have s1 : W1.heap.size = s + 1 := by rw [← hW1, ← hs]; simp
  have r10 : W1.heap[s]? = some (.cells #[.int .i64 0, .int .i64 0, .int .i64 0, .int .i64 0, .int .i64 0, .int .i64 0, .bool false, .slice none 0 0, .slice none 0 0, .slice none 0 0, .int .i64 0, .slice none 0 0] 30 (0, 0)) := by rw [← hW1, ← hs]; exact heap_alloc_new w _
  obtain ⟨W2, hW2⟩ : ∃ W2, W1.alloc (.cells #[.int .i64 0, .int .i64 0, .int .i64 0, .int .i64 0, .int .i64 0, .int .i64 0, .bool false, .slice none 0 0, .slice none 0 0, .slice none 0 0, .int .i64 0, .slice none 0 0] 30) = W2 := ⟨_, rfl⟩
  have b2 : Below W1.heap.size W1 W2 := by rw [← hW2]; exact (Below.refl _ _).alloc (Nat.le_refl _) _
  have s2 : W2.heap.size = s + 2 := by rw [← hW2]; simp [s1]
  have R21 := Lib.hid (show W2.heap[s + 1]? = some (.cells #[.int .i64 0, .int .i64 0, .int .i64 0, .int .i64 0, .int .i64 0, .int .i64 0, .bool false, .slice none 0 0, .slice none 0 0, .slice none 0 0, .int .i64 0, .slice none 0 0] 30 (0, 0)) by rw [← hW2, ← s1]; exact heap_alloc_new W1 _)
  have R20 := Lib.hid (show W2.heap[s]? = some (.cells #[.int .i64 0, .int .i64 0, .int .i64 0, .int .i64 0, .int .i64 0, .int .i64 0, .bool false, .slice none 0 0, .slice none 0 0, .slice none 0 0, .int .i64 0, .slice none 0 0] 30 (0, 0)) from (b2.block s (by omega)).trans r10)
  have B2 := Lib.hid (show Below w.heap.size w W2 from b1.trans (b2.mono (by omega)))
  have HS := Lib.hid hs
  clear hr hd b1 b2 r10
  rcases Nat.lt_or_ge 1048576 n with g | g
  · have e1 : decide ((1048576 : Int) < (n : Int)) = true := by simp; omega
    have x0 := cell_of_row W2 s 0 _ _ _ R20.out
    have x1 := cell_of_row W2 s 1 _ _ _ R20.out
    have x2 := cell_of_row W2 s 2 _ _ _ R20.out
    have x3 := cell_of_row W2 s 3 _ _ _ R20.out
    have x4 := cell_of_row W2 s 4 _ _ _ R20.out
    have x5 := cell_of_row W2 s 5 _ _ _ R20.out
    have x6 := cell_of_row W2 s 6 _ _ _ R20.out
    have x7 := cell_of_row W2 s 7 _ _ _ R20.out
    have x8 := cell_of_row W2 s 8 _ _ _ R20.out
    have x9 := cell_of_row W2 s 9 _ _ _ R20.out
    have x10 := cell_of_row W2 s 10 _ _ _ R20.out
    have x11 := cell_of_row W2 s 11 _ _ _ R20.out
    have f0 := frozen_of_row W2 s 0 _ _ R20.out
    have f1 := frozen_of_row W2 s 1 _ _ R20.out
    have f2 := frozen_of_row W2 s 2 _ _ R20.out
    have f3 := frozen_of_row W2 s 3 _ _ R20.out
    have f4 := frozen_of_row W2 s 4 _ _ R20.out
    have f5 := frozen_of_row W2 s 5 _ _ R20.out
    have f6 := frozen_of_row W2 s 6 _ _ R20.out
    have f7 := frozen_of_row W2 s 7 _ _ R20.out
    have f8 := frozen_of_row W2 s 8 _ _ R20.out
    have f9 := frozen_of_row W2 s 9 _ _ R20.out
    have f10 := frozen_of_row W2 s 10 _ _ R20.out
    have f11 := frozen_of_row W2 s 11 _ _ R20.out
    have y0 := cell_of_row W2 (s + 1) 0 _ _ _ R21.out
    have y1 := cell_of_row W2 (s + 1) 1 _ _ _ R21.out
    have y2 := cell_of_row W2 (s + 1) 2 _ _ _ R21.out
    have y3 := cell_of_row W2 (s + 1) 3 _ _ _ R21.out
    have y4 := cell_of_row W2 (s + 1) 4 _ _ _ R21.out
    have y5 := cell_of_row W2 (s + 1) 5 _ _ _ R21.out
    have y6 := cell_of_row W2 (s + 1) 6 _ _ _ R21.out
    have y7 := cell_of_row W2 (s + 1) 7 _ _ _ R21.out
    have y8 := cell_of_row W2 (s + 1) 8 _ _ _ R21.out
    have y9 := cell_of_row W2 (s + 1) 9 _ _ _ R21.out
    have y10 := cell_of_row W2 (s + 1) 10 _ _ _ R21.out
    have y11 := cell_of_row W2 (s + 1) 11 _ _ _ R21.out

    have G := Lib.hid g
    clear g
    go_enter Try.func36, Try.ntmps36
    go_wp2_with fail
    refine bodyPost_ret (v := .tuple #[.agg #[.int .i64 0, .int .i64 0, .int .i64 0, .int .i64 0, .int .i64 0, .int .i64 0, .bool false, .slice none 0 0, .slice none 0 0, .slice none 0 0, .int .i64 0, .slice none 0 0], .iface 57 (.int .i64 2)]) (resultsS Try.results36 _ _ _ s _ rfl (load_mg (row12 R20.out)) rfl) rfl ?_
    refine .inr ⟨2, ?_, .inl rfl, rfl, B2.out.trans ((se12 s W2 (.int .i64 0) (.int .i64 0) (.int .i64 0) (.int .i64 0) (.int .i64 0) (.int .i64 0) (.bool false) (.slice none 0 0) (.slice none 0 0) (.slice none 0 0) (.int .i64 0) (.slice none 0 0)).below (by have := HS.out; omega))⟩
    unfold rdC
    rw [if_pos (by rw [HL.out]; exact G.out)]
  · have e1 : decide ((1048576 : Int) < (n : Int)) = false := by simp; omega
    obtain ⟨W3, hW3⟩ : ∃ W3, W2.alloc (.cells #[.slice A n c, .bool false] 105) = W3 := ⟨_, rfl⟩
    have b3 : Below W2.heap.size W2 W3 := by rw [← hW3]; exact (Below.refl _ _).alloc (Nat.le_refl _) _
    have R3 := Lib.hid (show W3.heap[s + 2]? = some (.cells #[.slice A n c, .bool false] 105 (0, 0)) by rw [← hW3, ← s2]; exact heap_alloc_new W2 _)
    have B3 := Lib.hid (show Below w.heap.size w W3 from B2.out.trans (b3.mono (by have := HS.out; omega)))
    have RW := Lib.hid (show Rw W3 (s + 2) xs false from ⟨A, n, c, R3.out, HR.out.below B3.out, HD.out, fun a ha hn => by
      obtain ⟨b, off, e, hb, -⟩ := HR.out.cells hn
      rw [e] at ha
      injection ha with ha
      subst ha
      have := HS.out
      show b < s + 2
      omega, hnc, (fun h => by cases h), by omega⟩)
    have S3 := Lib.hid (show W3.heap.size = s + 3 by rw [← hW3]; simp [s2])
    have R30 := Lib.hid (show W3.heap[s]? = some (.cells #[.int .i64 0, .int .i64 0, .int .i64 0, .int .i64 0, .int .i64 0, .int .i64 0, .bool false, .slice none 0 0, .slice none 0 0, .slice none 0 0, .int .i64 0, .slice none 0 0] 30 (0, 0)) from (b3.block s (by omega)).trans R20.out)
    have R31 := Lib.hid (show W3.heap[s + 1]? = some (.cells #[.int .i64 0, .int .i64 0, .int .i64 0, .int .i64 0, .int .i64 0, .int .i64 0, .bool false, .slice none 0 0, .slice none 0 0, .slice none 0 0, .int .i64 0, .slice none 0 0] 30 (0, 0)) from (b3.block (s + 1) (by omega)).trans R21.out)
    have G := Lib.hid g
    clear g b3
    go_enter Try.func36, Try.ntmps36
    have he := ent_mg
    go_wp2_with fail
    try rw [hW1]
    try rw [hW2]
    try rw [hW3]
    refine (rmsg_any RW.out).mono ?_
    rintro e u4 ⟨m, L4, q4, rfl, hmem, hge, hq4, t4, rx4⟩
    unfold Mgd.cells
    have M4 := Lib.hid hmem
    have H4 := Lib.hid hq4
    have T4 := Lib.hid t4
    have X4 := Lib.hid rx4
    have GE := Lib.hid (show ∀ b, m.Bl b → W3.heap.size ≤ b from hge)
    obtain ⟨S4, hS4⟩ : ∃ S4, u4.heap.size = S4 := ⟨_, rfl⟩
    obtain ⟨W5, hW5⟩ : ∃ W5, u4.alloc (.cells #[.int .i64 m.k, .int .i64 m.g, .int .i64 m.l, .int .i64 m.p, .int .i64 m.s, .int .i64 m.u, .bool m.ok, .slice m.Ab m.nb m.cb, .slice m.Ap m.np m.cp, .slice m.At m.nt m.ct, .int .i64 m.i, .slice m.Av m.nv m.cv] 30) = W5 := ⟨_, rfl⟩
    have B5 := Lib.hid (show Below u4.heap.size u4 W5 by rw [← hW5]; exact (Below.refl _ _).alloc (Nat.le_refl _) _)
    have R5 := Lib.hid (show W5.heap[u4.heap.size]? = some (.cells #[.int .i64 m.k, .int .i64 m.g, .int .i64 m.l, .int .i64 m.p, .int .i64 m.s, .int .i64 m.u, .bool m.ok, .slice m.Ab m.nb m.cb, .slice m.Ap m.np m.cp, .slice m.At m.nt m.ct, .int .i64 m.i, .slice m.Av m.nv m.cv] 30 (0, 0)) by rw [← hW5]; exact heap_alloc_new u4 _)
    have H5 := Lib.hid (H4.out.below B5.out)
    have T5 := Lib.hid (t4.trans (Ti.of B5.out (Nat.le_refl _)))
    have L5 := Lib.hid (show s + 3 ≤ u4.heap.size by have := t4.size; have := S3.out; omega)
    have R50 := Lib.hid (show W5.heap[s]? = some (.cells #[.int .i64 0, .int .i64 0, .int .i64 0, .int .i64 0, .int .i64 0, .int .i64 0, .bool false, .slice none 0 0, .slice none 0 0, .slice none 0 0, .int .i64 0, .slice none 0 0] 30 (0, 0)) from (T5.out.block s (by have := S3.out; omega) (by omega)).trans R30.out)
    have R51 := Lib.hid (show W5.heap[s + 1]? = some (.cells #[.int .i64 0, .int .i64 0, .int .i64 0, .int .i64 0, .int .i64 0, .int .i64 0, .bool false, .slice none 0 0, .slice none 0 0, .slice none 0 0, .int .i64 0, .slice none 0 0] 30 (0, 0)) from (T5.out.block (s + 1) (by have := S3.out; omega) (by omega)).trans R31.out)
    have M5 := Lib.hid (M4.out.stay B5.out.size fun k h1 h2 => B5.out.block k h2)
    have BE := Lib.hid (show ∀ W', Se s W5 W' → Below w.heap.size w W' from fun W' k => (B3.out.trans (T5.out.below (by have := HS.out; omega) (by have := S3.out; have := HS.out; omega))).trans (k.below (by have := HS.out; omega)))
    obtain ⟨A6, n6, c6, hrr⟩ := H5.out
    have c0 := hrr.c0
    have c1 := hrr.c1
    have HN6 := Lib.hid hrr.rd.len
    have x0 := cell_of_row W5 s 0 _ _ _ R50.out
    have x1 := cell_of_row W5 s 1 _ _ _ R50.out
    have x2 := cell_of_row W5 s 2 _ _ _ R50.out
    have x3 := cell_of_row W5 s 3 _ _ _ R50.out
    have x4 := cell_of_row W5 s 4 _ _ _ R50.out
    have x5 := cell_of_row W5 s 5 _ _ _ R50.out
    have x6 := cell_of_row W5 s 6 _ _ _ R50.out
    have x7 := cell_of_row W5 s 7 _ _ _ R50.out
    have x8 := cell_of_row W5 s 8 _ _ _ R50.out
    have x9 := cell_of_row W5 s 9 _ _ _ R50.out
    have x10 := cell_of_row W5 s 10 _ _ _ R50.out
    have x11 := cell_of_row W5 s 11 _ _ _ R50.out
    have f0 := frozen_of_row W5 s 0 _ _ R50.out
    have f1 := frozen_of_row W5 s 1 _ _ R50.out
    have f2 := frozen_of_row W5 s 2 _ _ R50.out
    have f3 := frozen_of_row W5 s 3 _ _ R50.out
    have f4 := frozen_of_row W5 s 4 _ _ R50.out
    have f5 := frozen_of_row W5 s 5 _ _ R50.out
    have f6 := frozen_of_row W5 s 6 _ _ R50.out
    have f7 := frozen_of_row W5 s 7 _ _ R50.out
    have f8 := frozen_of_row W5 s 8 _ _ R50.out
    have f9 := frozen_of_row W5 s 9 _ _ R50.out
    have f10 := frozen_of_row W5 s 10 _ _ R50.out
    have f11 := frozen_of_row W5 s 11 _ _ R50.out
    have y0 := cell_of_row W5 (s + 1) 0 _ _ _ R51.out
    have y1 := cell_of_row W5 (s + 1) 1 _ _ _ R51.out
    have y2 := cell_of_row W5 (s + 1) 2 _ _ _ R51.out
    have y3 := cell_of_row W5 (s + 1) 3 _ _ _ R51.out
    have y4 := cell_of_row W5 (s + 1) 4 _ _ _ R51.out
    have y5 := cell_of_row W5 (s + 1) 5 _ _ _ R51.out
    have y6 := cell_of_row W5 (s + 1) 6 _ _ _ R51.out
    have y7 := cell_of_row W5 (s + 1) 7 _ _ _ R51.out
    have y8 := cell_of_row W5 (s + 1) 8 _ _ _ R51.out
    have y9 := cell_of_row W5 (s + 1) 9 _ _ _ R51.out
    have y10 := cell_of_row W5 (s + 1) 10 _ _ _ R51.out
    have y11 := cell_of_row W5 (s + 1) 11 _ _ _ R51.out
    have z0 := cell_of_row W5 u4.heap.size 0 _ _ _ R5.out
    have z1 := cell_of_row W5 u4.heap.size 1 _ _ _ R5.out
    have z2 := cell_of_row W5 u4.heap.size 2 _ _ _ R5.out
    have z3 := cell_of_row W5 u4.heap.size 3 _ _ _ R5.out
    have z4 := cell_of_row W5 u4.heap.size 4 _ _ _ R5.out
    have z5 := cell_of_row W5 u4.heap.size 5 _ _ _ R5.out
    have z6 := cell_of_row W5 u4.heap.size 6 _ _ _ R5.out
    have z7 := cell_of_row W5 u4.heap.size 7 _ _ _ R5.out
    have z8 := cell_of_row W5 u4.heap.size 8 _ _ _ R5.out
    have z9 := cell_of_row W5 u4.heap.size 9 _ _ _ R5.out
    have z10 := cell_of_row W5 u4.heap.size 10 _ _ _ R5.out
    have z11 := cell_of_row W5 u4.heap.size 11 _ _ _ R5.out

    clear hmem hq4 t4 rx4 hge hrr hW1 hW2 hW3 he s1 s2 hs 
    have hS4' := Lib.hid hS4
    clear hS4
    cases q4 with
    | true =>
      go_wp2_with fail
      refine bodyPost_ret (v := .tuple #[.agg #[.int .i64 0, .int .i64 0, .int .i64 0, .int .i64 0, .int .i64 0, .int .i64 0, .bool false, .slice none 0 0, .slice none 0 0, .slice none 0 0, .int .i64 0, .slice none 0 0], .iface 57 (.int .i64 9)]) (resultsS Try.results36 _ _ _ s _ rfl (load_mg (row12 R50.out)) rfl) rfl ?_
      refine .inr ⟨9, ?_, .inr (.inl rfl), rfl, BE.out _ (se12 s W5 (.int .i64 0) (.int .i64 0) (.int .i64 0) (.int .i64 0) (.int .i64 0) (.int .i64 0) (.bool false) (.slice none 0 0) (.slice none 0 0) (.slice none 0 0) (.int .i64 0) (.slice none 0 0))⟩
      unfold rdC
      rw [if_neg (by rw [HL.out]; have := G.out; omega)]
      rcases X4.out with ⟨-, -, k⟩ | ⟨k | k, -⟩
      · cases k
      · cases k
      · rw [k]
    | false =>
      have DEC := Lib.hid (show msgC.dec xs = some (mv m, L4) by
        rcases X4.out with ⟨-, k, -⟩ | ⟨-, k⟩
        · exact k
        · cases k)
      rcases Nat.eq_zero_or_pos n6 with g0 | g0
      · have e6 : decide (0 < n6) = false := by simp; omega
        have G0 := Lib.hid g0
        clear g0
        go_wp2_with fail
        refine bodyPost_ret (v := .tuple #[.agg #[.int .i64 m.k, .int .i64 m.g, .int .i64 m.l, .int .i64 m.p, .int .i64 m.s, .int .i64 m.u, .bool m.ok, .slice m.Ab m.nb m.cb, .slice m.Ap m.np m.cp, .slice m.At m.nt m.ct, .int .i64 m.i, .slice m.Av m.nv m.cv], .nilIface]) (resultsS Try.results36 _ _ _ s _ rfl (load_mg (row12 R50.out)) rfl) rfl ?_
        have L0 : L4 = [] := List.eq_nil_of_length_eq_zero (by rw [HN6.out]; exact G0.out)
        refine .inl ⟨m, ?_, rfl, M5.out.stay (by rw [(se12 s W5 (.int .i64 m.k) (.int .i64 m.g) (.int .i64 m.l) (.int .i64 m.p) (.int .i64 m.s) (.int .i64 m.u) (.bool m.ok) (.slice m.Ab m.nb m.cb) (.slice m.Ap m.np m.cp) (.slice m.At m.nt m.ct) (.int .i64 m.i) (.slice m.Av m.nv m.cv)).size]; exact Nat.le_refl _) (fun k h1 h2 => (se12 s W5 (.int .i64 m.k) (.int .i64 m.g) (.int .i64 m.l) (.int .i64 m.p) (.int .i64 m.s) (.int .i64 m.u) (.bool m.ok) (.slice m.Ab m.nb m.cb) (.slice m.Ap m.np m.cp) (.slice m.At m.nt m.ct) (.int .i64 m.i) (.slice m.Av m.nv m.cv)).block k (by have := GE.out k h1; have := S3.out; omega)), (fun b hb => by have := GE.out b hb; have := S3.out; have := HS.out; omega), BE.out _ (se12 s W5 (.int .i64 m.k) (.int .i64 m.g) (.int .i64 m.l) (.int .i64 m.p) (.int .i64 m.s) (.int .i64 m.u) (.bool m.ok) (.slice m.Ab m.nb m.cb) (.slice m.Ap m.np m.cp) (.slice m.At m.nt m.ct) (.int .i64 m.i) (.slice m.Av m.nv m.cv))⟩
        unfold rdC
        rw [if_neg (by rw [HL.out]; have := G.out; omega), DEC.out, L0]
      · have e6 : decide (0 < n6) = true := by simp; omega
        have G0 := Lib.hid g0
        clear g0
        go_wp2_with fail
        refine bodyPost_ret (v := .tuple #[.agg #[.int .i64 0, .int .i64 0, .int .i64 0, .int .i64 0, .int .i64 0, .int .i64 0, .bool false, .slice none 0 0, .slice none 0 0, .slice none 0 0, .int .i64 0, .slice none 0 0], .iface 57 (.int .i64 10)]) (resultsS Try.results36 _ _ _ s _ rfl (load_mg (row12 R50.out)) rfl) rfl ?_
        refine .inr ⟨10, ?_, .inr (.inr rfl), rfl, BE.out _ (se12 s W5 (.int .i64 0) (.int .i64 0) (.int .i64 0) (.int .i64 0) (.int .i64 0) (.int .i64 0) (.bool false) (.slice none 0 0) (.slice none 0 0) (.slice none 0 0) (.int .i64 0) (.slice none 0 0))⟩
        unfold rdC
        rw [if_neg (by rw [HL.out]; have := G.out; omega), DEC.out]
        cases hL : L4 with
        | nil =>
          have h9 := HN6.out
          rw [hL] at h9
          have := G0.out
          simp at h9
          omega
        | cons a l => rfl
set_option maxHeartbeats 16000000 in
set_option maxRecDepth 100000 in
theorem pReadMsg_any {w : World} {A : Option Addr} {n c : Nat} {xs : List Int} (hr : Rd .u8 w A n xs) (hd : Dig 256 xs) (hnc : n ≤ c) (hn47 : n ≤ 140737488355328) :
    Calls Try.prog 18 #[.slice A n c] w (Romg xs w) := by
  have HR := Lib.hid hr
  have HD := Lib.hid hd
  obtain ⟨s, hs⟩ : ∃ s, w.heap.size = s := ⟨_, rfl⟩
  obtain ⟨W1, hW1⟩ : ∃ W1, w.alloc (.cells #[.int .i64 0, .int .i64 0, .int .i64 0, .int .i64 0, .int .i64 0, .int .i64 0, .bool false, .slice none 0 0, .slice none 0 0, .slice none 0 0, .int .i64 0, .slice none 0 0] 30) = W1 := ⟨_, rfl⟩
  have B1 := Lib.hid (show Below w.heap.size w W1 by rw [← hW1]; exact (Below.refl _ _).alloc (Nat.le_refl _) _)
  have R1 := Lib.hid (show W1.heap[s]? = some (.cells #[.int .i64 0, .int .i64 0, .int .i64 0, .int .i64 0, .int .i64 0, .int .i64 0, .bool false, .slice none 0 0, .slice none 0 0, .slice none 0 0, .int .i64 0, .slice none 0 0] 30 (0, 0)) by rw [← hW1, ← hs]; exact heap_alloc_new w _)
  have S1 := Lib.hid (show W1.heap.size = s + 1 by rw [← hW1, ← hs]; simp)
  have HS := Lib.hid hs
  clear hr hd
  go_enter Try.func18, Try.ntmps18
  go_wp2_with fail
  try rw [hW1]
  refine (pread_mg (HR.out.below B1.out) HD.out hnc hn47).mono ?_
  have hW1' := Lib.hid hW1
  clear hW1
  rintro e u2 (⟨m, hrd, rfl, hmem, hge, hb⟩ | ⟨code, hrd, hc, rfl, hb⟩)
  · have RR := Lib.hid (show u2.heap[s]? = some (.cells #[.int .i64 0, .int .i64 0, .int .i64 0, .int .i64 0, .int .i64 0, .int .i64 0, .bool false, .slice none 0 0, .slice none 0 0, .slice none 0 0, .int .i64 0, .slice none 0 0] 30 (0, 0)) from (hb.block s (by have := S1.out; omega)).trans R1.out)
    have B2 := Lib.hid (show Below w.heap.size w u2 from B1.out.trans (hb.mono B1.out.size))
    have HM := Lib.hid hmem
    have HRD := Lib.hid hrd
    have GE := Lib.hid hge
    have x0 := cell_of_row u2 s 0 _ _ _ RR.out
    have x1 := cell_of_row u2 s 1 _ _ _ RR.out
    have x2 := cell_of_row u2 s 2 _ _ _ RR.out
    have x3 := cell_of_row u2 s 3 _ _ _ RR.out
    have x4 := cell_of_row u2 s 4 _ _ _ RR.out
    have x5 := cell_of_row u2 s 5 _ _ _ RR.out
    have x6 := cell_of_row u2 s 6 _ _ _ RR.out
    have x7 := cell_of_row u2 s 7 _ _ _ RR.out
    have x8 := cell_of_row u2 s 8 _ _ _ RR.out
    have x9 := cell_of_row u2 s 9 _ _ _ RR.out
    have x10 := cell_of_row u2 s 10 _ _ _ RR.out
    have x11 := cell_of_row u2 s 11 _ _ _ RR.out
    have f0 := frozen_of_row u2 s 0 _ _ RR.out
    have f1 := frozen_of_row u2 s 1 _ _ RR.out
    have f2 := frozen_of_row u2 s 2 _ _ RR.out
    have f3 := frozen_of_row u2 s 3 _ _ RR.out
    have f4 := frozen_of_row u2 s 4 _ _ RR.out
    have f5 := frozen_of_row u2 s 5 _ _ RR.out
    have f6 := frozen_of_row u2 s 6 _ _ RR.out
    have f7 := frozen_of_row u2 s 7 _ _ RR.out
    have f8 := frozen_of_row u2 s 8 _ _ RR.out
    have f9 := frozen_of_row u2 s 9 _ _ RR.out
    have f10 := frozen_of_row u2 s 10 _ _ RR.out
    have f11 := frozen_of_row u2 s 11 _ _ RR.out

    clear hrd hmem hb hge
    unfold Mgd.cells
    go_wp2_with fail
    refine bodyPost_ret (v := .tuple #[.agg #[.int .i64 m.k, .int .i64 m.g, .int .i64 m.l, .int .i64 m.p, .int .i64 m.s, .int .i64 m.u, .bool m.ok, .slice m.Ab m.nb m.cb, .slice m.Ap m.np m.cp, .slice m.At m.nt m.ct, .int .i64 m.i, .slice m.Av m.nv m.cv], .nilIface]) (resultsS Try.results18 _ _ _ s _ rfl (load_mg (row12 RR.out)) rfl) rfl ?_
    exact .inl ⟨m, HRD.out, rfl, HM.out.stay (by rw [(se12 s u2 (.int .i64 m.k) (.int .i64 m.g) (.int .i64 m.l) (.int .i64 m.p) (.int .i64 m.s) (.int .i64 m.u) (.bool m.ok) (.slice m.Ab m.nb m.cb) (.slice m.Ap m.np m.cp) (.slice m.At m.nt m.ct) (.int .i64 m.i) (.slice m.Av m.nv m.cv)).size]; exact Nat.le_refl _) (fun k h1 h2 => (se12 s u2 (.int .i64 m.k) (.int .i64 m.g) (.int .i64 m.l) (.int .i64 m.p) (.int .i64 m.s) (.int .i64 m.u) (.bool m.ok) (.slice m.Ab m.nb m.cb) (.slice m.Ap m.np m.cp) (.slice m.At m.nt m.ct) (.int .i64 m.i) (.slice m.Av m.nv m.cv)).block k (by have := GE.out k h1; have := S1.out; omega)), (fun b hb => by have := GE.out b hb; have := S1.out; have := HS.out; omega), B2.out.trans ((se12 s u2 (.int .i64 m.k) (.int .i64 m.g) (.int .i64 m.l) (.int .i64 m.p) (.int .i64 m.s) (.int .i64 m.u) (.bool m.ok) (.slice m.Ab m.nb m.cb) (.slice m.Ap m.np m.cp) (.slice m.At m.nt m.ct) (.int .i64 m.i) (.slice m.Av m.nv m.cv)).below (by have := HS.out; omega))⟩
  · have RR := Lib.hid (show u2.heap[s]? = some (.cells #[.int .i64 0, .int .i64 0, .int .i64 0, .int .i64 0, .int .i64 0, .int .i64 0, .bool false, .slice none 0 0, .slice none 0 0, .slice none 0 0, .int .i64 0, .slice none 0 0] 30 (0, 0)) from (hb.block s (by have := S1.out; omega)).trans R1.out)
    have B2 := Lib.hid (show Below w.heap.size w u2 from B1.out.trans (hb.mono B1.out.size))
    have HRD := Lib.hid hrd
    have HC := Lib.hid hc
    have x0 := cell_of_row u2 s 0 _ _ _ RR.out
    have x1 := cell_of_row u2 s 1 _ _ _ RR.out
    have x2 := cell_of_row u2 s 2 _ _ _ RR.out
    have x3 := cell_of_row u2 s 3 _ _ _ RR.out
    have x4 := cell_of_row u2 s 4 _ _ _ RR.out
    have x5 := cell_of_row u2 s 5 _ _ _ RR.out
    have x6 := cell_of_row u2 s 6 _ _ _ RR.out
    have x7 := cell_of_row u2 s 7 _ _ _ RR.out
    have x8 := cell_of_row u2 s 8 _ _ _ RR.out
    have x9 := cell_of_row u2 s 9 _ _ _ RR.out
    have x10 := cell_of_row u2 s 10 _ _ _ RR.out
    have x11 := cell_of_row u2 s 11 _ _ _ RR.out
    have f0 := frozen_of_row u2 s 0 _ _ RR.out
    have f1 := frozen_of_row u2 s 1 _ _ RR.out
    have f2 := frozen_of_row u2 s 2 _ _ RR.out
    have f3 := frozen_of_row u2 s 3 _ _ RR.out
    have f4 := frozen_of_row u2 s 4 _ _ RR.out
    have f5 := frozen_of_row u2 s 5 _ _ RR.out
    have f6 := frozen_of_row u2 s 6 _ _ RR.out
    have f7 := frozen_of_row u2 s 7 _ _ RR.out
    have f8 := frozen_of_row u2 s 8 _ _ RR.out
    have f9 := frozen_of_row u2 s 9 _ _ RR.out
    have f10 := frozen_of_row u2 s 10 _ _ RR.out
    have f11 := frozen_of_row u2 s 11 _ _ RR.out

    clear hrd hb hc
    go_wp2_with fail
    refine bodyPost_ret (v := .tuple #[.agg #[.int .i64 0, .int .i64 0, .int .i64 0, .int .i64 0, .int .i64 0, .int .i64 0, .bool false, .slice none 0 0, .slice none 0 0, .slice none 0 0, .int .i64 0, .slice none 0 0], .iface 57 (.int .i64 code)]) (resultsS Try.results18 _ _ _ s _ rfl (load_mg (row12 RR.out)) rfl) rfl ?_
    exact .inr ⟨code, HRD.out, HC.out, rfl, B2.out.trans ((se12 s u2 (.int .i64 0) (.int .i64 0) (.int .i64 0) (.int .i64 0) (.int .i64 0) (.int .i64 0) (.bool false) (.slice none 0 0) (.slice none 0 0) (.slice none 0 0) (.int .i64 0) (.slice none 0 0)).below (by have := HS.out; omega))⟩
end Go.Proofs.Ytcnekfpgoceblaa
