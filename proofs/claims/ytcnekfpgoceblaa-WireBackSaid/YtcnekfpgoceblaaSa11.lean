/-
  The document's Same, of two messages that have the same bytes. By program: genwback.py.
-/
import Derived.Test.YtcnekfpgoceblaaVb11
import Derived.Test.YtcnekfpgoceblaaWWireOne
namespace Go.Proofs.Ytcnekfpgoceblaa
open Go.RowKit
set_option linter.unusedVariables false
set_option maxHeartbeats 16000000 in
set_option maxRecDepth 100000 in
theorem rsame_any {w : World} {a b : Mgd} {xs : List Int} (ha : Mg w a) (hb : Mg w b) (hpa : ∀ w, Mg w a → Calls Try.prog 12 #[a.v] w (WdP 0 xs w)) (hpb : ∀ w, Mg w b → Calls Try.prog 12 #[b.v] w (WdP 0 xs w)) :
    Calls Try.prog 21 #[.agg #[.int .i64 a.k, .int .i64 a.g, .int .i64 a.l, .int .i64 a.p, .int .i64 a.s, .int .i64 a.u, .bool a.ok, .slice a.Ab a.nb a.cb, .slice a.Ap a.np a.cp, .slice a.At a.nt a.ct, .int .i64 a.i, .slice a.Av a.nv a.cv], .agg #[.int .i64 b.k, .int .i64 b.g, .int .i64 b.l, .int .i64 b.p, .int .i64 b.s, .int .i64 b.u, .bool b.ok, .slice b.Ab b.nb b.cb, .slice b.Ap b.np b.cp, .slice b.At b.nt b.ct, .int .i64 b.i, .slice b.Av b.nv b.cv]] w fun e w' => e = .returned (.bool true) ∧ Below w.heap.size w w' := by
  have HA := Lib.hid ha
  have HB := Lib.hid hb
  have HPA := Lib.hid hpa
  have HPB := Lib.hid hpb
  obtain ⟨s, hs⟩ : ∃ s, w.heap.size = s := ⟨_, rfl⟩
  obtain ⟨W1, hW1⟩ : ∃ W1, w.alloc (.cells #[.int .i64 a.k, .int .i64 a.g, .int .i64 a.l, .int .i64 a.p, .int .i64 a.s, .int .i64 a.u, .bool a.ok, .slice a.Ab a.nb a.cb, .slice a.Ap a.np a.cp, .slice a.At a.nt a.ct, .int .i64 a.i, .slice a.Av a.nv a.cv] 30) = W1 := ⟨_, rfl⟩
  have b1 : Below w.heap.size w W1 := by rw [← hW1]; exact (Below.refl _ _).alloc (Nat.le_refl _) _
  have s1 : W1.heap.size = s + 1 := by rw [← hW1, ← hs]; simp
  obtain ⟨W2, hW2⟩ : ∃ W2, W1.alloc (.cells #[.int .i64 b.k, .int .i64 b.g, .int .i64 b.l, .int .i64 b.p, .int .i64 b.s, .int .i64 b.u, .bool b.ok, .slice b.Ab b.nb b.cb, .slice b.Ap b.np b.cp, .slice b.At b.nt b.ct, .int .i64 b.i, .slice b.Av b.nv b.cv] 30) = W2 := ⟨_, rfl⟩
  have b2 : Below W1.heap.size W1 W2 := by rw [← hW2]; exact (Below.refl _ _).alloc (Nat.le_refl _) _
  have B0 := Lib.hid (show Below w.heap.size w W2 from b1.trans (b2.mono b1.size))
  have RB2 := Lib.hid (show W2.heap[s + 1]? = some (.cells #[.int .i64 b.k, .int .i64 b.g, .int .i64 b.l, .int .i64 b.p, .int .i64 b.s, .int .i64 b.u, .bool b.ok, .slice b.Ab b.nb b.cb, .slice b.Ap b.np b.cp, .slice b.At b.nt b.ct, .int .i64 b.i, .slice b.Av b.nv b.cv] 30 (0, 0)) by rw [← hW2, ← s1]; exact heap_alloc_new W1 _)
  have RA2 := Lib.hid (row_belowM (show W1.heap[s]? = some (.cells #[.int .i64 a.k, .int .i64 a.g, .int .i64 a.l, .int .i64 a.p, .int .i64 a.s, .int .i64 a.u, .bool a.ok, .slice a.Ab a.nb a.cb, .slice a.Ap a.np a.cp, .slice a.At a.nt a.ct, .int .i64 a.i, .slice a.Av a.nv a.cv] 30 (0, 0)) by rw [← hW1, ← hs]; exact heap_alloc_new w _) b2)
  clear ha hb hpa hpb b1 b2
  have z0 := cell_of_row W2 s 0 _ _ _ RA2.out
  have z1 := cell_of_row W2 s 1 _ _ _ RA2.out
  have z2 := cell_of_row W2 s 2 _ _ _ RA2.out
  have z3 := cell_of_row W2 s 3 _ _ _ RA2.out
  have z4 := cell_of_row W2 s 4 _ _ _ RA2.out
  have z5 := cell_of_row W2 s 5 _ _ _ RA2.out
  have z6 := cell_of_row W2 s 6 _ _ _ RA2.out
  have z7 := cell_of_row W2 s 7 _ _ _ RA2.out
  have z8 := cell_of_row W2 s 8 _ _ _ RA2.out
  have z9 := cell_of_row W2 s 9 _ _ _ RA2.out
  have z10 := cell_of_row W2 s 10 _ _ _ RA2.out
  have z11 := cell_of_row W2 s 11 _ _ _ RA2.out
  go_enter Try.func21, Try.ntmps21
  go_wp2_with fail
  try rw [hW1]
  try rw [hW2]
  clear hW1 hW2 z0 z1 z2 z3 z4 z5 z6 z7 z8 z9 z10 z11
  refine (HPA.out W2 (HA.out.below B0.out)).mono ?_
  rintro e w1 ⟨A1, c1, rfl, rd1, b1⟩
  have RD1 := Lib.hid rd1
  have RB1 := Lib.hid (row_belowM RB2.out b1)
  have B1 := Lib.hid (B0.out.trans (b1.mono B0.out.size))
  clear rd1 b1 s1 hs
  have y0 := cell_of_row w1 (s + 1) 0 _ _ _ RB1.out
  have y1 := cell_of_row w1 (s + 1) 1 _ _ _ RB1.out
  have y2 := cell_of_row w1 (s + 1) 2 _ _ _ RB1.out
  have y3 := cell_of_row w1 (s + 1) 3 _ _ _ RB1.out
  have y4 := cell_of_row w1 (s + 1) 4 _ _ _ RB1.out
  have y5 := cell_of_row w1 (s + 1) 5 _ _ _ RB1.out
  have y6 := cell_of_row w1 (s + 1) 6 _ _ _ RB1.out
  have y7 := cell_of_row w1 (s + 1) 7 _ _ _ RB1.out
  have y8 := cell_of_row w1 (s + 1) 8 _ _ _ RB1.out
  have y9 := cell_of_row w1 (s + 1) 9 _ _ _ RB1.out
  have y10 := cell_of_row w1 (s + 1) 10 _ _ _ RB1.out
  have y11 := cell_of_row w1 (s + 1) 11 _ _ _ RB1.out
  go_wp2_with fail
  clear y0 y1 y2 y3 y4 y5 y6 y7 y8 y9 y10 y11
  refine (HPB.out w1 (HB.out.below B1.out)).mono ?_
  rintro e w2 ⟨A2, c2, rfl, rd2, b2⟩
  have B2 := Lib.hid (B1.out.trans (b2.mono B1.out.size))
  have cv1 := conv_any (c := c1) (RD1.out.below b2)
  have cv2 := conv_any (c := c2) rd2
  obtain ⟨S, hS⟩ : ∃ S, strOfNums xs = S := ⟨_, rfl⟩
  rw [hS] at cv1 cv2
  have d1 := str_eql S
  clear b2 rd2 hS
  go_wp2_with fail
  go_ret
  exact ⟨rfl, B2.out⟩
end Go.Proofs.Ytcnekfpgoceblaa
