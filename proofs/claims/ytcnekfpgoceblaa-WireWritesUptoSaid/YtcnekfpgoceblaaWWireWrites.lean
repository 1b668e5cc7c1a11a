/-
  WireWrites answers true: the bytes of a message, or what is amiss, as the document's way has them. For texts that the document's way can lay out. By program: genwwr.py.
-/
import Derived.Test.YtcnekfpgoceblaaWWireOne
namespace Go.Proofs.Ytcnekfpgoceblaa
open Go.RowKit
set_option linter.unusedVariables false
set_option maxHeartbeats 64000000 in
set_option maxRecDepth 100000 in
theorem wireWrites_walk {w : World} {m : Mgd} (hm : Mg w m) (hI : m.Int) (hT : ∀ i, i < m.nt → (m.T i).xs.length ≤ 1073741824) :
    Calls Try.prog 3 #[.agg #[.int .i64 m.k, .int .i64 m.g, .int .i64 m.l, .int .i64 m.p, .int .i64 m.s, .int .i64 m.u, .bool m.ok, .slice m.Ab m.nb m.cb, .slice m.Ap m.np m.cp, .slice m.At m.nt m.ct, .int .i64 m.i, .slice m.Av m.nv m.cv]] w fun e w' => e = .returned (.bool true) ∧ Below w.heap.size w w' := by
  obtain ⟨cm, xs, hcm, hlx, hdx, -, -, hpm, hdm⟩ := msg_two hm hI (fun i hi => Nat.le_trans (hT i hi) (by decide))
  have HM := Lib.hid hm
  have HP := Lib.hid hpm
  have HD := Lib.hid hdm
  have HT := Lib.hid hT
  obtain ⟨s, hs⟩ : ∃ s, w.heap.size = s := ⟨_, rfl⟩
  obtain ⟨W1, hW1⟩ : ∃ W1, w.alloc (.cells #[.int .i64 m.k, .int .i64 m.g, .int .i64 m.l, .int .i64 m.p, .int .i64 m.s, .int .i64 m.u, .bool m.ok, .slice m.Ab m.nb m.cb, .slice m.Ap m.np m.cp, .slice m.At m.nt m.ct, .int .i64 m.i, .slice m.Av m.nv m.cv] 30) = W1 := ⟨_, rfl⟩
  have B1 := Lib.hid (show Below w.heap.size w W1 by rw [← hW1]; exact (Below.refl _ _).alloc (Nat.le_refl _) _)
  have R1 := Lib.hid (show W1.heap[s]? = some (.cells #[.int .i64 m.k, .int .i64 m.g, .int .i64 m.l, .int .i64 m.p, .int .i64 m.s, .int .i64 m.u, .bool m.ok, .slice m.Ab m.nb m.cb, .slice m.Ap m.np m.cp, .slice m.At m.nt m.ct, .int .i64 m.i, .slice m.Av m.nv m.cv] 30 (0, 0)) by rw [← hW1, ← hs]; exact heap_alloc_new w _)
  clear hm hpm hdm hdx hI hT
  go_enter Try.func3, Try.ntmps3
  go_wp2_with fail
  try rw [hW1]
  clear hW1
  refine (up11_any W1).mono ?_
  rintro e w2 ⟨rfl, b2⟩
  have B2 := Lib.hid (B1.out.trans (b2.mono B1.out.size))
  have R2 := Lib.hid (row_belowM R1.out b2)
  clear b2 hs
  have y0 := cell_of_row w2 s 0 _ _ _ R2.out
  have y1 := cell_of_row w2 s 1 _ _ _ R2.out
  have y2 := cell_of_row w2 s 2 _ _ _ R2.out
  have y3 := cell_of_row w2 s 3 _ _ _ R2.out
  have y4 := cell_of_row w2 s 4 _ _ _ R2.out
  have y5 := cell_of_row w2 s 5 _ _ _ R2.out
  have y6 := cell_of_row w2 s 6 _ _ _ R2.out
  have y7 := cell_of_row w2 s 7 _ _ _ R2.out
  have y8 := cell_of_row w2 s 8 _ _ _ R2.out
  have y9 := cell_of_row w2 s 9 _ _ _ R2.out
  have y10 := cell_of_row w2 s 10 _ _ _ R2.out
  have y11 := cell_of_row w2 s 11 _ _ _ R2.out
  go_wp2_with fail
  clear y0 y1 y2 y3 y4 y5 y6 y7 y8 y9 y10 y11
  refine (smallW_any (HM.out.below B2.out)).mono ?_
  rintro e w3 ⟨q, rfl, hq, b3⟩
  have HQ := Lib.hid hq
  have B3 := Lib.hid (B2.out.trans (b3.mono B2.out.size))
  have R3 := Lib.hid (row_belowM R2.out b3)
  clear b3 hq
  cases q with
  | false =>
    go_wp2_with fail
    go_ret
    exact ⟨rfl, B3.out⟩
  | true =>
    have y0 := cell_of_row w3 s 0 _ _ _ R3.out
    have y1 := cell_of_row w3 s 1 _ _ _ R3.out
    have y2 := cell_of_row w3 s 2 _ _ _ R3.out
    have y3 := cell_of_row w3 s 3 _ _ _ R3.out
    have y4 := cell_of_row w3 s 4 _ _ _ R3.out
    have y5 := cell_of_row w3 s 5 _ _ _ R3.out
    have y6 := cell_of_row w3 s 6 _ _ _ R3.out
    have y7 := cell_of_row w3 s 7 _ _ _ R3.out
    have y8 := cell_of_row w3 s 8 _ _ _ R3.out
    have y9 := cell_of_row w3 s 9 _ _ _ R3.out
    have y10 := cell_of_row w3 s 10 _ _ _ R3.out
    have y11 := cell_of_row w3 s 11 _ _ _ R3.out
    go_wp2_with fail
    clear y0 y1 y2 y3 y4 y5 y6 y7 y8 y9 y10 y11
    refine (HP.out w3 (HM.out.below B3.out)).mono ?_
    rintro e w4 ⟨A4, c4, E4, rfl, hE4, rd4, -, b4⟩
    have HE4 := Lib.hid hE4
    have RD4 := Lib.hid rd4
    have B4 := Lib.hid (B3.out.trans (b4.mono B3.out.size))
    have R4 := Lib.hid (row_belowM R3.out b4)
    clear hE4 rd4 b4
    have y0 := cell_of_row w4 s 0 _ _ _ R4.out
    have y1 := cell_of_row w4 s 1 _ _ _ R4.out
    have y2 := cell_of_row w4 s 2 _ _ _ R4.out
    have y3 := cell_of_row w4 s 3 _ _ _ R4.out
    have y4 := cell_of_row w4 s 4 _ _ _ R4.out
    have y5 := cell_of_row w4 s 5 _ _ _ R4.out
    have y6 := cell_of_row w4 s 6 _ _ _ R4.out
    have y7 := cell_of_row w4 s 7 _ _ _ R4.out
    have y8 := cell_of_row w4 s 8 _ _ _ R4.out
    have y9 := cell_of_row w4 s 9 _ _ _ R4.out
    have y10 := cell_of_row w4 s 10 _ _ _ R4.out
    have y11 := cell_of_row w4 s 11 _ _ _ R4.out
    go_wp2_with fail
    clear y0 y1 y2 y3 y4 y5 y6 y7 y8 y9 y10 y11
    refine (HD.out (HQ.out trivial) HT.out w4 (HM.out.below B4.out)).mono ?_
    rintro e w5 ⟨A5, c5, rfl, rd5, b5⟩
    have B5 := Lib.hid (B4.out.trans (b5.mono B4.out.size))
    have cv3 := conv_any (c := c4) (RD4.out.below b5)
    have cv4 := conv_any (c := c5) rd5
    obtain ⟨S, hS⟩ : ∃ S, strOfNums xs = S := ⟨_, rfl⟩
    rw [hS] at cv3 cv4
    have d1 := str_neq S
    have d2 := str_eql S
    clear b5 rd5 hS
    go_wp2_with fail
    refine (code_e HE4.out w5).mono ?_
    rintro e w6 ⟨rfl, rfl⟩
    clear cv3 cv4 d1 d2
    go_wp2_with fail
    go_ret
    exact ⟨rfl, B5.out⟩
end Go.Proofs.Ytcnekfpgoceblaa
