/-
  WireBack answers true: a message that is written is read as it was, and written again as those bytes. By program: genwback.py.
-/
import Derived.Test.YtcnekfpgoceblaaSa11
namespace Go.Proofs.Ytcnekfpgoceblaa
open Go.RowKit
set_option linter.unusedVariables false
set_option maxRecDepth 100000 in
theorem eqW_oneB (c : Int) : ∀ w : World, (binOp .eql 35 (.iface 57 (.int .i64 c)) .nilIface).run Try.prog w = .ok (.bool false) w := fun _ => rfl
set_option maxHeartbeats 64000000 in
set_option maxRecDepth 100000 in
theorem wireBack_walk {w : World} {m : Mgd} (hm : Mg w m) (hI : m.Int) (hT : ∀ i, i < m.nt → (m.T i).xs.length ≤ 4611686018427387904) :
    Calls Try.prog 6 #[.agg #[.int .i64 m.k, .int .i64 m.g, .int .i64 m.l, .int .i64 m.p, .int .i64 m.s, .int .i64 m.u, .bool m.ok, .slice m.Ab m.nb m.cb, .slice m.Ap m.np m.cp, .slice m.At m.nt m.ct, .int .i64 m.i, .slice m.Av m.nv m.cv]] w fun e w' => e = .returned (.bool true) ∧ Below w.heap.size w w' := by
  obtain ⟨cm, xs, hcm, hlx, hdx, hok, hno, hpm, -⟩ := msg_two hm hI hT
  have HM := Lib.hid hm
  have HP := Lib.hid hpm
  have HOK := Lib.hid hok
  have HNO := Lib.hid hno
  have HDX := Lib.hid hdx
  have HLX := Lib.hid hlx
  obtain ⟨s, hs⟩ : ∃ s, w.heap.size = s := ⟨_, rfl⟩
  obtain ⟨W1, hW1⟩ : ∃ W1, w.alloc (.cells #[.int .i64 m.k, .int .i64 m.g, .int .i64 m.l, .int .i64 m.p, .int .i64 m.s, .int .i64 m.u, .bool m.ok, .slice m.Ab m.nb m.cb, .slice m.Ap m.np m.cp, .slice m.At m.nt m.ct, .int .i64 m.i, .slice m.Av m.nv m.cv] 30) = W1 := ⟨_, rfl⟩
  have B1 := Lib.hid (show Below w.heap.size w W1 by rw [← hW1]; exact (Below.refl _ _).alloc (Nat.le_refl _) _)
  have R1 := Lib.hid (show W1.heap[s]? = some (.cells #[.int .i64 m.k, .int .i64 m.g, .int .i64 m.l, .int .i64 m.p, .int .i64 m.s, .int .i64 m.u, .bool m.ok, .slice m.Ab m.nb m.cb, .slice m.Ap m.np m.cp, .slice m.At m.nt m.ct, .int .i64 m.i, .slice m.Av m.nv m.cv] 30 (0, 0)) by rw [← hW1, ← hs]; exact heap_alloc_new w _)
  clear hm hpm hok hno hdx hlx hI hT
  go_enter Try.func6, Try.ntmps6
  go_wp2_with fail
  try rw [hW1]
  clear hW1
  refine (up11_any W1).mono ?_
  rintro e w2 ⟨rfl, b2⟩
  have B2 := Lib.hid (B1.out.trans (b2.mono B1.out.size))
  have R2 := Lib.hid (row_belowM R1.out b2)
  clear b2 hs
  have y0 := cell_of_row w2 s 0 _ _ _ R2.out
  have y1 := cell_of_row w2 s 1 _ _ _ R2.out
  have y2 := cell_of_row w2 s 2 _ _ _ R2.out
  have y3 := cell_of_row w2 s 3 _ _ _ R2.out
  have y4 := cell_of_row w2 s 4 _ _ _ R2.out
  have y5 := cell_of_row w2 s 5 _ _ _ R2.out
  have y6 := cell_of_row w2 s 6 _ _ _ R2.out
  have y7 := cell_of_row w2 s 7 _ _ _ R2.out
  have y8 := cell_of_row w2 s 8 _ _ _ R2.out
  have y9 := cell_of_row w2 s 9 _ _ _ R2.out
  have y10 := cell_of_row w2 s 10 _ _ _ R2.out
  have y11 := cell_of_row w2 s 11 _ _ _ R2.out
  go_wp2_with fail
  clear y0 y1 y2 y3 y4 y5 y6 y7 y8 y9 y10 y11
  refine (smallW_any (HM.out.below B2.out)).mono ?_
  rintro e w3 ⟨q, rfl, hq, b3⟩
  have HQ := Lib.hid hq
  have B3 := Lib.hid (B2.out.trans (b3.mono B2.out.size))
  have R3 := Lib.hid (row_belowM R2.out b3)
  clear b3 hq
  have y0 := cell_of_row w3 s 0 _ _ _ R3.out
  have y1 := cell_of_row w3 s 1 _ _ _ R3.out
  have y2 := cell_of_row w3 s 2 _ _ _ R3.out
  have y3 := cell_of_row w3 s 3 _ _ _ R3.out
  have y4 := cell_of_row w3 s 4 _ _ _ R3.out
  have y5 := cell_of_row w3 s 5 _ _ _ R3.out
  have y6 := cell_of_row w3 s 6 _ _ _ R3.out
  have y7 := cell_of_row w3 s 7 _ _ _ R3.out
  have y8 := cell_of_row w3 s 8 _ _ _ R3.out
  have y9 := cell_of_row w3 s 9 _ _ _ R3.out
  have y10 := cell_of_row w3 s 10 _ _ _ R3.out
  have y11 := cell_of_row w3 s 11 _ _ _ R3.out
  go_wp2_with fail
  clear y0 y1 y2 y3 y4 y5 y6 y7 y8 y9 y10 y11
  refine (HP.out w3 (HM.out.below B3.out)).mono ?_
  rintro e w4 ⟨A4, c4, E4, rfl, hE4, rd4, hc4, b4⟩
  have HE4 := Lib.hid hE4
  have RD4 := Lib.hid rd4
  have HC4 := Lib.hid hc4
  have B4 := Lib.hid (B3.out.trans (b4.mono B3.out.size))
  have R4 := Lib.hid (row_belowM R3.out b4)
  clear hE4 rd4 b4 hc4
  by_cases ga : cm = 0
  case neg =>
    obtain rfl := erv_iface HE4.out ga
    obtain rfl := HNO.out ga
    have q1 := neW_one cm
    have q2 := eqW_oneB cm
    clear ga
    go_wp2_with fail
    go_ret
    exact ⟨rfl, B4.out⟩
  obtain rfl := ervN_zero (ga ▸ HE4.out)
  obtain ⟨cn, ok, ex⟩ := HOK.out ga
  have q1 := neW_nil
  have q2 := eqW_nil
  cases q with
  | false =>
    clear ga cn ok ex
    go_wp2_with fail
    go_ret
    exact ⟨rfl, B4.out⟩
  | true =>
    have OK := Lib.hid ok
    have EX := Lib.hid ex
    have CN := Lib.hid cn
    have RB := Lib.hid (show rdC msgC 1048576 xs = (0, some (mv m)) by rw [ex]; exact rdC_back msgC ok (by rw [← ex]; exact HLX.out))
    have SML := Lib.hid (HQ.out (by trivial))
    clear ga cn ok ex
    go_wp2_with fail
    refine (pReadMsg_any RD4.out HDX.out HC4.out (Nat.le_trans HLX.out (by decide))).mono ?_
    rintro e w5 (⟨r, h1, he, hmem, -, b5⟩ | ⟨k, h1, -⟩)
    case inr =>
      rw [RB.out] at h1
      cases h1
    unfold Mgd.cells at he
    subst he
    have HV := Lib.hid (show mv r = mv m by rw [RB.out] at h1; injection h1 with h1 h2; injection h2 with h2; exact h2.symm)
    have HR := Lib.hid hmem.mg
    have HRC := Lib.hid hmem.cn
    have B5 := Lib.hid (B4.out.trans (b5.mono B4.out.size))
    have R5 := Lib.hid (row_belowM R4.out b5)
    have RD5 := Lib.hid (RD4.out.below b5)
    clear h1 hmem b5
    have LX := Lib.hid (show (msgC.enc (mv m)).length ≤ 1048576 by rw [← EX.out]; exact HLX.out)
    obtain ⟨pr, dr⟩ := msg_two0 (m := r) HR.out (fun i hi => Nat.le_trans (txt_len hi) (by rw [HV.out]; exact LX.out)) HRC.out (by rw [HV.out]; exact OK.out) (by rw [HV.out]; exact LX.out)
    rw [HV.out, ← EX.out] at pr dr
    obtain ⟨-, dm⟩ := msg_two0 (m := m) HM.out (fun i hi => Nat.le_trans (txt_len hi) LX.out) CN.out OK.out LX.out
    rw [← EX.out] at dm
    have PR := Lib.hid pr
    have DR := Lib.hid (dr (sml_same HV.out SML.out))
    have DM := Lib.hid (dm SML.out)
    obtain ⟨t, ht⟩ : ∃ t, w5.heap.size = t := ⟨_, rfl⟩
    obtain ⟨W6, hW6⟩ : ∃ W6, w5.alloc (.cells #[.int .i64 r.k, .int .i64 r.g, .int .i64 r.l, .int .i64 r.p, .int .i64 r.s, .int .i64 r.u, .bool r.ok, .slice r.Ab r.nb r.cb, .slice r.Ap r.np r.cp, .slice r.At r.nt r.ct, .int .i64 r.i, .slice r.Av r.nv r.cv] 30) = W6 := ⟨_, rfl⟩
    have BL6 := Lib.hid (show Below w5.heap.size w5 W6 by rw [← hW6]; exact (Below.refl _ _).alloc (Nat.le_refl _) _)
    have B6 := Lib.hid (B5.out.trans (BL6.out.mono B5.out.size))
    have R6 := Lib.hid (row_belowM R5.out BL6.out)
    have T6 := Lib.hid (show W6.heap[t]? = some (.cells #[.int .i64 r.k, .int .i64 r.g, .int .i64 r.l, .int .i64 r.p, .int .i64 r.s, .int .i64 r.u, .bool r.ok, .slice r.Ab r.nb r.cb, .slice r.Ap r.np r.cp, .slice r.At r.nt r.ct, .int .i64 r.i, .slice r.Av r.nv r.cv] 30 (0, 0)) by rw [← hW6, ← ht]; exact heap_alloc_new w5 _)
    have HR6 := Lib.hid (HR.out.below BL6.out)
    have RD6 := Lib.hid (RD5.out.below BL6.out)
    have HW6 := Lib.hid hW6
    have z := cell_of_row W6 t 0 _ _ _ T6.out
    clear pr dr dm hW6 z
    have z0 := cell_of_row W6 t 0 _ _ _ T6.out
    have z1 := cell_of_row W6 t 1 _ _ _ T6.out
    have z2 := cell_of_row W6 t 2 _ _ _ T6.out
    have z3 := cell_of_row W6 t 3 _ _ _ T6.out
    have z4 := cell_of_row W6 t 4 _ _ _ T6.out
    have z5 := cell_of_row W6 t 5 _ _ _ T6.out
    have z6 := cell_of_row W6 t 6 _ _ _ T6.out
    have z7 := cell_of_row W6 t 7 _ _ _ T6.out
    have z8 := cell_of_row W6 t 8 _ _ _ T6.out
    have z9 := cell_of_row W6 t 9 _ _ _ T6.out
    have z10 := cell_of_row W6 t 10 _ _ _ T6.out
    have z11 := cell_of_row W6 t 11 _ _ _ T6.out
    go_wp2_with fail
    try rw [HW6.out]
    go_wp2_with fail
    refine (PR.out W6 HR6.out).mono ?_
    rintro e w7 ⟨A7, c7, E7, rfl, hE7, rd7, -, b7⟩
    obtain rfl := ervN_zero hE7
    have B7 := Lib.hid (B6.out.trans (b7.mono B6.out.size))
    have R7 := Lib.hid (row_belowM R6.out b7)
    have T7 := Lib.hid (row_belowM T6.out b7)
    have HR7 := Lib.hid (HR6.out.below b7)
    have RD7 := Lib.hid (RD6.out.below b7)
    have RE7 := Lib.hid rd7
    clear hE7 rd7 b7 z0 z1 z2 z3 z4 z5 z6 z7 z8 z9 z10 z11
    have z0 := cell_of_row w7 t 0 _ _ _ T7.out
    have z1 := cell_of_row w7 t 1 _ _ _ T7.out
    have z2 := cell_of_row w7 t 2 _ _ _ T7.out
    have z3 := cell_of_row w7 t 3 _ _ _ T7.out
    have z4 := cell_of_row w7 t 4 _ _ _ T7.out
    have z5 := cell_of_row w7 t 5 _ _ _ T7.out
    have z6 := cell_of_row w7 t 6 _ _ _ T7.out
    have z7 := cell_of_row w7 t 7 _ _ _ T7.out
    have z8 := cell_of_row w7 t 8 _ _ _ T7.out
    have z9 := cell_of_row w7 t 9 _ _ _ T7.out
    have z10 := cell_of_row w7 t 10 _ _ _ T7.out
    have z11 := cell_of_row w7 t 11 _ _ _ T7.out
    have y0 := cell_of_row w7 s 0 _ _ _ R7.out
    have y1 := cell_of_row w7 s 1 _ _ _ R7.out
    have y2 := cell_of_row w7 s 2 _ _ _ R7.out
    have y3 := cell_of_row w7 s 3 _ _ _ R7.out
    have y4 := cell_of_row w7 s 4 _ _ _ R7.out
    have y5 := cell_of_row w7 s 5 _ _ _ R7.out
    have y6 := cell_of_row w7 s 6 _ _ _ R7.out
    have y7 := cell_of_row w7 s 7 _ _ _ R7.out
    have y8 := cell_of_row w7 s 8 _ _ _ R7.out
    have y9 := cell_of_row w7 s 9 _ _ _ R7.out
    have y10 := cell_of_row w7 s 10 _ _ _ R7.out
    have y11 := cell_of_row w7 s 11 _ _ _ R7.out
    go_wp2_with fail
    clear z0 z1 z2 z3 z4 z5 z6 z7 z8 z9 z10 z11 y0 y1 y2 y3 y4 y5 y6 y7 y8 y9 y10 y11
    refine (rsame_any (HM.out.below B7.out) HR7.out DM.out DR.out).mono ?_
    rintro e w8 ⟨rfl, b8⟩
    have B8 := Lib.hid (B7.out.trans (b8.mono B7.out.size))
    have cv1 := conv_any (c := c4) (RD7.out.below b8)
    have cv2 := conv_any (c := c7) (RE7.out.below b8)
    obtain ⟨S, hS⟩ : ∃ S, strOfNums xs = S := ⟨_, rfl⟩
    rw [hS] at cv1 cv2
    have d1 := str_eql S
    clear b8 hS
    go_wp2_with fail
    go_ret
    exact ⟨rfl, B8.out⟩
end Go.Proofs.Ytcnekfpgoceblaa
