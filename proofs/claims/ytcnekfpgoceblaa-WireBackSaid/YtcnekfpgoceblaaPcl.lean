/-
  Several texts in one: U11, Up11.
-/
import Derived.Test.YtcnekfpgoceblaaPcg
import Derived.Test.YtcnekfpgoceblaaHsa
/-
  What the head of layer 11's laws answers: the document's examples hold.
-/
namespace Go.Proofs.Ytcnekfpgoceblaa
open Go.RowKit
set_option linter.unusedVariables false
set_option maxRecDepth 100000 in
theorem eqW_nil : ∀ w : World, (binOp .eql 35 .nilIface .nilIface).run Try.prog w = .ok (.bool true) w := fun _ => rfl
set_option maxRecDepth 100000 in
theorem eqW_form : ∀ w : World, (binOp .eql 35 (.iface 57 (.int .i64 9)) (.iface 57 (.int .i64 9))).run Try.prog w = .ok (.bool true) w := fun _ => rfl
theorem cntE_0 : cntE 0 = [0] := cntE_lt (by decide)
theorem num_0 (s : OuS) : s.num 0 = s.put [0] := by
  have h0 : dl 0 = 0 := by unfold dl; rw [dg_zero]; rfl
  unfold OuS.num OuS.numE
  rw [if_neg (by rw [h0]; omega), h0, dg_zero, cntE_0]
  rfl
theorem cnt_lit (s : OuS) {n : Nat} (h : n < 128) : s.cnt (n : Int) = s.put [(n : Int)] := by
  rw [OuS.cnt_ok (by unfold topC; omega), cntE_lt h]
/-- The message of the examples. -/
def exM : Mgd := ⟨10, 0, 0, 0, 0, 0, false, none, 0, 0, fun _ => ⟨none, 0, 0, fun _ => ⟨none, 0, 0, none, 0, 0, none, 0, 0, 0, 0, 0⟩⟩, none, 0, 0, fun _ => ⟨none, 0, 0, fun _ => ⟨none, 0, 0, 0, none, 0, 0, 0⟩⟩, none, 0, 0, fun _ => ⟨none, 0, []⟩, 0, none, 0, 0, 0⟩
def exP : Pkd := ⟨1, 2, 128, true, none, 0, []⟩
theorem nm_nil (w : World) : Nm w none 0 0 0 := ⟨⟨[], Rd.nil _ _ _, fun x hx => (by cases hx), rfl⟩, Nat.le_refl _, by omega, by decide⟩
theorem exM_mg (w : World) : Mg w exM :=
  ⟨⟨Nat.le_refl _, Nat.zero_le _, fun h => absurd h (Nat.lt_irrefl _), fun i h => absurd h (Nat.not_lt_zero i)⟩, ⟨Nat.le_refl _, Nat.zero_le _, fun h => absurd h (Nat.lt_irrefl _), fun i h => absurd h (Nat.not_lt_zero i)⟩, ⟨Nat.le_refl _, Nat.zero_le _, fun h => absurd h (Nat.lt_irrefl _), fun i h => absurd h (Nat.not_lt_zero i)⟩, nm_nil w⟩
theorem exM_cn : exM.Cn := ⟨by decide, by decide, by decide, by decide, by decide, by decide, by decide⟩
theorem exM_int : exM.Int := ⟨by decide, by decide, by decide, by decide, by decide, by decide, by decide⟩
theorem exM_b : msgO exM = ⟨[10, 0, 0, 0, 0, 0, 0, 0, 0, 0, 0, 0], 0⟩ := by
  unfold msgO msg2 msg1 msg0 exM txtO pbaO batO
  simp only [List.range_zero, List.foldl_nil]
  rw [show ((10 : Int)) = ((10 : Nat) : Int) by rfl, show ((0 : Int)) = ((0 : Nat) : Int) by rfl]
  repeat rw [cnt_lit _ (by decide)]
  rw [show (((0 : Nat) : Int)) = 0 by rfl, num_0]
  rfl
theorem exP_b : pktO exP = ⟨[1, 2, 128, 1, 1, 0], 0⟩ := by
  unfold pktO exP
  have h128 : ∀ s : OuS, s.cnt 128 = s.put [128, 1] := fun s => by
    rw [show (128 : Int) = ((128 : Nat) : Int) by rfl, OuS.cnt_ok (by decide), cntE_ge (by decide), cntE_lt (by decide)]
    rfl
  simp only [h128, List.length_nil]
  rw [show ((1 : Int)) = ((1 : Nat) : Int) by rfl, show ((2 : Int)) = ((2 : Nat) : Int) by rfl]
  repeat rw [cnt_lit _ (by decide)]
  rfl
theorem exP_cn : exP.Cn := ⟨by decide, by decide, by decide⟩
set_option maxRecDepth 100000 in
theorem ex_none : msgC.dec [10, 0] = none := by rfl
theorem ex_rd : rdC msgC 1048576 [10, 0] = (9, none) := by
  unfold rdC
  rw [if_neg (by decide), ex_none]
def sM : ByteArray := ⟨#[10, 0, 0, 0, 0, 0, 0, 0, 0, 0, 0, 0]⟩
def sP : ByteArray := ⟨#[1, 2, 128, 1, 1, 0]⟩
theorem sM_eq : strOfNums [10, 0, 0, 0, 0, 0, 0, 0, 0, 0, 0, 0] = sM := by decide +kernel
theorem sP_eq : strOfNums [1, 2, 128, 1, 1, 0] = sP := by decide +kernel
end Go.Proofs.Ytcnekfpgoceblaa
/-
  What the head of layer 11's laws answers: true.
-/
namespace Go.Proofs.Ytcnekfpgoceblaa
open Go.RowKit
set_option linter.unusedVariables false
set_option maxHeartbeats 16000000 in
set_option maxRecDepth 100000 in
theorem up11_any (w : World) : Calls Try.prog 9 #[] w fun e w' => e = .returned (.bool true) ∧ Below w.heap.size w w' := by
  have HM := Lib.hid (pMessage_any (exM_mg w) exM_int (fun i h => absurd h (Nat.not_lt_zero i)))
  go_enter Try.func9, Try.ntmps9
  go_wp2_with fail
  refine HM.out.mono ?_
  rintro e w1 (⟨h, -⟩ | ⟨-, h, -⟩ | ⟨-, -, v1, rfl, ho1, b1⟩)
  · exact absurd exM_cn h
  · rw [exM_b] at h
    rcases h with h | h
    · exact absurd rfl h
    · exact absurd h (by decide)
  rw [exM_b] at ho1
  obtain ⟨A1, c1, rfl, rd1, -⟩ := own_rd ho1
  have R1 := Lib.hid (show Rd .u8 w1 A1 12 [10, 0, 0, 0, 0, 0, 0, 0, 0, 0, 0, 0] from rd1)
  have B1 := Lib.hid b1
  clear ho1 rd1 b1
  obtain ⟨W2, hW2⟩ : ∃ W2, w1.alloc (.cells #[.int .u8 10, .int .u8 0] 5) = W2 := ⟨_, rfl⟩
  have BL2 := Lib.hid (show Below w1.heap.size w1 W2 by rw [← hW2]; exact (Below.refl _ _).alloc (Nat.le_refl _) _)
  have RR2 := Lib.hid (show W2.heap[w1.heap.size]? = some (.cells ([10, 0].map (Value.int .u8)).toArray 5 (0, 0)) by rw [← hW2]; exact heap_alloc_new w1 _)
  have RD2 := Lib.hid (rd_row (k := .u8) (xs := [10, 0]) RR2.out)
  go_wp2_with fail
  try rw [hW2]
  refine (pReadMsg_any (n := 2) (c := 2) RD2.out (by intro x hx; simp at hx; rcases hx with rfl | rfl <;> omega) (by decide) (by decide)).mono ?_
  rw [show Romg [10, 0] W2 = Romg [10, 0] W2 from rfl]
  rintro e w3 (⟨m, hrd, -⟩ | ⟨code, hrd, -, rfl, b3⟩)
  · rw [ex_rd] at hrd; cases hrd
  rw [ex_rd] at hrd
  obtain rfl : code = 9 := by injection hrd with h1 h2; exact h1.symm
  have B3 := Lib.hid (show Below w.heap.size w w3 from (B1.out.trans (BL2.out.mono B1.out.size)).trans (b3.mono (Nat.le_trans B1.out.size BL2.out.size)))
  have R3 := Lib.hid (show Rd .u8 w3 A1 12 [10, 0, 0, 0, 0, 0, 0, 0, 0, 0, 0, 0] from (R1.out.below BL2.out).below b3)
  clear b3 hrd hW2
  go_wp2_with fail
  obtain ⟨W4, hW4⟩ : ∃ W4, w3.alloc (.cells #[.int .i64 0, .int .i64 0, .int .i64 0, .int .i64 0, .int .i64 0, .int .i64 0, .bool false, .slice none 0 0, .slice none 0 0, .slice none 0 0, .int .i64 0, .slice none 0 0] 30) = W4 := ⟨_, rfl⟩
  have BL4 := Lib.hid (show Below w3.heap.size w3 W4 by rw [← hW4]; exact (Below.refl _ _).alloc (Nat.le_refl _) _)
  rw [hW4]
  clear hW4
  refine (pPacket_any (m := exP) (Rd.nil _ _ _) (by decide) (by decide) (by decide) (by decide)).mono ?_
  rintro e w5 (⟨h, -⟩ | ⟨-, h, -⟩ | ⟨-, -, v5, rfl, ho5, b5⟩)
  · exact absurd exP_cn h
  · rw [exP_b] at h
    rcases h with h | h
    · exact absurd rfl h
    · exact absurd h (by decide)
  rw [exP_b] at ho5
  obtain ⟨A5, c5, rfl, rd5, -⟩ := own_rd ho5
  have cv5 := conv_any (c := c5) (show Rd .u8 w5 A5 6 [1, 2, 128, 1, 1, 0] from rd5)
  have cv1 := conv_any (c := c1) ((R3.out.below BL4.out).below b5)
  rw [sP_eq] at cv5
  rw [sM_eq] at cv1
  unfold sP at cv5
  unfold sM at cv1
  have B5 := Lib.hid (show Below w.heap.size w w5 from (B3.out.trans (BL4.out.mono B3.out.size)).trans (b5.mono (Nat.le_trans B3.out.size BL4.out.size)))
  have q1 := eqW_nil
  have q2 := eqW_form
  clear ho5 rd5 b5
  go_wp2_with fail
  go_ret
  exact ⟨rfl, B5.out⟩
end Go.Proofs.Ytcnekfpgoceblaa
