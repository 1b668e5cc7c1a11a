/-
  What the head of layer 5's laws answers: the document's examples hold.
-/
import Derived.Test.YtnfncaaclpddkaaDoorHex
import Derived.Test.YtnfncaaclpddkaaDoorShx
import Derived.Test.YtnfncaaclpddkaaDoorEqc
import Derived.Lib.SmallJoins
namespace Go.Proofs.YtnfncaaclpddkaaDoor
open Go.RowKit
set_option linter.unusedVariables false
/-- Bytes in a block just made. -/
theorem bs_new (W : World) (bs : List Int) {n q : Nat} (hl : bs.length = n) (hq : W.heap.size = q) (hd : Dig 256 bs) (hn : n ≤ 1099511627776) : Bs (W.alloc (.cells ((bs.map (Value.int .u8)).toArray) 5)) (some ⟨q, 0, none⟩) n n bs := by
  subst hq
  exact ⟨rowAll (Row.new W 5 .u8 bs) hl, hd, Nat.le_refl _, hn, (fun h => nomatch h), fun a ha => ⟨_, _, (Option.some.inj ha).symm⟩⟩
theorem dig_abc : Dig 256 [97, 98, 99] := by unfold Dig; decide
theorem dig_jefe : Dig 256 jefe := by unfold Dig jefe; decide
theorem dig_want : Dig 256 want := by unfold Dig want; decide
def abcX : ByteArray := ⟨#[98, 97, 55, 56, 49, 54, 98, 102, 56, 102, 48, 49, 99, 102, 101, 97, 52, 49, 52, 49, 52, 48, 100, 101, 53, 100, 97, 101, 50, 50, 50, 51, 98, 48, 48, 51, 54, 49, 97, 51, 57, 54, 49, 55, 55, 97, 57, 99, 98, 52, 49, 48, 102, 102, 54, 49, 102, 50, 48, 48, 49, 53, 97, 100]⟩
def jefeX : ByteArray := ⟨#[53, 98, 100, 99, 99, 49, 52, 54, 98, 102, 54, 48, 55, 53, 52, 101, 54, 97, 48, 52, 50, 52, 50, 54, 48, 56, 57, 53, 55, 53, 99, 55, 53, 97, 48, 48, 51, 102, 48, 56, 57, 100, 50, 55, 51, 57, 56, 51, 57, 100, 101, 99, 53, 56, 98, 57, 54, 52, 101, 99, 51, 56, 52, 51]⟩
theorem hex_abc : hexS (sha [97, 98, 99]) = abcX := by rw [sha_abc]; decide +kernel
theorem hex_jefe : hexS (mac jefe want) = jefeX := by rw [mac_jefe]; decide +kernel
theorem mac_l {A A2 : Option Addr} {n c n2 c2 : Nat} {key b : List Int} {w : World} (hT : Tabs w) (hk : Bs w A n c key) (hb : Bs w A2 n2 c2 b) (hn2 : n2 ≤ 1099511627000) :
    Calls Tryd.prog 14 #[.slice A n c, .slice A2 n2 c2] w fun e w' => ∃ A1 c1, e = .returned (.slice A1 32 c1) ∧ Bs w' A1 32 c1 (mac key b) ∧ Below w.heap.size w w' :=
  (mac_any hT hk hb.bz hn2).mono fun e w' h => by
    obtain ⟨v, rfl, ho, hb⟩ := h
    obtain ⟨A, c, rfl, hbs⟩ := ho.bs (show Dig 256 (mac key b) from sha_dig _) (by unfold mac; rw [sha_len]; omega)
    rw [show (mac key b).length = 32 from sha_len _] at hbs ⊢
    exact ⟨A, c, rfl, hbs, hb⟩
/-- Bytes in a block just made and marked. -/
theorem bs_lit (W : World) (bs : List Int) (fr : Nat × Nat) {n q : Nat} (hl : bs.length = n) (hq : q = W.heap.size) (hd : Dig 256 bs) (hn : n ≤ 1099511627776) : Bs (W.alloc (.cells ((bs.map (Value.int .u8)).toArray) 5 fr)) (some ⟨q, 0, none⟩) n n bs :=
  ⟨⟨hl, fun _ => ⟨q, 0, rfl, by subst hq; simp, fun j x hx => by
    rw [Nat.zero_add, Joins.cell_alloc_mark_at W _ _ fr q j hq]; simp [hx]⟩⟩, hd, Nat.le_refl _, hn, (fun h => nomatch h), fun a ha => ⟨_, _, (Option.some.inj ha).symm⟩⟩
set_option maxHeartbeats 4000000 in
set_option maxRecDepth 100000 in
theorem up_any {w : World} (hT : Tabs w) : Calls Tryd.prog 7 #[] w fun e w' => e = .returned (.bool true) ∧ Below w.heap.size w w' := by
  have T1 := Lib.hid (hT.alloc (.cells #[.int .u8 97, .int .u8 98, .int .u8 99] 5 (3, 4)))
  have B1 := Lib.hid (show Bs (w.alloc (.cells #[.int .u8 97, .int .u8 98, .int .u8 99] 5 (3, 4))) _ _ _ _ from bs_lit w [97, 98, 99] (3, 4) (n := 3) rfl rfl dig_abc (by omega))
  have b1 := Lib.hid ((Below.refl w.heap.size w).alloc (Nat.le_refl _) (.cells #[.int .u8 97, .int .u8 98, .int .u8 99] 5 (3, 4)))
  have cv1 : (convert 22 22 (.slice (some ⟨w.heap.size, 0, none⟩) 3 3)).run Tryd.prog (w.alloc (.cells #[.int .u8 97, .int .u8 98, .int .u8 99] 5)) = .ok (.slice (some ⟨w.heap.size, 0, none⟩) 3 3) (w.alloc (.cells #[.int .u8 97, .int .u8 98, .int .u8 99] 5 (3, 4))) :=
    Joins.run_convert_bytes_const_at w _ _ _ 3 3 w.heap.size rfl Tryd.underlying22 Tryd.underlying5
  clear hT
  go_enter Tryd.func7, Tryd.ntmps7
  go_wp2_with fail
  refine (sha_bs T1.out B1.out).mono ?_
  rintro e w2 ⟨A2, c2, rfl, hb2, -, hw2⟩
  have b2 := b1.out.trans (hw2.mono b1.out.size)
  have T2 := T1.out.below hw2
  have HB2 := Lib.hid hb2
  clear hb2 hw2
  go_wp2_with fail
  refine (hex_any HB2.out).mono ?_
  rintro e w3 ⟨rfl, hw3⟩
  rw [hex_abc]
  have b3 := b2.trans (hw3.mono b2.size)
  have T3 := T2.below hw3
  have T4 := Lib.hid ((T3.alloc (.cells #[.int .u8 74, .int .u8 101, .int .u8 102, .int .u8 101] 5 (4, 5))).alloc (.cells #[.int .u8 119, .int .u8 104, .int .u8 97, .int .u8 116, .int .u8 32, .int .u8 100, .int .u8 111, .int .u8 32, .int .u8 121, .int .u8 97, .int .u8 32, .int .u8 119, .int .u8 97, .int .u8 110, .int .u8 116, .int .u8 32, .int .u8 102, .int .u8 111, .int .u8 114, .int .u8 32, .int .u8 110, .int .u8 111, .int .u8 116, .int .u8 104, .int .u8 105, .int .u8 110, .int .u8 103, .int .u8 63] 5 (28, 29)))
  have B4 := Lib.hid ((show Bs (w3.alloc (.cells #[.int .u8 74, .int .u8 101, .int .u8 102, .int .u8 101] 5 (4, 5))) _ _ _ _ from bs_lit w3 jefe (4, 5) (n := 4) rfl rfl dig_jefe (by omega)).alloc (.cells #[.int .u8 119, .int .u8 104, .int .u8 97, .int .u8 116, .int .u8 32, .int .u8 100, .int .u8 111, .int .u8 32, .int .u8 121, .int .u8 97, .int .u8 32, .int .u8 119, .int .u8 97, .int .u8 110, .int .u8 116, .int .u8 32, .int .u8 102, .int .u8 111, .int .u8 114, .int .u8 32, .int .u8 110, .int .u8 111, .int .u8 116, .int .u8 104, .int .u8 105, .int .u8 110, .int .u8 103, .int .u8 63] 5 (28, 29)))
  have B5 := Lib.hid (show Bs ((w3.alloc (.cells #[.int .u8 74, .int .u8 101, .int .u8 102, .int .u8 101] 5 (4, 5))).alloc (.cells #[.int .u8 119, .int .u8 104, .int .u8 97, .int .u8 116, .int .u8 32, .int .u8 100, .int .u8 111, .int .u8 32, .int .u8 121, .int .u8 97, .int .u8 32, .int .u8 119, .int .u8 97, .int .u8 110, .int .u8 116, .int .u8 32, .int .u8 102, .int .u8 111, .int .u8 114, .int .u8 32, .int .u8 110, .int .u8 111, .int .u8 116, .int .u8 104, .int .u8 105, .int .u8 110, .int .u8 103, .int .u8 63] 5 (28, 29))) _ _ _ _ from bs_lit (w3.alloc (.cells #[.int .u8 74, .int .u8 101, .int .u8 102, .int .u8 101] 5 (4, 5))) want (28, 29) (n := 28) (q := w3.heap.size + 1) rfl (by simp) dig_want (by omega))
  have b4 := Lib.hid ((b3.alloc b3.size (.cells #[.int .u8 74, .int .u8 101, .int .u8 102, .int .u8 101] 5 (4, 5))).alloc (by have := b3.size; simp; omega) (.cells #[.int .u8 119, .int .u8 104, .int .u8 97, .int .u8 116, .int .u8 32, .int .u8 100, .int .u8 111, .int .u8 32, .int .u8 121, .int .u8 97, .int .u8 32, .int .u8 119, .int .u8 97, .int .u8 110, .int .u8 116, .int .u8 32, .int .u8 102, .int .u8 111, .int .u8 114, .int .u8 32, .int .u8 110, .int .u8 111, .int .u8 116, .int .u8 104, .int .u8 105, .int .u8 110, .int .u8 103, .int .u8 63] 5 (28, 29)))
  have cv2 : (convert 22 22 (.slice (some ⟨w3.heap.size, 0, none⟩) 4 4)).run Tryd.prog (w3.alloc (.cells #[.int .u8 74, .int .u8 101, .int .u8 102, .int .u8 101] 5)) = .ok (.slice (some ⟨w3.heap.size, 0, none⟩) 4 4) (w3.alloc (.cells #[.int .u8 74, .int .u8 101, .int .u8 102, .int .u8 101] 5 (4, 5))) :=
    Joins.run_convert_bytes_const_at w3 _ _ _ 4 4 w3.heap.size rfl Tryd.underlying22 Tryd.underlying5
  have cv3 : (convert 22 22 (.slice (some ⟨w3.heap.size + 1, 0, none⟩) 28 28)).run Tryd.prog ((w3.alloc (.cells #[.int .u8 74, .int .u8 101, .int .u8 102, .int .u8 101] 5 (4, 5))).alloc (.cells #[.int .u8 119, .int .u8 104, .int .u8 97, .int .u8 116, .int .u8 32, .int .u8 100, .int .u8 111, .int .u8 32, .int .u8 121, .int .u8 97, .int .u8 32, .int .u8 119, .int .u8 97, .int .u8 110, .int .u8 116, .int .u8 32, .int .u8 102, .int .u8 111, .int .u8 114, .int .u8 32, .int .u8 110, .int .u8 111, .int .u8 116, .int .u8 104, .int .u8 105, .int .u8 110, .int .u8 103, .int .u8 63] 5)) = .ok (.slice (some ⟨w3.heap.size + 1, 0, none⟩) 28 28) ((w3.alloc (.cells #[.int .u8 74, .int .u8 101, .int .u8 102, .int .u8 101] 5 (4, 5))).alloc (.cells #[.int .u8 119, .int .u8 104, .int .u8 97, .int .u8 116, .int .u8 32, .int .u8 100, .int .u8 111, .int .u8 32, .int .u8 121, .int .u8 97, .int .u8 32, .int .u8 119, .int .u8 97, .int .u8 110, .int .u8 116, .int .u8 32, .int .u8 102, .int .u8 111, .int .u8 114, .int .u8 32, .int .u8 110, .int .u8 111, .int .u8 116, .int .u8 104, .int .u8 105, .int .u8 110, .int .u8 103, .int .u8 63] 5 (28, 29))) :=
    Joins.run_convert_bytes_const_at (w3.alloc (.cells #[.int .u8 74, .int .u8 101, .int .u8 102, .int .u8 101] 5 (4, 5))) _ _ _ 28 28 (w3.heap.size + 1) (by simp) Tryd.underlying22 Tryd.underlying5
  clear hw3 b3 T3 b2 T2 HB2
  obtain ⟨X, hX⟩ : ∃ X, abcX = X := ⟨_, rfl⟩
  rw [hX]
  have HX := Lib.hid hX
  clear hX
  go_wp2_with fail
  refine (mac_l T4.out B4.out B5.out (by omega)).mono ?_
  rintro e w5 ⟨A5, c5, rfl, hb5, hw5⟩
  have b5 := b4.out.trans (hw5.mono b4.out.size)
  have HB5 := Lib.hid hb5
  clear hb5 hw5
  go_wp2_with fail
  refine (hex_any HB5.out).mono ?_
  rintro e w6 ⟨rfl, hw6⟩
  rw [hex_jefe]
  have b6 := b5.trans (hw6.mono b5.size)
  obtain ⟨Y, hY⟩ : ∃ Y, jefeX = Y := ⟨_, rfl⟩
  rw [hY]
  have HY := Lib.hid hY
  clear hY hw6 b5
  go_wp2_with fail
  refine (stream_bad none 0 0 (-1) (by omega) _).mono ?_
  rintro e w7 ⟨rfl, rfl⟩
  have q1 := eql_code 1 1
  unfold argErr
  have HX' := HX.out
  have HY' := HY.out
  unfold abcX at HX'
  unfold jefeX at HY'
  subst HX' HY'
  go_wp2_with fail
  go_ret
  exact ⟨rfl, b6⟩
end Go.Proofs.YtnfncaaclpddkaaDoor
