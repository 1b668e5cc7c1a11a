/-
  The document's examples of layer 10: up answers true.
-/
import Derived.Test.YtjalncdllegfoaaDoorSlp
import Derived.Test.YtjalncdllegfoaaDoorSgb
namespace Go.Proofs.YtjalncdllegfoaaDoor
open Go.RowKit
set_option linter.unusedVariables false
theorem str_abc : ((strOfNums [97, 98, 99]).toList == [97, 98, 99]) = true := by rw [Lib.toList_data, strOfNums_data]; decide
theorem dig_abc10 : Dig 256 [97, 98, 99] := by unfold Dig; decide
set_option maxHeartbeats 8000000 in
set_option maxRecDepth 100000 in
theorem up10_any {w : World} (hT : Tabs w) : Calls Tryd.prog 4 #[] w (AnsV (.bool true) w) := by
  have he := ne_nil8
  have he2 : ∀ w : World, (binOp .eql 28 (.iface 43 (.int .i64 15)) (.iface 43 (.int .i64 15))).run Tryd.prog w = .ok (.bool true) w := fun w => eq_err8 15 w
  have HT := Lib.hid hT
  clear hT
  go_enter Tryd.func4, Tryd.ntmps4
  go_wp2_with fail
  refine (known_any 0 (by decide) w).mono ?_
  rintro e w1 ⟨A, n, c, A', n', c', rfl, kg, b1⟩
  have B1 := Lib.hid (show B8 w w1 from b1)
  have KGG := Lib.hid kg
  clear b1 kg
  go_wp2_with fail
  refine (kg_new (kix_lt 0) KGG.out).mono ?_
  rintro e w2 ⟨b, d, rfl, gr, -, -, -, b2, -, -⟩
  have q2 := g8_eq b
  have B2 := Lib.hid (B1.out.trans (show B8 w1 w2 from b2))
  have GR := Lib.hid gr
  clear b2 gr KGG B1
  have b3 := B8.alloc w2 (.cells #[.int .u64 5] 45)
  have N5 := Lib.hid (lit8 w2 (x := 5) (by decide) (by decide))
  have B3 := Lib.hid b3
  clear b3
  go_wp2_with fail
  refine (gx_base (B3.out.gr GR.out) N5.out (dl_sm8 (by decide) (by decide))).mono ?_
  rintro e w3 ⟨Ay, ny, cy, rfl, ky, b4, -⟩
  have B4 := Lib.hid (B3.out.trans (show B8 _ w3 from b4))
  have KY := Lib.hid ky
  clear ky b4 N5 B3
  have cv1 : (convert 24 24 (.slice (some ⟨w3.heap.size, 0, none⟩) 3 3)).run Tryd.prog (w3.alloc (.cells #[.int .u8 97, .int .u8 98, .int .u8 99] 5)) = .ok (.slice (some ⟨w3.heap.size, 0, none⟩) 3 3) (w3.alloc (.cells #[.int .u8 97, .int .u8 98, .int .u8 99] 5 (3, 4))) :=
    Joins.run_convert_bytes_const_at w3 _ _ _ 3 3 w3.heap.size rfl Tryd.underlying24 Tryd.underlying5
  have BC := (bs_litL w3 [97, 98, 99] (3, 4) (n := 3) rfl rfl dig_abc10 (by omega)).bz
  have bm := B8.alloc w3 (.cells #[.int .u8 97, .int .u8 98, .int .u8 99] 5 (3, 4))
  obtain ⟨w4, hw4⟩ : ∃ w4, w3.alloc (.cells #[.int .u8 97, .int .u8 98, .int .u8 99] 5 (3, 4)) = w4 := ⟨_, rfl⟩
  rw [show (w3.alloc (.cells (([97, 98, 99].map (Value.int .u8)).toArray) 5 (3, 4))) = w4 from hw4] at BC
  rw [hw4] at cv1 bm
  have M9 := lit8 w4 (x := 9) (by decide) (by decide)
  have b9 := B8.alloc w4 (.cells #[.int .u64 9] 45)
  have BD := Lib.hid (bm.trans b9)
  have BCh := Lib.hid (b9.bz BC)
  have M9h := Lib.hid M9
  clear BC bm M9 b9
  go_wp2_with fail
  clear hw4
  refine (close_back (S := 5) (R := 9) (BD.out.gr (B4.out.gr GR.out)) (BD.out.tabs (B4.out.tabs (B2.out.tabs HT.out))) (BD.out.cn KY.out).nm (by decide) BCh.out (by decide) M9h.out (dl_sm8 (by decide) (by decide))).mono ?_
  rintro e w5 ⟨Ar, nr, cr, Ab, cb, g, ct, rfl, kr, kb, kt, far, fab, -, -, hg, b5⟩
  have D5 := Lib.hid (B4.out.trans (BD.out.trans b5))
  have E5 := Lib.hid (B2.out.trans D5.out)
  have W35 := Lib.hid (BD.out.trans b5)
  have px := three_box w5 (.slice Ar nr cr) (.slice Ab 3 cb) (.slice (some ⟨g, 0, none⟩) 32 ct) 38
  have bp := B8.alloc w5 (.cells #[.slice Ar nr cr, .slice Ab 3 cb, .slice (some ⟨g, 0, none⟩) 32 ct] 38)
  obtain ⟨gl, hgl⟩ : ∃ gl, w5.heap.size = gl := ⟨_, rfl⟩
  obtain ⟨w6, hw6⟩ : ∃ w6, w5.alloc (.cells #[.slice Ar nr cr, .slice Ab 3 cb, .slice (some ⟨g, 0, none⟩) 32 ct] 38) = w6 := ⟨_, rfl⟩
  have s6 : w6.heap.size = w5.heap.size + 1 := by rw [← hw6]; simp
  rw [hw6] at px bp
  have PX := Lib.hid px
  have KR := Lib.hid (bp.cn kr)
  have KB := Lib.hid (bp.bz kb)
  have KT3 := Lib.hid (kt.below bp)
  have LT6 := Lib.hid (show w5.heap.size < w6.heap.size by omega)
  have LTG := Lib.hid (show w3.heap.size ≤ g ∧ g < w5.heap.size from ⟨by have := BD.out.sz; omega, kt.lt _ rfl⟩)
  have FR := Lib.hid far
  have FB := Lib.hid fab
  have BP := Lib.hid bp
  have O5 := lit8 w6 (x := 5) (by decide) (by decide)
  have bo := B8.alloc w6 (.cells #[.int .u64 5] 45)
  obtain ⟨w7, hw7⟩ : ∃ w7, w6.alloc (.cells #[.int .u64 5] 45) = w7 := ⟨_, rfl⟩
  rw [hw7] at O5 bo
  have BO := Lib.hid bo
  have O5h := Lib.hid O5
  have x0 := (bo.cell (o := 0) LT6.out).trans PX.out.1
  have x1 := (bo.cell (o := 1) LT6.out).trans PX.out.2.1
  have x2 := (bo.cell (o := 2) LT6.out).trans PX.out.2.2
  clear kr kb kt far fab hg b5 px bp hgl s6 O5 bo cv1 BCh M9h BD KY
  go_wp2_with fail
  clear hw6 hw7
  have E7 := Lib.hid (BP.out.trans BO.out)
  refine (open_yes (nb' := 3) (S := 5) (R := 9) (bs := [97, 98, 99]) (E7.out.gr (D5.out.gr GR.out)) (E7.out.tabs (E5.out.tabs HT.out)) O5h.out (dl_sm8 (by decide) (by decide)) (by decide) (BO.out.cn KR.out).nm dig_abc10 rfl (by decide) (BO.out.bz KB.out) (BO.out.bz (KT3.out.bsL (shT_dig _ _ _ _ _ _)))).mono ?_
  rintro e w8 ⟨A8, c8, rfl, k8, b8⟩
  have cv8 := conv_any (c := c8) k8.rd
  have sa := str_abc
  have D8 := Lib.hid (BO.out.trans b8)
  clear x0 x1 x2 k8 b8 O5h
  have x0 := (D8.out.cell (o := 0) LT6.out).trans PX.out.1
  have x1 := (D8.out.cell (o := 1) LT6.out).trans PX.out.2.1
  have x2 := (D8.out.cell (o := 2) LT6.out).trans PX.out.2.2
  have KT8 := Lib.hid (KT3.out.below D8.out)
  have c0 := KT8.out.cellL (j := 0) (by decide)
  have f0 := KT8.out.frozenL (j := 0) (by decide)
  obtain ⟨t0, ht0⟩ : ∃ t0, dig (shT d.P d.Q d.G 5 9 [97, 98, 99]) 0 = t0 := ⟨_, rfl⟩
  rw [ht0] at c0
  have HT0 := Lib.hid ht0
  have T0 := Lib.hid (show 0 ≤ t0 ∧ t0 < 256 by rw [← ht0]; exact d8_bd (shT_dig _ _ _ _ _ _) 0)
  clear ht0
  go_wp2_with fail
  go_region
  have hyt : IntKind.u8.wrap (t0 + 1) = (t0 + 1) % 256 := IntKind.wrap_u8 _
  have yb : 0 ≤ (t0 + 1) % 256 ∧ (t0 + 1) % 256 < 256 := by omega
  have yn : (t0 + 1) % 256 ≠ t0 := by have := T0.out; omega
  obtain ⟨y, hy⟩ : ∃ y, (t0 + 1) % 256 = y := ⟨_, rfl⟩
  rw [hy] at yb yn ⊢
  have B9 := Lib.hid (show B8 w3 (w8.setCell ⟨g, 0, none⟩ (.int .u8 y)).drew from (show B8 w3 (w8.setCell ⟨g, 0, none⟩ (.int .u8 y)) from Below.setCell (W35.out.trans (BP.out.trans D8.out)) LTG.out.1 _).trans (B8.drew _))
  have KR9 := Lib.hid ((B8.drew (w8.setCell ⟨g, 0, none⟩ (.int .u8 y))).cn ((D8.out.cn KR.out).far8 FR.out (i := 0) (.int .u8 y)))
  have KB9 := Lib.hid ((B8.drew (w8.setCell ⟨g, 0, none⟩ (.int .u8 y))).bz ((D8.out.bz KB.out).setL FB.out (i := 0) (.int .u8 y)))
  have KT9 := Lib.hid ((KT8.out.setL (j := 0) (by decide) y).drewL)
  have hoth : ∀ o, (w8.setCell ⟨g, 0, none⟩ (.int .u8 y)).drew.cell? ⟨w5.heap.size, o, none⟩ = w8.cell? ⟨w5.heap.size, o, none⟩ := fun o => World.cell?_of_block (heap_setCell_other w8 ⟨g, 0, none⟩ w5.heap.size (.int .u8 y) (by have := LTG.out.2; show w5.heap.size ≠ g; omega))
  have p0 := (hoth 0).trans x0
  have p1 := (hoth 1).trans x1
  have p2 := (hoth 2).trans x2
  have SZ9 := Lib.hid (show w5.heap.size < (w8.setCell ⟨g, 0, none⟩ (.int .u8 y)).drew.heap.size by have := D8.out.sz; have := LT6.out; show _ < (w8.setCell ⟨g, 0, none⟩ (.int .u8 y)).heap.size; rw [World.size_setCell]; omega)
  clear hoth x0 x1 x2 c0 f0
  obtain ⟨W9, hW9⟩ : ∃ W, (w8.setCell ⟨g, 0, none⟩ (.int .u8 y)).drew = W := ⟨_, rfl⟩
  rw [hW9] at B9 KR9 KB9 KT9 p0 p1 p2 SZ9 ⊢
  have Q5 := lit8 W9 (x := 5) (by decide) (by decide)
  have bq := B8.alloc W9 (.cells #[.int .u64 5] 45)
  obtain ⟨V9, hV9⟩ : ∃ V, W9.alloc (.cells #[.int .u64 5] 45) = V := ⟨_, rfl⟩
  rw [hV9] at Q5 bq
  have BQ := Lib.hid bq
  have Q5h := Lib.hid Q5
  have x0 := (bq.cell (o := 0) SZ9.out).trans p0
  have x1 := (bq.cell (o := 1) SZ9.out).trans p1
  have x2 := (bq.cell (o := 2) SZ9.out).trans p2
  have NE := Lib.hid (show (shT d.P d.Q d.G 5 9 [97, 98, 99]).set 0 y ≠ shT d.P d.Q d.G 5 9 [97, 98, 99] from set_ne (by rw [shT_len]; decide) (by rw [HT0.out]; exact yn))
  have YB := Lib.hid yb
  clear hW9 Q5 bq p0 p1 p2 yn hy hyt yb
  go_wp2_with fail
  clear hV9
  refine (open_not (nb' := 3) (S := 5) (R := 9) (bs := [97, 98, 99]) ((B9.out.trans BQ.out).gr (B4.out.gr GR.out)) ((B9.out.trans BQ.out).tabs (B4.out.tabs (B2.out.tabs HT.out))) Q5h.out (dl_sm8 (by decide) (by decide)) (by decide) (BQ.out.cn KR9.out).nm dig_abc10 rfl (by decide) (BQ.out.bz KB9.out) (BQ.out.bz (KT9.out.bsL (set_dig (shT_dig _ _ _ _ _ _) YB.out))) NE.out).mono ?_
  rintro e w10 ⟨rfl, b10⟩
  have Z10 := Lib.hid (B2.out.trans (B4.out.trans (B9.out.trans (BQ.out.trans b10))))
  clear b10 x0 x1 x2
  go_wp2_with fail
  go_ret
  exact ⟨rfl, Z10.out⟩
end Go.Proofs.YtjalncdllegfoaaDoor
