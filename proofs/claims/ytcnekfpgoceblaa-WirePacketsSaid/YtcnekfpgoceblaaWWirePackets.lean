/-
  WirePackets answers true: the bytes of any packet, and the packet of any bytes, or what is amiss. By program: genwpk.py.
-/
import Derived.Test.YtcnekfpgoceblaaVp11
import Derived.BigQuiet
import Derived.Deep.QuietTactic
namespace Go.Proofs.Ytcnekfpgoceblaa
open Go.RowKit
set_option linter.unusedVariables false
set_option maxRecDepth 100000 in
theorem eqW_nil2 : ∀ w : World, (binOp .eql 35 .nilIface .nilIface).run Try.prog w = .ok (.bool true) w := fun _ => rfl
theorem ervW_zero {E : Value} (h : ErV E 0) : E = .nilIface := by
  rcases h with ⟨-, h⟩ | ⟨⟨h, -⟩, -⟩
  · exact h
  · omega
/-- A packet's cells stay. -/
theorem row_below {W W' : World} {g : Nat} {cs : Array Value} {t : TypeId} (h : W.heap[g]? = some (.cells cs t (0, 0))) (hb : Below W.heap.size W W') : W'.heap[g]? = some (.cells cs t (0, 0)) := (hb.block g (Array.getElem?_eq_some_iff.1 h).1).trans h
set_option maxHeartbeats 64000000 in
set_option maxRecDepth 100000 in
theorem wirePackets_walk {w : World} {m : Pkd} (hf : I64 m.f) (ht : I64 m.t) (hq : 0 ≤ m.q ∧ m.q < 18446744073709551616) (hr : Rd .u8 w m.A m.xs.length m.xs) (hl : m.xs.length ≤ 140737488355328) (hd : Dig 256 m.xs)
    {B : Option Addr} {nb cb : Nat} {bs : List Int} (hb : Rd .u8 w B nb bs) (hdb : Dig 256 bs) (hnb : nb ≤ cb) (hlb : nb ≤ 140737488355328) :
    Calls Try.prog 4 #[.agg #[.int .i64 m.f, .int .i64 m.t, .int .u64 m.q, .bool m.a, .slice m.A m.xs.length m.c], .slice B nb cb] w fun e w' => e = .returned (.bool true) ∧ Below w.heap.size w w' := by
  obtain ⟨code, ps, hcode, hps, hdp, hok, hprog, hdoc⟩ := pkt_two m hf ht hq hl hd
  have HR := Lib.hid hr
  have HB := Lib.hid hb
  have HDB := Lib.hid hdb
  have HDP := Lib.hid hdp
  have HD := Lib.hid hd
  have HOK := Lib.hid hok
  have HPROG := Lib.hid hprog
  have HDOC := Lib.hid hdoc
  obtain ⟨s, hs⟩ : ∃ s, w.heap.size = s := ⟨_, rfl⟩
  obtain ⟨W1, hW1⟩ : ∃ W1, w.alloc (.cells #[.int .i64 m.f, .int .i64 m.t, .int .u64 m.q, .bool m.a, .slice m.A m.xs.length m.c] 43) = W1 := ⟨_, rfl⟩
  have B1 := Lib.hid (show Below w.heap.size w W1 by rw [← hW1]; exact (Below.refl _ _).alloc (Nat.le_refl _) _)
  have R1 := Lib.hid (show W1.heap[s]? = some (.cells #[.int .i64 m.f, .int .i64 m.t, .int .u64 m.q, .bool m.a, .slice m.A m.xs.length m.c] 43 (0, 0)) by rw [← hW1, ← hs]; exact heap_alloc_new w _)
  have HS := Lib.hid hs
  clear hr hb hdb hdp hd hok hprog hdoc
  go_enter Try.func4, Try.ntmps4
  go_wp2_with fail
  try rw [hW1]
  clear hW1
  refine (up11_any W1).mono ?_
  rintro e w2 ⟨rfl, b2⟩
  have B2 := Lib.hid (B1.out.trans (b2.mono B1.out.size))
  have R2 := Lib.hid (row_below R1.out b2)
  clear b2 hs
  have y0 := cell_of_row w2 s 0 _ _ _ R2.out
  have y1 := cell_of_row w2 s 1 _ _ _ R2.out
  have y2 := cell_of_row w2 s 2 _ _ _ R2.out
  have y3 := cell_of_row w2 s 3 _ _ _ R2.out
  have y4 := cell_of_row w2 s 4 _ _ _ R2.out
  go_wp2_with fail
  refine (HPROG.out w2 (HR.out.below B2.out)).mono ?_
  rintro e w3 ⟨A3, c3, E3, rfl, hE, rd3, hc3, b3⟩
  have HE3 := Lib.hid hE
  have HC3 := Lib.hid hc3
  have B3 := Lib.hid (B2.out.trans (b3.mono B2.out.size))
  have R3 := Lib.hid (row_below R2.out b3)
  have RD3 := Lib.hid rd3
  clear b3 rd3 hE hc3 y0 y1 y2 y3 y4
  have y0 := cell_of_row w3 s 0 _ _ _ R3.out
  have y1 := cell_of_row w3 s 1 _ _ _ R3.out
  have y2 := cell_of_row w3 s 2 _ _ _ R3.out
  have y3 := cell_of_row w3 s 3 _ _ _ R3.out
  have y4 := cell_of_row w3 s 4 _ _ _ R3.out
  go_wp2_with fail
  refine (HDOC.out w3 (HR.out.below B3.out)).mono ?_
  rintro e w4 ⟨A4, c4, rfl, rd4, b4⟩
  have B4 := Lib.hid (B3.out.trans (b4.mono B3.out.size))
  have R4 := Lib.hid (row_below R3.out b4)
  have RD3b := Lib.hid (RD3.out.below b4)
  have cv3 := conv_any (c := c3) (RD3.out.below b4)
  have cv4 := conv_any (c := c4) rd4
  obtain ⟨S, hS⟩ : ∃ S, strOfNums ps = S := ⟨_, rfl⟩
  rw [hS] at cv3 cv4
  have d1 := str_neq S
  clear b4 rd4 hS y0 y1 y2 y3 y4
  go_wp2_with fail
  refine (code_e HE3.out w4).mono ?_
  rintro e w5 ⟨rfl, rfl⟩
  clear cv3 cv4 d1
  go_wp2_with fail
  refine (pread_v (HB.out.below B4.out) HDB.out hnb hlb).mono ?_
  obtain ⟨V, hV⟩ : ∃ V, pkOf (rdC pktC 2097152 bs).2 = V := ⟨_, rfl⟩
  obtain ⟨rc, hrc⟩ : ∃ rc, (rdC pktC 2097152 bs).1 = rc := ⟨_, rfl⟩
  have HV := Lib.hid hV
  have HRC := Lib.hid hrc
  rintro e w6 ⟨A6, c6, E6, rfl, hE, rd6, b6⟩
  rw [hrc] at hE
  rw [hV] at rd6 ⊢
  clear hV hrc
  have HE6 := Lib.hid hE
  have B6 := Lib.hid (B4.out.trans (b6.mono B4.out.size))
  have R6 := Lib.hid (row_below R4.out b6)
  have RD6 := Lib.hid rd6
  have RD3c := Lib.hid (RD3b.out.below b6)
  obtain ⟨W7, hW7⟩ : ∃ W7, w6.alloc (.cells #[.int .i64 (V.1 : Nat), .int .i64 (V.2.1 : Nat), .int .u64 (V.2.2.1 : Nat), .bool V.2.2.2.1, .slice A6 V.2.2.2.2.length c6] 43) = W7 := ⟨_, rfl⟩
  have BL7 := Lib.hid (show Below w6.heap.size w6 W7 by rw [← hW7]; exact (Below.refl _ _).alloc (Nat.le_refl _) _)
  have R7v := Lib.hid (show W7.heap[w6.heap.size]? = some (.cells #[.int .i64 (V.1 : Nat), .int .i64 (V.2.1 : Nat), .int .u64 (V.2.2.1 : Nat), .bool V.2.2.2.1, .slice A6 V.2.2.2.2.length c6] 43 (0, 0)) by rw [← hW7]; exact heap_alloc_new w6 _)
  have B7 := Lib.hid (B6.out.trans (BL7.out.mono B6.out.size))
  have R7 := Lib.hid (row_below R6.out BL7.out)
  clear hE rd6 b6
  go_wp2_with fail
  try rw [hW7]
  refine (rread_v (HB.out.below B7.out) HDB.out hnb hlb).mono ?_
  rintro e w8 ⟨A8, c8, rfl, rd8, b8⟩
  rw [HV.out] at rd8 ⊢
  rw [HRC.out]
  have B8' := Lib.hid (B7.out.trans (b8.mono B7.out.size))
  have R8 := Lib.hid (row_below R7.out b8)
  have R8v := Lib.hid (row_below R7v.out b8)
  have RD8 := Lib.hid rd8
  have RD6b := Lib.hid ((RD6.out.below BL7.out).below b8)
  have RD3d := Lib.hid ((RD3c.out.below BL7.out).below b8)
  obtain ⟨W9, hW9⟩ : ∃ W9, w8.alloc (.cells #[.int .i64 (V.1 : Nat), .int .i64 (V.2.1 : Nat), .int .u64 (V.2.2.1 : Nat), .bool V.2.2.2.1, .slice A8 V.2.2.2.2.length c8] 43) = W9 := ⟨_, rfl⟩
  have BL9 := Lib.hid (show Below w8.heap.size w8 W9 by rw [← hW9]; exact (Below.refl _ _).alloc (Nat.le_refl _) _)
  have R9w := Lib.hid (show W9.heap[w8.heap.size]? = some (.cells #[.int .i64 (V.1 : Nat), .int .i64 (V.2.1 : Nat), .int .u64 (V.2.2.1 : Nat), .bool V.2.2.2.1, .slice A8 V.2.2.2.2.length c8] 43 (0, 0)) by rw [← hW9]; exact heap_alloc_new w8 _)
  have R9v := Lib.hid (row_below R8v.out BL9.out)
  have R9 := Lib.hid (row_below R8.out BL9.out)
  have B9 := Lib.hid (B8'.out.trans (BL9.out.mono B8'.out.size))
  have RD3e := Lib.hid (RD3d.out.below BL9.out)
  have cv6 := conv_any (c := c6) (RD6b.out.below BL9.out)
  have cv8 := conv_any (c := c8) (RD8.out.below BL9.out)
  obtain ⟨T, hT⟩ : ∃ T, strOfNums V.2.2.2.2 = T := ⟨_, rfl⟩
  rw [hT] at cv6 cv8
  have d2 := str_neq T
  have y0 := cell_of_row W9 w6.heap.size 0 _ _ _ R9v.out
  have y1 := cell_of_row W9 w6.heap.size 1 _ _ _ R9v.out
  have y2 := cell_of_row W9 w6.heap.size 2 _ _ _ R9v.out
  have y3 := cell_of_row W9 w6.heap.size 3 _ _ _ R9v.out
  have y4 := cell_of_row W9 w6.heap.size 4 _ _ _ R9v.out
  have z0 := cell_of_row W9 w8.heap.size 0 _ _ _ R9w.out
  have z1 := cell_of_row W9 w8.heap.size 1 _ _ _ R9w.out
  have z2 := cell_of_row W9 w8.heap.size 2 _ _ _ R9w.out
  have z3 := cell_of_row W9 w8.heap.size 3 _ _ _ R9w.out
  have z4 := cell_of_row W9 w8.heap.size 4 _ _ _ R9w.out
  clear rd8 b8 hT hW7
  go_wp2_with fail
  try rw [hW9]
  clear hW9
  refine (code_e HE6.out W9).mono ?_
  rintro e w10 ⟨rfl, rfl⟩
  by_cases c0 : code = 0
  · obtain ⟨hcn, hpe⟩ := HOK.out c0
    have hpk := pkt_ok hcn (by omega) HD.out
    have RB := Lib.hid (show rdC pktC 2097152 ps = (0, some (pv m)) by rw [hpe]; exact rdC_back pktC hpk (by rw [← hpe]; exact hps))
    have c00 : ((code : Int) != 0) = false := by simpa using c0
    have HCN := Lib.hid hcn
    clear c0 hpk hpe hcn
    go_wp2_with fail
    clear cv6 cv8 d2 y0 y1 y2 y3 y4 z0 z1 z2 z3 z4
    refine (pread_v RD3e.out HDP.out HC3.out (by omega)).mono ?_
    rintro e w11 ⟨A11, c11, E11, rfl, hE, rd11, b11⟩
    rw [RB.out] at hE rd11 ⊢
    have hEn := ervW_zero hE
    subst hEn
    obtain ⟨e1, e2, e3⟩ := pv_back HCN.out
    have HX := Lib.hid (show pkV (pkOf (some (pv m))) A11 c11 = .agg #[.int .i64 m.f, .int .i64 m.t, .int .u64 m.q, .bool m.a, .slice A11 m.xs.length c11] by
      show Value.agg #[.int .i64 ((pv m).1 : Int), .int .i64 ((pv m).2.1 : Int), .int .u64 ((pv m).2.2.1 : Int), .bool m.a, .slice A11 m.xs.length c11] = _
      rw [← e1, ← e2, ← e3])
    rw [HX.out]
    have rd11' : Rd .u8 w11 A11 m.xs.length m.xs := rd11
    have B11 := Lib.hid (B9.out.trans (b11.mono B9.out.size))
    have R11 := Lib.hid (row_below R9.out b11)
    obtain ⟨W12, hW12⟩ : ∃ W12, w11.alloc (.cells #[.int .i64 m.f, .int .i64 m.t, .int .u64 m.q, .bool m.a, .slice A11 m.xs.length c11] 43) = W12 := ⟨_, rfl⟩
    have BL12 := Lib.hid (show Below w11.heap.size w11 W12 by rw [← hW12]; exact (Below.refl _ _).alloc (Nat.le_refl _) _)
    have R12x := Lib.hid (show W12.heap[w11.heap.size]? = some (.cells #[.int .i64 m.f, .int .i64 m.t, .int .u64 m.q, .bool m.a, .slice A11 m.xs.length c11] 43 (0, 0)) by rw [← hW12]; exact heap_alloc_new w11 _)
    have R12 := Lib.hid (row_below R11.out BL12.out)
    have B12 := Lib.hid (B11.out.trans (BL12.out.mono B11.out.size))
    have cv11 := conv_any (c := c11) (rd11'.below BL12.out)
    have cv12 := conv_any (c := m.c) (HR.out.below B12.out)
    obtain ⟨T2, hT2⟩ : ∃ T2, strOfNums m.xs = T2 := ⟨_, rfl⟩
    rw [hT2] at cv11 cv12
    have d3 := str_eql T2
    have q1 := eqW_nil2
    have y0 := cell_of_row W12 w11.heap.size 0 _ _ _ R12x.out
    have y1 := cell_of_row W12 w11.heap.size 1 _ _ _ R12x.out
    have y2 := cell_of_row W12 w11.heap.size 2 _ _ _ R12x.out
    have y3 := cell_of_row W12 w11.heap.size 3 _ _ _ R12x.out
    have y4 := cell_of_row W12 w11.heap.size 4 _ _ _ R12x.out
    have z0 := cell_of_row W12 s 0 _ _ _ R12.out
    have z1 := cell_of_row W12 s 1 _ _ _ R12.out
    have z2 := cell_of_row W12 s 2 _ _ _ R12.out
    have z3 := cell_of_row W12 s 3 _ _ _ R12.out
    have z4 := cell_of_row W12 s 4 _ _ _ R12.out
    clear hT2 b11 rd11 rd11' hE e1 e2 e3
    go_wp2_with fail
    try rw [hW12]
    go_ret
    exact ⟨rfl, B12.out⟩
  · have c00 : ((code : Int) != 0) = true := by simpa using c0
    clear c0
    go_wp2_with fail
    go_ret
    exact ⟨rfl, B9.out⟩
end Go.Proofs.Ytcnekfpgoceblaa
