/-
  The head of all statements of layer 1: the document's examples hold.
-/
import Derived.Test.YtejggejpafpahaaDoorNorm
import Derived.Test.YtejggejpafpahaaDoorSub
import Derived.Test.YtejggejpafpahaaDoorBytes
import Derived.LaidEql
namespace Go
section
variable {P : Program} (w : World)
theorem run_equalIn_iface_int (d : Nat) {ti tn : TypeId} {ms : Array (String × TypeId)} {i : TypeInfo} {k : IntKind} (a b : Int)
    (hi : P.underlying ti = some (.interface ms)) (hn : P.underlying tn = some (.int k)) (hinfo : P.info? tn = some i) (hcomp : i.comparable = true) :
    (Op.equalIn (d + 2) ti (.iface tn (.int k a)) (.iface tn (.int k b))).run P w = .ok (a == b) w := by
  simp [Op.equalIn, run_underlying hi, run_underlying hn, typeInfo, hinfo, hcomp]
/-- Two interface values of one integer type: as the numbers are. -/
theorem run_eql_iface_int {ti tn : TypeId} {ms : Array (String × TypeId)} {i : TypeInfo} {k : IntKind} (a b : Int)
    (hi : P.underlying ti = some (.interface ms)) (hn : P.underlying tn = some (.int k)) (hinfo : P.info? tn = some i) (hcomp : i.comparable = true) :
    (binOp .eql ti (.iface tn (.int k a)) (.iface tn (.int k b))).run P w = .ok (.bool (a == b)) w := by
  simp only [binOp]
  simp [Op.equal, Op.maxDepth, run_equalIn_iface_int w 9998 a b hi hn hinfo hcomp]
end
end Go
namespace Go.Proofs.YtejggejpafpahaaDoor
open Go.RowKit
set_option linter.unusedVariables false
theorem comp32 : (Tryd.prog.info? 41).map (·.comparable) = some true := by kernel_rfl
/-- Two errors that are Codes. -/
theorem eql_code (a b : Int) (w : World) : (binOp .eql 27 (.iface 41 (.int .i64 a)) (.iface 41 (.int .i64 b))).run Tryd.prog w = .ok (.bool (a == b)) w := by
  have h := comp32
  cases hi : Tryd.prog.info? 41 with
  | none => rw [hi] at h; cases h
  | some i =>
    rw [hi] at h
    exact run_eql_iface_int w a b Tryd.underlying27 Tryd.underlying41 hi (by simpa using h)
theorem lit_one (w : World) (x : Int) (h0 : 0 ≤ x) (h1 : x < W) : Nm (w.alloc (.cells #[.int .u64 x] 40)) (some ⟨w.heap.size, 0, none⟩) 1 1 x :=
  Nm.one (show Row _ _ _ _ [x] from Row.new w 40 .u64 [x]) h0 h1 (Nat.le_refl _) (by omega)
theorem lit_two (w : World) (x y : Int) (h0 : 0 ≤ x) (h1 : x < W) (k0 : 0 ≤ y) (k1 : y < W) :
    Nm ((w.alloc (.cells #[.int .u64 x] 40)).alloc (.cells #[.int .u64 y] 40)) (some ⟨w.heap.size, 0, none⟩) 1 1 x ∧
    Nm ((w.alloc (.cells #[.int .u64 x] 40)).alloc (.cells #[.int .u64 y] 40)) (some ⟨w.heap.size + 1, 0, none⟩) 1 1 y := by
  refine ⟨(lit_one w x h0 h1).alloc _, ?_⟩
  have h := lit_one (w.alloc (.cells #[.int .u64 x] 40)) y k0 k1
  have e : (w.alloc (.cells #[.int .u64 x] 40)).heap.size = w.heap.size + 1 := by simp
  rw [e] at h
  exact h
theorem dl_small {x : Int} (h0 : 0 ≤ x) (h1 : x < W) : dl x ≤ 64 := by
  have := dl_le h0 (k := 1) (by simpa [Int.pow_succ] using h1)
  omega
theorem dg_one {x : Int} (h0 : 1 ≤ x) (h1 : x < W) : dg W x = [x] := by
  rw [dg_pos W_two (by omega), Int.emod_eq_of_lt (by omega) h1, Int.ediv_eq_zero_of_lt (by omega) h1, dg_zero]
theorem cn_one {w : World} {B : Option Addr} {m cap : Nat} {x : Int} (h : Cn w B m cap x) (h0 : 1 ≤ x) (h1 : x < W) : m = 1 ∧ ∃ b off, B = some ⟨b, off, none⟩ ∧ b < w.heap.size ∧ w.cell? ⟨b, off, none⟩ = some (.int .u64 x) := by
  have hr := h.rd
  rw [dg_one h0 h1] at hr
  have hl := hr.len
  simp at hl
  subst hl
  obtain ⟨b, off, y, e, hb, hy, hc⟩ := hr.at_ (j := 0) (by omega)
  simp at hy
  subst hy
  exact ⟨rfl, b, off, e, hb, hc⟩
theorem cn_two {w : World} {B : Option Addr} {m cap : Nat} (h : Cn w B m cap (18446744073709551615 + 1)) : m = 2 ∧ ∃ b off, B = some ⟨b, off, none⟩ ∧ b < w.heap.size ∧ w.cell? ⟨b, off, none⟩ = some (.int .u64 0) ∧ w.cell? ⟨b, off + 1, none⟩ = some (.int .u64 1) := by
  have hr := h.rd
  have e : dg W (18446744073709551615 + 1) = [0, 1] := by
    rw [dg_pos W_two (by decide), show (18446744073709551615 + 1 : Int) % W = 0 from by decide, show (18446744073709551615 + 1 : Int) / W = 1 from by decide, dg_one (by decide) (by decide)]
  rw [e] at hr
  have hl := hr.len
  simp at hl
  subst hl
  obtain ⟨b, off, y, e, hb, hy, hc⟩ := hr.at_ (j := 0) (by omega)
  obtain ⟨b', off', y', e', hb', hy', hc'⟩ := hr.at_ (j := 1) (by omega)
  rw [e] at e'
  injection e' with e'
  injection e' with e1 e2
  subst e1 e2
  simp at hy hy'
  subst hy hy'
  exact ⟨rfl, b, off, e, hb, hc, hc'⟩
theorem str_same : ((strOfNums [0, 1, 0]).toList == [0, 1, 0]) = true := by rw [Lib.toList_data, strOfNums_data]; decide
theorem below_one {w w' : World} {o : Obj} (h : Below (w.alloc o).heap.size (w.alloc o) w') : Below w.heap.size w w' :=
  ((Below.refl _ _).alloc (Nat.le_refl _) _).trans (h.mono (by simp))
theorem below_two {w w' : World} {o o' : Obj} (h : Below ((w.alloc o).alloc o').heap.size ((w.alloc o).alloc o') w') : Below w.heap.size w w' := below_one (below_one h)
set_option maxHeartbeats 4000000 in
set_option maxRecDepth 100000 in
theorem up_any (w : World) : Calls Tryd.prog 4 #[] w fun e w' => e = .returned (.bool true) ∧ Below w.heap.size w w' := by
  obtain ⟨l1, l2⟩ := lit_two w 18446744073709551615 1 (by decide) (by decide) (by decide) (by decide)
  have L1 := Lib.hid l1
  have L2 := Lib.hid l2
  clear l1 l2
  go_enter Tryd.func4, Tryd.ntmps4
  go_wp2_with fail
  refine (add_any L1.out L2.out (dl_small (by decide) (by decide)) (dl_small (by decide) (by decide))).mono ?_
  rintro e w1 ⟨B, m, cap, rfl, k1, k2, -⟩
  obtain ⟨rfl, b1, o1, rfl, s1, c10, c11⟩ := cn_two k1
  clear k1 L1 L2
  obtain ⟨l1, l2⟩ := lit_two w1 7 2 (by decide) (by decide) (by decide) (by decide)
  have L1 := Lib.hid l1
  have L2 := Lib.hid l2
  clear l1 l2
  go_wp2_with fail
  refine (div_any L1.out L2.out (dl_small (by decide) (by decide)) (dl_small (by decide) (by decide)) (by decide)).mono ?_
  rintro e w2 ⟨B, m, cap2, B', m', cap3, rfl, k3, k4, k5, -, -⟩
  obtain ⟨rfl, b2, o2, rfl, s2, c20⟩ := cn_one (show Cn w2 B m cap2 3 from k3) (by decide) (by decide)
  obtain ⟨rfl, b3, o3, rfl, s3, c30⟩ := cn_one (show Cn w2 B' m' cap3 1 from k4) (by decide) (by decide)
  have g12 := below_two k5
  have g01 := below_two k2
  clear k2 k3 k4 k5 L1 L2
  have L1 := Lib.hid (lit_one w2 7 (by decide) (by decide))
  go_wp2_with fail
  refine (div_none L1.out (Cn.nil _).nm (dl_small (by decide) (by decide))).mono ?_
  rintro e w3 ⟨rfl, k6⟩
  have g23 := below_one k6
  clear k6 L1
  obtain ⟨l1, l2⟩ := lit_two w3 1 2 (by decide) (by decide) (by decide) (by decide)
  have L1 := Lib.hid l1
  have L2 := Lib.hid l2
  clear l1 l2
  go_wp2_with fail
  refine (sub_less L1.out L2.out (dl_small (by decide) (by decide)) (dl_small (by decide) (by decide)) (by decide)).mono ?_
  rintro e w4 ⟨rfl, k7⟩
  have g34 := below_two k7
  clear k7 L1 L2
  have L1 := Lib.hid (lit_one w4 256 (by decide) (by decide))
  have hn : nb 256 ≤ 8 * 3 := dg_len_le (by decide) (by decide) (by decide)
  go_wp2_with fail
  refine (bytes_any L1.out 3 (by omega) hn).mono ?_
  rintro e w5 ⟨rfl, r5, k8⟩
  have g45 := below_one k8
  have e5 : (w4.alloc (.cells #[.int .u64 256] 40)).heap.size = w4.heap.size + 1 := by simp
  rw [e5] at r5
  have r6 : Row w5 (w4.heap.size + 1) 5 .u8 [0, 1, 0] := r5
  have hcv := run_convert_bytes_arg w5 33 5 Tryd.underlying33 Tryd.underlying5 (w4.heap.size + 1) 0 3 3 [0, 1, 0] rfl (fun i hi => by rw [Nat.zero_add]; exact r6.cell (by rw [List.getD_eq_getElem?_getD]; match i, hi with | 0, _ => rfl | 1, _ => rfl | 2, _ => rfl)) 9 Tryd.underlying9
  have b12 := g01.size
  have b23 := g12.size
  have b34 := g23.size
  have g25 := g23.trans ((g34.mono b34).trans ((g45.mono g34.size).mono b34))
  have g15 := g12.trans (g25.mono b23)
  have d10 := (g15.cell (p := ⟨b1, o1, none⟩) s1).trans c10
  have d11 := (g15.cell (p := ⟨b1, o1 + 1, none⟩) s1).trans c11
  have d20 := (g25.cell (p := ⟨b2, o2, none⟩) s2).trans c20
  have d30 := (g25.cell (p := ⟨b3, o3, none⟩) s3).trans c30
  have q1 := eql_code 4 4
  have q2 := eql_code 3 3
  have G := Lib.hid (g01.trans (g15.mono b12))
  clear c10 c11 c20 c30 e5 r5 r6 k8 L1 g01 g12 g23 g34 g45 g25 g15
  go_wp2
  go_ret
  exact ⟨congrArg (fun b => Ending.returned (.bool b)) str_same, G.out⟩
end Go.Proofs.YtejggejpafpahaaDoor
