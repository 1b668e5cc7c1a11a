/-
  Errors that are Spots: errors.As asked for a Spot finds it; errors.Is goes on to its Code; what treenaillaw00.Is answers.
-/
import Derived.Test.YtbgnjbalojcgkaaDoorEt
namespace Go.Proofs.YtbgnjbalojcgkaaDoor
open Go.RowKit Go.Extern.Stop Go.Stop Go.Extern
set_option linter.unusedVariables false
theorem Tryd.typeOfSp (v : Value) (w : World) : (ReflectliteType.typeOf #[.iface 47 v]).run Tryd.prog w = .ok (.iface 95 (.agg #[.pointer (some ⟨3, 47, none⟩)])) w := by kernel_rfl
theorem Tryd.assignableSp (w : World) : (ReflectliteType.relation "AssignableTo" ReflectliteType.assignableTo #[.agg #[.pointer (some ⟨3, 47, none⟩)], .iface 95 (.agg #[.pointer (some ⟨3, 47, none⟩)])]).run Tryd.prog w = .ok (.bool true) w := by kernel_rfl
theorem Tryd.valueOfSp (e : Addr) (w : World) : (ReflectliteValue.unpack (.iface 47 (.pointer (some e)))).run Tryd.prog w
    = .ok (.agg #[.pointer (some ⟨3, 47, none⟩), .pointer (some ⟨w.heap.size, 0, none⟩), .int .u64 150]) (w.alloc (.cells #[.pointer (some e)] 47)) := by kernel_rfl
theorem Tryd.elemOfSp (w : World) : (Rtype.elem? 58).run Tryd.prog w = .ok (some 47) w := by kernel_rfl
theorem Tryd.mkSp (p : Addr) (w : World) : (ReflectliteValue.mk 47 p ReflectliteValue.flagAddr).run Tryd.prog w = .ok (.agg #[.pointer (some ⟨3, 47, none⟩), .pointer (some p), .int .u64 406]) w := by kernel_rfl
theorem Tryd.elemVSp (a p : Addr) (W : World) (ha : W.cell? a = some (.pointer (some p))) :
    (ReflectliteValue.method (ReflectliteValue.valueError "reflectlite.Value.Elem" 0) ReflectliteValue.elem #[.agg #[.pointer (some ⟨3, 58, none⟩), .pointer (some a), .int .u64 150]]).run Tryd.prog W
      = .ok (.agg #[.pointer (some ⟨3, 47, none⟩), .pointer (some p), .int .u64 406]) W := by
  rw [rlm]
  simp only [Sem.run_bind, Tryd.partsSS, Result.andThen]
  simp [ReflectliteValue.elem, loadVar, isAgg, underlying, Tryd.underlying58, ha, Result.andThen, Tryd.elemOfSp, Tryd.mkSp]
theorem Tryd.partsSpA (a : Addr) (w : World) : (ReflectliteValue.parts (.agg #[.pointer (some ⟨3, 47, none⟩), .pointer (some a), .int .u64 406])).run Tryd.prog w = .ok (some (47, a, 406)) w := by kernel_rfl
theorem Tryd.partsSp (a : Addr) (w : World) : (ReflectliteValue.parts (.agg #[.pointer (some ⟨3, 47, none⟩), .pointer (some a), .int .u64 150])).run Tryd.prog w = .ok (some (47, a, 150)) w := by kernel_rfl
theorem Tryd.directSp (w : World) : (Rtype.directlyAssignable 47 47).run Tryd.prog w = .ok true w := by kernel_rfl
theorem Tryd.sizeSp (w : World) : (sizeOf 47).run Tryd.prog w = .ok 1 w := by kernel_rfl
theorem Tryd.setSp (ta b e : Addr) (old : Value) (W : World) (hb : W.cell? b = some (.pointer (some e))) (ht : W.cell? ta = some old) (hf : W.frozen? ta = false) :
    (ReflectliteValue.set #[.agg #[.pointer (some ⟨3, 47, none⟩), .pointer (some ta), .int .u64 406], .agg #[.pointer (some ⟨3, 47, none⟩), .pointer (some b), .int .u64 150]]).run Tryd.prog W
      = .ok (.tuple #[]) (W.setCell ta (.pointer (some e))) := by
  refine Eq.trans (b := Sem.run Tryd.prog (ReflectliteValue.parts (.agg #[.pointer (some ⟨3, 47, none⟩), .pointer (some ta), .int .u64 406]) >>= fun p => ReflectliteValue.parts (.agg #[.pointer (some ⟨3, 47, none⟩), .pointer (some b), .int .u64 150]) >>= fun q => (_ : Sem Value)) W) rfl ?_
  simp only [Sem.run_bind, Tryd.partsSpA, Tryd.partsSp, Result.andThen]
  simp [ReflectliteValue.flagAddr, loadVar, isAgg, underlying, Tryd.underlying47, hb, Result.andThen, Tryd.directSp, storeVar, Value.cells, storeCells, Addr.add]
  rw [run_store Tryd.prog W ta _ _ (by rfl)]
  simp [ht, hf]
set_option maxHeartbeats 4000000 in
/-- errors.As at a Spot, asked for a Spot: yes; the target is set; else only new memory. -/
theorem as_spot (e t : Addr) (old : Value) (w : World) (hg : Et w) (ht0 : w.cell? t = some old) (hf0 : w.frozen? t = false) :
    Calls Tryd.prog 24 #[.iface 47 (.pointer (some e)), .iface 58 (.pointer (some t))] w fun ev w' => ev = .returned (.bool true) ∧ ∃ w1, Below w.heap.size w w1 ∧ w' = w1.setCell t (.pointer (some e)) := by
  have h6 := @run_callFunc_extern Tryd.prog 35 _ (fun args => ReflectliteValue.unpack (args.getD 0 (.tuple #[]))) Tryd.func35 (by kernel_rfl) (by kernel_rfl) (by kernel_rfl) (by kernel_rfl)
  have h7 := @run_callFunc_extern Tryd.prog 36 _ (ReflectliteValue.methodAny (ReflectliteValue.valueError "reflectlite.Value.Type" 0) (fun t _ _ _ => ReflectliteType.toType t)) Tryd.func36 (by kernel_rfl) (by kernel_rfl) (by kernel_rfl) (by kernel_rfl)
  have h8 := @run_callFunc_extern Tryd.prog 37 _ (ReflectliteValue.method (ReflectliteValue.valueError "reflectlite.Value.IsNil" 0) ReflectliteValue.isNil) Tryd.func37 (by kernel_rfl) (by kernel_rfl) (by kernel_rfl) (by kernel_rfl)
  have h27 := @run_callFunc_extern Tryd.prog 101 _ (ReflectliteType.abiMethod fun t => do pure (.int .u8 (← Rtype.kind t))) Tryd.func101 (by kernel_rfl) (by kernel_rfl) (by kernel_rfl) (by kernel_rfl)
  have h37 := @run_callFunc_extern Tryd.prog 114 _ (ReflectliteType.method ReflectliteType.elem) Tryd.func114 (by kernel_rfl) (by kernel_rfl) (by kernel_rfl) (by kernel_rfl)
  have h38 := @run_callFunc_extern Tryd.prog 115 _ (ReflectliteType.relation "Implements" ReflectliteType.implements_) Tryd.func115 (by kernel_rfl) (by kernel_rfl) (by kernel_rfl) (by kernel_rfl)
  have h10 := @run_callFunc_extern Tryd.prog 39 _ ReflectliteType.typeOf Tryd.func39 (by kernel_rfl) (by kernel_rfl) (by kernel_rfl) (by kernel_rfl)
  have h35 := @run_callFunc_extern Tryd.prog 112 _ (ReflectliteType.relation "AssignableTo" ReflectliteType.assignableTo) Tryd.func112 (by kernel_rfl) (by kernel_rfl) (by kernel_rfl) (by kernel_rfl)
  have h11 := @run_callFunc_extern Tryd.prog 52 _ (ReflectliteValue.method (ReflectliteValue.valueError "reflectlite.Value.Elem" 0) ReflectliteValue.elem) Tryd.func52 (by kernel_rfl) (by kernel_rfl) (by kernel_rfl) (by kernel_rfl)
  have h12 := @run_callFunc_extern Tryd.prog 53 _ ReflectliteValue.set Tryd.func53 (by kernel_rfl) (by kernel_rfl) (by kernel_rfl) (by kernel_rfl)
  have tO := Tryd.typeOfSp
  have mA := Tryd.methodAssignableTo
  have aC := Tryd.assignableSp
  have vS := Tryd.valueOfSp
  have f6 := Tryd.valueOfS
  have f7 := Tryd.typeS
  have mK := Tryd.methodKind
  have mE := Tryd.methodElem
  have mI := Tryd.methodImplements
  have k27 := Tryd.kindSS
  have k25 := Tryd.kindS
  have e27 := Tryd.elemSS
  have i25 := Tryd.implementsS
  have htl : t.block < w.heap.size := by
    rcases Nat.lt_or_ge t.block w.heap.size with h | h
    · exact h
    · simp [World.cell?, Array.getElem?_eq_none h] at ht0
  have n8 := Tryd.isNilSS ⟨w.heap.size, 0, none⟩ t ((w.alloc (.cells #[.pointer (some t)] 58)).alloc (.cells #[.pointer (some ⟨3, 58, none⟩), .pointer (some ⟨w.heap.size, 0, none⟩), .int .u64 150] 71)) (by simp)
  have hg2 : ((w.alloc (.cells #[.pointer (some t)] 58)).alloc (.cells #[.pointer (some ⟨3, 58, none⟩), .pointer (some ⟨w.heap.size, 0, none⟩), .int .u64 150] 71)).cell? ⟨0, 0, none⟩ = some (.iface 95 (.agg #[.pointer (some ⟨3, 29, none⟩)])) := (hg.alloc _).alloc _
  have el := Tryd.elemVSp ⟨w.heap.size, 0, none⟩ t (((w.alloc (.cells #[.pointer (some t)] 58)).alloc (.cells #[.pointer (some ⟨3, 58, none⟩), .pointer (some ⟨w.heap.size, 0, none⟩), .int .u64 150] 71)).alloc (.cells #[.pointer (some ⟨3, 58, none⟩), .pointer (some ⟨w.heap.size, 0, none⟩), .int .u64 150] 71)) (by rw [World.cell?_alloc_lt _ _ ⟨w.heap.size, 0, none⟩ (by simp; omega)]; simp)
  have st := Tryd.setSp t ⟨w.heap.size + 1 + 1 + 1, 0, none⟩ e old ((((w.alloc (.cells #[.pointer (some t)] 58)).alloc (.cells #[.pointer (some ⟨3, 58, none⟩), .pointer (some ⟨w.heap.size, 0, none⟩), .int .u64 150] 71)).alloc (.cells #[.pointer (some ⟨3, 58, none⟩), .pointer (some ⟨w.heap.size, 0, none⟩), .int .u64 150] 71)).alloc (.cells #[.pointer (some e)] 47))
    (by rw [World.cell?_alloc_at _ _ _ _ (by simp)]; rfl)
    (by rw [World.cell?_alloc_lt _ _ t (by simp; omega), World.cell?_alloc_lt _ _ t (by simp; omega), World.cell?_alloc_lt _ _ t (by simp; omega), World.cell?_alloc_lt _ _ t htl]; exact ht0)
    (by rw [World.frozen?_alloc_old _ _ t (by simp; omega), World.frozen?_alloc_old _ _ t (by simp; omega), World.frozen?_alloc_old _ _ t (by simp; omega), World.frozen?_alloc_old _ _ t (Nat.ne_of_lt htl)]; exact hf0)
  go_enter Tryd.func24, Tryd.ntmps24
  go_wp2
  refine wp_loop_rounds 1 ?_
  rw [rounds_succ]
  go_wp2
  go_ret
  exact ⟨rfl, _, ((((Below.refl _ _).alloc (Nat.le_refl _) _).alloc (by simp) _).alloc (by simp; omega) _).alloc (by simp; omega) _, rfl⟩
/-! ### errors.Is -/
theorem Tryd.noIsS (v : Value) (xT : TypeId) (w : World) : (Instr.typeAssert (.iface 47 v) xT 107 true).run Tryd.prog w = .ok (.tuple #[.nilIface, .bool false]) w :=
  run_typeAssert_lacksB Tryd.underlying107 (by kernel_rfl) (by kernel_rfl) v xT w
theorem Tryd.hasUnS (v : Value) (xT : TypeId) (w : World) : (Instr.typeAssert (.iface 47 v) xT 102 true).run Tryd.prog w = .ok (.tuple #[.iface 47 v, .bool true]) w :=
  run_typeAssert_hasB Tryd.underlying102 (by kernel_rfl) v xT w
theorem Tryd.methodUnwrap (p : Value) (w : World) : (Go.method 269 47 p "Unwrap").run Tryd.prog w = .ok (106, p) w := by kernel_rfl
theorem Tryd.methodComparable (h : Value) (w : World) : (Go.method 269 95 (.agg #[h]) "Comparable").run Tryd.prog w = .ok (113, .agg #[h]) w := by kernel_rfl
/-- A Spot in memory. -/
structure Sp (w : World) (b : Nat) (a c : Int) : Prop where
  lt : b < w.heap.size
  c0 : w.cell? ⟨b, 0, none⟩ = some (.int .u64 a)
  c1 : w.cell? ⟨b, 1, none⟩ = some (.iface 44 (.int .i64 c))
theorem Sp.below {w w' : World} {b : Nat} {a c : Int} (h : Sp w b a c) (hb : Below w.heap.size w w') : Sp w' b a c :=
  ⟨Nat.lt_of_lt_of_le h.lt hb.size, (hb.cell (p := ⟨b, 0, none⟩) h.lt).trans h.c0, (hb.cell (p := ⟨b, 1, none⟩) h.lt).trans h.c1⟩
theorem unwrap_any {w : World} {b : Nat} {a c : Int} (h : Sp w b a c) :
    Calls Tryd.prog 106 #[.pointer (some ⟨b, 0, none⟩)] w fun e w' => e = .returned (.iface 44 (.int .i64 c)) ∧ w = w' := by
  have q1 := h.c1
  go_enter Tryd.func106, Tryd.ntmps106
  go_wp2
  go_ret
  exact ⟨rfl, rfl⟩
set_option maxHeartbeats 4000000 in
theorem is_any {w : World} {b : Nat} {a c : Int} (h : Sp w b a c) :
    Calls Tryd.prog 40 #[.iface 47 (.pointer (some ⟨b, 0, none⟩)), .iface 44 (.int .i64 c), .bool true] w fun e w' => e = .returned (.bool true) ∧ w = w' := by
  have q1 := run_eql_iface_types (P := Tryd.prog) 47 44 (.pointer (some ⟨b, 0, none⟩)) (.int .i64 c) Tryd.underlying29 (by decide)
  have q2 := eql_code c c
  have n1 := Tryd.noIsS
  have n2 := Tryd.hasUnS
  have mU := Tryd.methodUnwrap
  go_enter Tryd.func40, Tryd.ntmps40
  go_wp2
  refine wp_loop_rounds 2 ?_
  rw [rounds_succ]
  go_wp2_with (go_at_call 106; refine (unwrap_any h).mono ?_; rintro e w' ⟨rfl, rfl⟩)
  rw [rounds_succ]
  go_wp2
  go_ret
  exact ⟨rfl, rfl⟩
/-- The model's entry for rtype's Comparable, by its place. -/
def cmpEntry : Array Value → Sem Value := (ReflectliteType.rows.getD 2 ("", ReflectliteType.typeOf)).2
theorem Tryd.comparableC (w : World) : (cmpEntry #[.agg #[.pointer (some ⟨3, 44, none⟩)]]).run Tryd.prog w = .ok (.bool true) w := by kernel_rfl
set_option maxHeartbeats 4000000 in
/-- errors.Is at a Spot, asked for its own Code: yes. -/
theorem Is_any {w : World} {b : Nat} {a c : Int} (h : Sp w b a c) :
    Calls Tryd.prog 25 #[.iface 47 (.pointer (some ⟨b, 0, none⟩)), .iface 44 (.int .i64 c)] w fun e w' => e = .returned (.bool true) ∧ w = w' := by
  have h10 := @run_callFunc_extern Tryd.prog 39 _ ReflectliteType.typeOf Tryd.func39 (by kernel_rfl) (by kernel_rfl) (by kernel_rfl) (by kernel_rfl)
  have hC := @run_callFunc_extern Tryd.prog 113 _ cmpEntry Tryd.func113 (by kernel_rfl) (by kernel_rfl) (by kernel_rfl) (by kernel_rfl)
  have tO := Tryd.typeOfC
  have mC := Tryd.methodComparable
  have cC := Tryd.comparableC
  go_enter Tryd.func25, Tryd.ntmps25
  go_wp2_with (go_at_call 40; refine (is_any h).mono ?_; rintro e w' ⟨rfl, rfl⟩)
  go_ret
  exact ⟨rfl, rfl⟩
theorem infoSp : (Tryd.prog.info? 47).map (·.comparable) = some true := by kernel_rfl
theorem infoS : (Tryd.prog.info? 49).isSome = true := by kernel_rfl
theorem neq_spot (p : Addr) (w : World) : (binOp .neq 29 (.iface 47 (.pointer (some p))) (.iface 47 (.pointer (some p)))).run Tryd.prog w = .ok (.bool false) w := by
  obtain ⟨i, hi, hc⟩ := Option.map_eq_some_iff.1 infoSp
  obtain ⟨j, hj⟩ := Option.isSome_iff_exists.1 infoS
  simp only [binOp]
  simp [Op.equal, Op.maxDepth, run_equalIn_iface_ptr_same w 9998 p Tryd.underlying29 Tryd.underlying47 hi hc hj]
set_option maxHeartbeats 4000000 in
/-- treenaillaw00.Is at a Spot, asked for its own place and Code: yes. -/
theorem isAt {w : World} {b : Nat} {a c : Int} (h : Sp w b a c) (hg : Et w) :
    Calls Tryd.prog 14 #[.iface 47 (.pointer (some ⟨b, 0, none⟩)), .int .u64 a, .int .i64 c] w (AnsV (.bool true) w) := by
  have hg1 := hg.alloc (.cells #[.pointer none] 47)
  have ht : (w.alloc (.cells #[.pointer none] 47)).cell? ⟨w.heap.size, 0, none⟩ = some (.pointer none) := by simp
  have hf : (w.alloc (.cells #[.pointer none] 47)).frozen? ⟨w.heap.size, 0, none⟩ = false := by simp
  have ba : Below w.heap.size w (w.alloc (.cells #[.pointer none] 47)) := (Below.refl _ _).alloc (Nat.le_refl _) _
  have sz : (w.alloc (.cells #[.pointer none] 47)).heap.size = w.heap.size + 1 := by simp
  have h1 := h.below ba
  have HG := Lib.hid hg1
  have HT := Lib.hid ht
  have HF := Lib.hid hf
  have BA := Lib.hid ba
  have SZ := Lib.hid sz
  clear hg1 ht hf ba sz
  go_enter Tryd.func14, Tryd.ntmps14
  go_wp2_with fail
  refine (as_spot _ _ _ _ HG.out HT.out HF.out).mono ?_
  rintro e w2 ⟨rfl, w1, hb, rfl⟩
  have hlt : w.heap.size < w1.heap.size := by have := hb.size; have := SZ.out; omega
  have h2 := h1.below hb
  have hb0 := BA.out.trans (hb.mono BA.out.size)
  have hb1 := hb0.setCell (p := ⟨w.heap.size, 0, none⟩) (Nat.le_refl _) (.pointer (some ⟨b, 0, none⟩))
  have h3 : Sp (w1.setCell ⟨w.heap.size, 0, none⟩ (.pointer (some ⟨b, 0, none⟩))) b a c := h.below hb1
  have hcell : (w1.setCell ⟨w.heap.size, 0, none⟩ (.pointer (some ⟨b, 0, none⟩))).cell? ⟨w.heap.size, 0, none⟩ = some (.pointer (some ⟨b, 0, none⟩)) := by
    have h0 := (hb.cell (p := ⟨w.heap.size, 0, none⟩) (by have := SZ.out; show w.heap.size < _; omega)).trans HT.out
    exact World.cell?_setCell_same _ _ _ h0
  have HB1 := Lib.hid hb1
  generalize w1.setCell ⟨w.heap.size, 0, none⟩ (.pointer (some ⟨b, 0, none⟩)) = w3 at *
  clear h1 hb h2 hb0 hb1
  have c0 := h3.c0
  have c1 := h3.c1
  have q1 := neq_spot ⟨b, 0, none⟩
  have q2 := eql_code c c
  have q3 : ((a : Int) == a) = true := by simp
  have q4 : ((c : Int) == c) = true := by simp
  go_wp2_with (go_at_call 25; refine (Is_any h3).mono ?_; rintro e w' ⟨rfl, rfl⟩)
  go_ret
  exact ⟨by simp, HB1.out⟩
end Go.Proofs.YtbgnjbalojcgkaaDoor
