/-
  Errors that are Spots: errors.As asked for a Spot finds it; errors.Is goes on to its Code; what treenaillaw00.Is answers.
-/
import Derived.Test.YtbgnjbalojcgkaaGreatDoorEt
namespace Go.Proofs.YtbgnjbalojcgkaaGreatDoor
open Go.RowKit Go.Extern.Stop Go.Stop Go.Extern
set_option linter.unusedVariables false
theorem Tryz.typeOfSp (v : Value) (w : World) : (ReflectliteType.typeOf #[.iface 44 v]).run Tryz.prog w = .ok (.iface 100 (.agg #[.pointer (some ⟨3, 44, none⟩)])) w := by kernel_rfl
theorem Tryz.assignableSp (w : World) : (ReflectliteType.relation "AssignableTo" ReflectliteType.assignableTo #[.agg #[.pointer (some ⟨3, 44, none⟩)], .iface 100 (.agg #[.pointer (some ⟨3, 44, none⟩)])]).run Tryz.prog w = .ok (.bool true) w := by kernel_rfl
theorem Tryz.valueOfSp (e : Addr) (w : World) : (ReflectliteValue.unpack (.iface 44 (.pointer (some e)))).run Tryz.prog w
    = .ok (.agg #[.pointer (some ⟨3, 44, none⟩), .pointer (some ⟨w.heap.size, 0, none⟩), .int .u64 150]) (w.alloc (.cells #[.pointer (some e)] 44)) := by kernel_rfl
theorem Tryz.elemOfSp (w : World) : (Rtype.elem? 55).run Tryz.prog w = .ok (some 44) w := by kernel_rfl
theorem Tryz.mkSp (p : Addr) (w : World) : (ReflectliteValue.mk 44 p ReflectliteValue.flagAddr).run Tryz.prog w = .ok (.agg #[.pointer (some ⟨3, 44, none⟩), .pointer (some p), .int .u64 406]) w := by kernel_rfl
theorem Tryz.elemVSp (a p : Addr) (W : World) (ha : W.cell? a = some (.pointer (some p))) :
    (ReflectliteValue.method (ReflectliteValue.valueError "reflectlite.Value.Elem" 0) ReflectliteValue.elem #[.agg #[.pointer (some ⟨3, 55, none⟩), .pointer (some a), .int .u64 150]]).run Tryz.prog W
      = .ok (.agg #[.pointer (some ⟨3, 44, none⟩), .pointer (some p), .int .u64 406]) W := by
  rw [rlm]
  simp only [Sem.run_bind, Tryz.partsSS, Result.andThen]
  simp [ReflectliteValue.elem, loadVar, isAgg, underlying, Tryz.underlying55, ha, Result.andThen, Tryz.elemOfSp, Tryz.mkSp]
theorem Tryz.partsSpA (a : Addr) (w : World) : (ReflectliteValue.parts (.agg #[.pointer (some ⟨3, 44, none⟩), .pointer (some a), .int .u64 406])).run Tryz.prog w = .ok (some (44, a, 406)) w := by kernel_rfl
theorem Tryz.partsSp (a : Addr) (w : World) : (ReflectliteValue.parts (.agg #[.pointer (some ⟨3, 44, none⟩), .pointer (some a), .int .u64 150])).run Tryz.prog w = .ok (some (44, a, 150)) w := by kernel_rfl
theorem Tryz.directSp (w : World) : (Rtype.directlyAssignable 44 44).run Tryz.prog w = .ok true w := by kernel_rfl
theorem Tryz.sizeSp (w : World) : (sizeOf 44).run Tryz.prog w = .ok 1 w := by kernel_rfl
theorem Tryz.setSp (ta b e : Addr) (old : Value) (W : World) (hb : W.cell? b = some (.pointer (some e))) (ht : W.cell? ta = some old) (hf : W.frozen? ta = false) :
    (ReflectliteValue.set #[.agg #[.pointer (some ⟨3, 44, none⟩), .pointer (some ta), .int .u64 406], .agg #[.pointer (some ⟨3, 44, none⟩), .pointer (some b), .int .u64 150]]).run Tryz.prog W
      = .ok (.tuple #[]) (W.setCell ta (.pointer (some e))) := by
  refine Eq.trans (b := Sem.run Tryz.prog (ReflectliteValue.parts (.agg #[.pointer (some ⟨3, 44, none⟩), .pointer (some ta), .int .u64 406]) >>= fun p => ReflectliteValue.parts (.agg #[.pointer (some ⟨3, 44, none⟩), .pointer (some b), .int .u64 150]) >>= fun q => (_ : Sem Value)) W) rfl ?_
  simp only [Sem.run_bind, Tryz.partsSpA, Tryz.partsSp, Result.andThen]
  simp [ReflectliteValue.flagAddr, loadVar, isAgg, underlying, Tryz.underlying44, hb, Result.andThen, Tryz.directSp, storeVar, Value.cells, storeCells, Addr.add]
  rw [run_store Tryz.prog W ta _ _ (by rfl)]
  simp [ht, hf]
set_option maxHeartbeats 4000000 in
/-- errors.As at a Spot, asked for a Spot: yes; the target is set; else only new memory. -/
theorem as_spot (e t : Addr) (old : Value) (w : World) (hg : Et w) (ht0 : w.cell? t = some old) (hf0 : w.frozen? t = false) :
    Calls Tryz.prog 21 #[.iface 44 (.pointer (some e)), .iface 55 (.pointer (some t))] w fun ev w' => ev = .returned (.bool true) ∧ ∃ w1, Below w.heap.size w w1 ∧ w' = w1.setCell t (.pointer (some e)) := by
  have h6 := @run_callFunc_extern Tryz.prog 38 _ (fun args => ReflectliteValue.unpack (args.getD 0 (.tuple #[]))) Tryz.func38 (by kernel_rfl) (by kernel_rfl) (by kernel_rfl) (by kernel_rfl)
  have h7 := @run_callFunc_extern Tryz.prog 39 _ (ReflectliteValue.methodAny (ReflectliteValue.valueError "reflectlite.Value.Type" 0) (fun t _ _ _ => ReflectliteType.toType t)) Tryz.func39 (by kernel_rfl) (by kernel_rfl) (by kernel_rfl) (by kernel_rfl)
  have h8 := @run_callFunc_extern Tryz.prog 40 _ (ReflectliteValue.method (ReflectliteValue.valueError "reflectlite.Value.IsNil" 0) ReflectliteValue.isNil) Tryz.func40 (by kernel_rfl) (by kernel_rfl) (by kernel_rfl) (by kernel_rfl)
  have h27 := @run_callFunc_extern Tryz.prog 108 _ (ReflectliteType.abiMethod fun t => do pure (.int .u8 (← Rtype.kind t))) Tryz.func108 (by kernel_rfl) (by kernel_rfl) (by kernel_rfl) (by kernel_rfl)
  have h37 := @run_callFunc_extern Tryz.prog 121 _ (ReflectliteType.method ReflectliteType.elem) Tryz.func121 (by kernel_rfl) (by kernel_rfl) (by kernel_rfl) (by kernel_rfl)
  have h38 := @run_callFunc_extern Tryz.prog 122 _ (ReflectliteType.relation "Implements" ReflectliteType.implements_) Tryz.func122 (by kernel_rfl) (by kernel_rfl) (by kernel_rfl) (by kernel_rfl)
  have h10 := @run_callFunc_extern Tryz.prog 42 _ ReflectliteType.typeOf Tryz.func42 (by kernel_rfl) (by kernel_rfl) (by kernel_rfl) (by kernel_rfl)
  have h35 := @run_callFunc_extern Tryz.prog 119 _ (ReflectliteType.relation "AssignableTo" ReflectliteType.assignableTo) Tryz.func119 (by kernel_rfl) (by kernel_rfl) (by kernel_rfl) (by kernel_rfl)
  have h11 := @run_callFunc_extern Tryz.prog 59 _ (ReflectliteValue.method (ReflectliteValue.valueError "reflectlite.Value.Elem" 0) ReflectliteValue.elem) Tryz.func59 (by kernel_rfl) (by kernel_rfl) (by kernel_rfl) (by kernel_rfl)
  have h12 := @run_callFunc_extern Tryz.prog 60 _ ReflectliteValue.set Tryz.func60 (by kernel_rfl) (by kernel_rfl) (by kernel_rfl) (by kernel_rfl)
  have tO := Tryz.typeOfSp
  have mA := Tryz.methodAssignableTo
  have aC := Tryz.assignableSp
  have vS := Tryz.valueOfSp
  have f6 := Tryz.valueOfS
  have f7 := Tryz.typeS
  have mK := Tryz.methodKind
  have mE := Tryz.methodElem
  have mI := Tryz.methodImplements
  have k27 := Tryz.kindSS
  have k25 := Tryz.kindS
  have e27 := Tryz.elemSS
  have i25 := Tryz.implementsS
  have htl : t.block < w.heap.size := by
    rcases Nat.lt_or_ge t.block w.heap.size with h | h
    · exact h
    · simp [World.cell?, Array.getElem?_eq_none h] at ht0
  have n8 := Tryz.isNilSS ⟨w.heap.size, 0, none⟩ t ((w.alloc (.cells #[.pointer (some t)] 55)).alloc (.cells #[.pointer (some ⟨3, 55, none⟩), .pointer (some ⟨w.heap.size, 0, none⟩), .int .u64 150] 72)) (by simp)
  have hg2 : ((w.alloc (.cells #[.pointer (some t)] 55)).alloc (.cells #[.pointer (some ⟨3, 55, none⟩), .pointer (some ⟨w.heap.size, 0, none⟩), .int .u64 150] 72)).cell? ⟨0, 0, none⟩ = some (.iface 100 (.agg #[.pointer (some ⟨3, 28, none⟩)])) := (hg.alloc _).alloc _
  have el := Tryz.elemVSp ⟨w.heap.size, 0, none⟩ t (((w.alloc (.cells #[.pointer (some t)] 55)).alloc (.cells #[.pointer (some ⟨3, 55, none⟩), .pointer (some ⟨w.heap.size, 0, none⟩), .int .u64 150] 72)).alloc (.cells #[.pointer (some ⟨3, 55, none⟩), .pointer (some ⟨w.heap.size, 0, none⟩), .int .u64 150] 72)) (by rw [World.cell?_alloc_lt _ _ ⟨w.heap.size, 0, none⟩ (by simp; omega)]; simp)
  have st := Tryz.setSp t ⟨w.heap.size + 1 + 1 + 1, 0, none⟩ e old ((((w.alloc (.cells #[.pointer (some t)] 55)).alloc (.cells #[.pointer (some ⟨3, 55, none⟩), .pointer (some ⟨w.heap.size, 0, none⟩), .int .u64 150] 72)).alloc (.cells #[.pointer (some ⟨3, 55, none⟩), .pointer (some ⟨w.heap.size, 0, none⟩), .int .u64 150] 72)).alloc (.cells #[.pointer (some e)] 44))
    (by rw [World.cell?_alloc_at _ _ _ _ (by simp)]; rfl)
    (by rw [World.cell?_alloc_lt _ _ t (by simp; omega), World.cell?_alloc_lt _ _ t (by simp; omega), World.cell?_alloc_lt _ _ t (by simp; omega), World.cell?_alloc_lt _ _ t htl]; exact ht0)
    (by rw [World.frozen?_alloc_old _ _ t (by simp; omega), World.frozen?_alloc_old _ _ t (by simp; omega), World.frozen?_alloc_old _ _ t (by simp; omega), World.frozen?_alloc_old _ _ t (Nat.ne_of_lt htl)]; exact hf0)
  go_enter Tryz.func21, Tryz.ntmps21
  go_wp2
  refine wp_loop_rounds 1 ?_
  rw [rounds_succ]
  go_wp2
  go_ret
  exact ⟨rfl, _, ((((Below.refl _ _).alloc (Nat.le_refl _) _).alloc (by simp) _).alloc (by simp; omega) _).alloc (by simp; omega) _, rfl⟩
/-! ### errors.Is -/
theorem Tryz.noIsS (v : Value) (xT : TypeId) (w : World) : (Instr.typeAssert (.iface 44 v) xT 112 true).run Tryz.prog w = .ok (.tuple #[.nilIface, .bool false]) w :=
  run_typeAssert_lacksB Tryz.underlying112 (by kernel_rfl) (by kernel_rfl) v xT w
theorem Tryz.hasUnS (v : Value) (xT : TypeId) (w : World) : (Instr.typeAssert (.iface 44 v) xT 107 true).run Tryz.prog w = .ok (.tuple #[.iface 44 v, .bool true]) w :=
  run_typeAssert_hasB Tryz.underlying107 (by kernel_rfl) v xT w
theorem Tryz.methodUnwrap (p : Value) (w : World) : (Go.method 274 44 p "Unwrap").run Tryz.prog w = .ok (113, p) w := by kernel_rfl
theorem Tryz.methodComparable (h : Value) (w : World) : (Go.method 274 100 (.agg #[h]) "Comparable").run Tryz.prog w = .ok (120, .agg #[h]) w := by kernel_rfl
/-- A Spot in memory. -/
structure Sp (w : World) (b : Nat) (a c : Int) : Prop where
  lt : b < w.heap.size
  c0 : w.cell? ⟨b, 0, none⟩ = some (.int .u64 a)
  c1 : w.cell? ⟨b, 1, none⟩ = some (.iface 36 (.int .i64 c))
theorem Sp.below {w w' : World} {b : Nat} {a c : Int} (h : Sp w b a c) (hb : Below w.heap.size w w') : Sp w' b a c :=
  ⟨Nat.lt_of_lt_of_le h.lt hb.size, (hb.cell (p := ⟨b, 0, none⟩) h.lt).trans h.c0, (hb.cell (p := ⟨b, 1, none⟩) h.lt).trans h.c1⟩
theorem unwrap_any {w : World} {b : Nat} {a c : Int} (h : Sp w b a c) :
    Calls Tryz.prog 113 #[.pointer (some ⟨b, 0, none⟩)] w fun e w' => e = .returned (.iface 36 (.int .i64 c)) ∧ w = w' := by
  have q1 := h.c1
  go_enter Tryz.func113, Tryz.ntmps113
  go_wp2
  go_ret
  exact ⟨rfl, rfl⟩
set_option maxHeartbeats 4000000 in
theorem is_any {w : World} {b : Nat} {a c : Int} (h : Sp w b a c) :
    Calls Tryz.prog 43 #[.iface 44 (.pointer (some ⟨b, 0, none⟩)), .iface 36 (.int .i64 c), .bool true] w fun e w' => e = .returned (.bool true) ∧ w = w' := by
  have q1 := run_eql_iface_types (P := Tryz.prog) 44 36 (.pointer (some ⟨b, 0, none⟩)) (.int .i64 c) Tryz.underlying28 (by decide)
  have q2 := eql_code c c
  have n1 := Tryz.noIsS
  have n2 := Tryz.hasUnS
  have mU := Tryz.methodUnwrap
  go_enter Tryz.func43, Tryz.ntmps43
  go_wp2
  refine wp_loop_rounds 2 ?_
  rw [rounds_succ]
  go_wp2_with (go_at_call 113; refine (unwrap_any h).mono ?_; rintro e w' ⟨rfl, rfl⟩)
  rw [rounds_succ]
  go_wp2
  go_ret
  exact ⟨rfl, rfl⟩
/-- The model's entry for rtype's Comparable, by its place. -/
def cmpEntry : Array Value → Sem Value := (ReflectliteType.rows.getD 2 ("", ReflectliteType.typeOf)).2
theorem Tryz.comparableC (w : World) : (cmpEntry #[.agg #[.pointer (some ⟨3, 36, none⟩)]]).run Tryz.prog w = .ok (.bool true) w := by kernel_rfl
set_option maxHeartbeats 4000000 in
/-- errors.Is at a Spot, asked for its own Code: yes. -/
theorem Is_any {w : World} {b : Nat} {a c : Int} (h : Sp w b a c) :
    Calls Tryz.prog 22 #[.iface 44 (.pointer (some ⟨b, 0, none⟩)), .iface 36 (.int .i64 c)] w fun e w' => e = .returned (.bool true) ∧ w = w' := by
  have h10 := @run_callFunc_extern Tryz.prog 42 _ ReflectliteType.typeOf Tryz.func42 (by kernel_rfl) (by kernel_rfl) (by kernel_rfl) (by kernel_rfl)
  have hC := @run_callFunc_extern Tryz.prog 120 _ cmpEntry Tryz.func120 (by kernel_rfl) (by kernel_rfl) (by kernel_rfl) (by kernel_rfl)
  have tO := Tryz.typeOfC
  have mC := Tryz.methodComparable
  have cC := Tryz.comparableC
  go_enter Tryz.func22, Tryz.ntmps22
  go_wp2_with (go_at_call 43; refine (is_any h).mono ?_; rintro e w' ⟨rfl, rfl⟩)
  go_ret
  exact ⟨rfl, rfl⟩
theorem infoSp : (Tryz.prog.info? 44).map (·.comparable) = some true := by kernel_rfl
theorem infoS : (Tryz.prog.info? 46).isSome = true := by kernel_rfl
theorem neq_spot (p : Addr) (w : World) : (binOp .neq 28 (.iface 44 (.pointer (some p))) (.iface 44 (.pointer (some p)))).run Tryz.prog w = .ok (.bool false) w := by
  obtain ⟨i, hi, hc⟩ := Option.map_eq_some_iff.1 infoSp
  obtain ⟨j, hj⟩ := Option.isSome_iff_exists.1 infoS
  simp only [binOp]
  simp [Op.equal, Op.maxDepth, run_equalIn_iface_ptr_same w 9998 p Tryz.underlying28 Tryz.underlying44 hi hc hj]
set_option maxHeartbeats 4000000 in
/-- treenaillaw00.Is at a Spot, asked for its own place and Code: yes. -/
theorem isAt {w : World} {b : Nat} {a c : Int} (h : Sp w b a c) (hg : Et w) :
    Calls Tryz.prog 9 #[.iface 44 (.pointer (some ⟨b, 0, none⟩)), .int .u64 a, .int .i64 c] w (AnsV (.bool true) w) := by
  have hg1 := hg.alloc (.cells #[.pointer none] 44)
  have ht : (w.alloc (.cells #[.pointer none] 44)).cell? ⟨w.heap.size, 0, none⟩ = some (.pointer none) := by simp
  have hf : (w.alloc (.cells #[.pointer none] 44)).frozen? ⟨w.heap.size, 0, none⟩ = false := by simp
  have ba : Below w.heap.size w (w.alloc (.cells #[.pointer none] 44)) := (Below.refl _ _).alloc (Nat.le_refl _) _
  have sz : (w.alloc (.cells #[.pointer none] 44)).heap.size = w.heap.size + 1 := by simp
  have h1 := h.below ba
  have HG := Lib.hid hg1
  have HT := Lib.hid ht
  have HF := Lib.hid hf
  have BA := Lib.hid ba
  have SZ := Lib.hid sz
  clear hg1 ht hf ba sz
  go_enter Tryz.func9, Tryz.ntmps9
  go_wp2_with fail
  refine (as_spot _ _ _ _ HG.out HT.out HF.out).mono ?_
  rintro e w2 ⟨rfl, w1, hb, rfl⟩
  have hlt : w.heap.size < w1.heap.size := by have := hb.size; have := SZ.out; omega
  have h2 := h1.below hb
  have hb0 := BA.out.trans (hb.mono BA.out.size)
  have hb1 := hb0.setCell (p := ⟨w.heap.size, 0, none⟩) (Nat.le_refl _) (.pointer (some ⟨b, 0, none⟩))
  have h3 : Sp (w1.setCell ⟨w.heap.size, 0, none⟩ (.pointer (some ⟨b, 0, none⟩))) b a c := h.below hb1
  have hcell : (w1.setCell ⟨w.heap.size, 0, none⟩ (.pointer (some ⟨b, 0, none⟩))).cell? ⟨w.heap.size, 0, none⟩ = some (.pointer (some ⟨b, 0, none⟩)) := by
    have h0 := (hb.cell (p := ⟨w.heap.size, 0, none⟩) (by have := SZ.out; show w.heap.size < _; omega)).trans HT.out
    exact World.cell?_setCell_same _ _ _ h0
  have HB1 := Lib.hid hb1
  generalize w1.setCell ⟨w.heap.size, 0, none⟩ (.pointer (some ⟨b, 0, none⟩)) = w3 at *
  clear h1 hb h2 hb0 hb1
  have c0 := h3.c0
  have c1 := h3.c1
  have q1 := neq_spot ⟨b, 0, none⟩
  have q2 := eql_code c c
  have q3 : ((a : Int) == a) = true := by simp
  have q4 : ((c : Int) == c) = true := by simp
  go_wp2_with (go_at_call 22; refine (Is_any h3).mono ?_; rintro e w' ⟨rfl, rfl⟩)
  go_ret
  exact ⟨by simp, HB1.out⟩
end Go.Proofs.YtbgnjbalojcgkaaGreatDoor
