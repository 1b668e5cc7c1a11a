/-
  Several texts in one: Err, Et, CodeE, Spot.
-/
import Derived.Test.YtloajnaphenbjaaGreatDoorLit
import Derived.Stop.Asserts
import Derived.RowKitTokens
import Derived.Test.YtloajnaphenbjaaGreatDoorKit0
import Derived.Test.YtloajnaphenbjaaGreatDoorPri
/-
  Errors that are Codes, held against one another: what treenaillaw00.Code and Same answer. errors.As is walked through, at a target that is a Spot's.
-/
namespace Go.Proofs.YtloajnaphenbjaaGreatDoor
open Go.RowKit Go.Extern.Stop Go.Stop Go.Extern
set_option linter.unusedVariables false
theorem Tryz.valueOfS (t : Addr) (w : World) : (ReflectliteValue.unpack (.iface 84 (.pointer (some t)))).run Tryz.prog w
    = .ok (.agg #[.pointer (some ⟨3, 84, none⟩), .pointer (some ⟨w.heap.size, 0, none⟩), .int .u64 150]) (w.alloc (.cells #[.pointer (some t)] 84)) := by kernel_rfl
theorem Tryz.typeS (a : Addr) (w : World) : (ReflectliteValue.methodAny (ReflectliteValue.valueError "reflectlite.Value.Type" 0) (fun t _ _ _ => ReflectliteType.toType t) #[.agg #[.pointer (some ⟨3, 84, none⟩), .pointer (some a), .int .u64 150]]).run Tryz.prog w
    = .ok (.iface 142 (.agg #[.pointer (some ⟨3, 84, none⟩)])) w := by kernel_rfl
theorem Tryz.methodKind (h : Value) (w : World) : (Go.method 298 142 (.agg #[h]) "Kind").run Tryz.prog w = .ok (137, h) w := by kernel_rfl
theorem Tryz.kindSS (w : World) : ((ReflectliteType.abiMethod fun t => (fun a : Nat => Value.int IntKind.u8 (a : Int)) <$> Rtype.kind t) #[.pointer (some ⟨3, 84, none⟩)]).run Tryz.prog w = .ok (.int .u8 22) w := by kernel_rfl
theorem Tryz.kindS (w : World) : ((ReflectliteType.abiMethod fun t => (fun a : Nat => Value.int IntKind.u8 (a : Int)) <$> Rtype.kind t) #[.pointer (some ⟨3, 82, none⟩)]).run Tryz.prog w = .ok (.int .u8 22) w := by kernel_rfl
theorem rlm (z : Sem Value) (f : TypeId → Addr → Nat → Nat → Sem Value) (v : Value) :
    ReflectliteValue.method z f #[v] = (do match ← ReflectliteValue.parts v with | none => z | some (t, a, fl) => f t a fl (fl % 32)) := rfl
theorem Tryz.partsSS (a : Addr) (w : World) : (ReflectliteValue.parts (.agg #[.pointer (some ⟨3, 84, none⟩), .pointer (some a), .int .u64 150])).run Tryz.prog w = .ok (some (84, a, 150)) w := by kernel_rfl
theorem Tryz.isNilSS (a p : Addr) (W : World) (ha : W.cell? a = some (.pointer (some p))) :
    (ReflectliteValue.method (ReflectliteValue.valueError "reflectlite.Value.IsNil" 0) ReflectliteValue.isNil #[.agg #[.pointer (some ⟨3, 84, none⟩), .pointer (some a), .int .u64 150]]).run Tryz.prog W = .ok (.bool false) W := by
  rw [rlm]
  simp only [Sem.run_bind, Tryz.partsSS, Result.andThen]
  simp [ReflectliteValue.isNil, loadVar, isAgg, underlying, Tryz.underlying84, ha, Result.andThen]
theorem Tryz.methodElem (h : Value) (w : World) : (Go.method 298 142 (.agg #[h]) "Elem").run Tryz.prog w = .ok (149, .agg #[h]) w := by kernel_rfl
theorem Tryz.methodImplements (h : Value) (w : World) : (Go.method 298 142 (.agg #[h]) "Implements").run Tryz.prog w = .ok (150, .agg #[h]) w := by kernel_rfl
theorem Tryz.methodAssignableTo (h : Value) (w : World) : (Go.method 298 142 (.agg #[h]) "AssignableTo").run Tryz.prog w = .ok (147, .agg #[h]) w := by kernel_rfl
theorem Tryz.elemSS (w : World) : (ReflectliteType.method ReflectliteType.elem #[.agg #[.pointer (some ⟨3, 84, none⟩)]]).run Tryz.prog w = .ok (.iface 142 (.agg #[.pointer (some ⟨3, 82, none⟩)])) w := by kernel_rfl
theorem Tryz.implementsS (w : World) : (ReflectliteType.relation "Implements" ReflectliteType.implements_ #[.agg #[.pointer (some ⟨3, 82, none⟩)], .iface 142 (.agg #[.pointer (some ⟨3, 31, none⟩)])]).run Tryz.prog w = .ok (.bool true) w := by kernel_rfl
theorem Tryz.typeOfC (v : Value) (w : World) : (ReflectliteType.typeOf #[.iface 39 v]).run Tryz.prog w = .ok (.iface 142 (.agg #[.pointer (some ⟨3, 39, none⟩)])) w := by kernel_rfl
theorem Tryz.assignableC (w : World) : (ReflectliteType.relation "AssignableTo" ReflectliteType.assignableTo #[.agg #[.pointer (some ⟨3, 39, none⟩)], .iface 142 (.agg #[.pointer (some ⟨3, 82, none⟩)])]).run Tryz.prog w = .ok (.bool false) w := by kernel_rfl
theorem Tryz.noAs (v : Value) (xT : TypeId) (w : World) : (Instr.typeAssert (.iface 39 v) xT 146 true).run Tryz.prog w = .ok (.tuple #[.nilIface, .bool false]) w :=
  run_typeAssert_lacksB Tryz.underlying146 (by kernel_rfl) (by kernel_rfl) v xT w
theorem Tryz.noUn (v : Value) (xT : TypeId) (w : World) : (Instr.typeAssert (.iface 39 v) xT 149 true).run Tryz.prog w = .ok (.tuple #[.nilIface, .bool false]) w :=
  run_typeAssert_lacksB Tryz.underlying149 (by kernel_rfl) (by kernel_rfl) v xT w
theorem Tryz.noUns (v : Value) (xT : TypeId) (w : World) : (Instr.typeAssert (.iface 39 v) xT 151 true).run Tryz.prog w = .ok (.tuple #[.nilIface, .bool false]) w :=
  run_typeAssert_lacksB Tryz.underlying151 (by kernel_rfl) (by kernel_rfl) v xT w
/-- What errors.errorType holds. -/
def Et (w : World) : Prop := w.cell? ⟨0, 0, none⟩ = some (.iface 142 (.agg #[.pointer (some ⟨3, 31, none⟩)]))
theorem Et.pos {w : World} (h : Et w) : 0 < w.heap.size := by
  unfold Et at h
  rcases Nat.lt_or_ge 0 w.heap.size with h' | h'
  · exact h'
  · simp [World.cell?, Array.getElem?_eq_none h'] at h
theorem Et.alloc {w : World} (h : Et w) (o : Obj) : Et (w.alloc o) := by
  have := h.pos
  unfold Et at *
  rw [World.cell?_alloc_lt _ _ ⟨_, 0, none⟩ this]; exact h
set_option maxHeartbeats 4000000 in
/-- errors.As at a Code, asked for a Spot: no; only new memory. -/
theorem as_code (v : Value) (t : Addr) (w : World) (hg : Et w) (ht0 : w.cell? t = some (.pointer none)) :
    Calls Tryz.prog 42 #[.iface 39 v, .iface 84 (.pointer (some t))] w fun ev w' => ev = .returned (.bool false) ∧ Below w.heap.size w w' := by
  have h6 := @run_callFunc_extern Tryz.prog 73 _ (fun args => ReflectliteValue.unpack (args.getD 0 (.tuple #[]))) Tryz.func73 (by kernel_rfl) (by kernel_rfl) (by kernel_rfl) (by kernel_rfl)
  have h7 := @run_callFunc_extern Tryz.prog 74 _ (ReflectliteValue.methodAny (ReflectliteValue.valueError "reflectlite.Value.Type" 0) (fun t _ _ _ => ReflectliteType.toType t)) Tryz.func74 (by kernel_rfl) (by kernel_rfl) (by kernel_rfl) (by kernel_rfl)
  have h8 := @run_callFunc_extern Tryz.prog 75 _ (ReflectliteValue.method (ReflectliteValue.valueError "reflectlite.Value.IsNil" 0) ReflectliteValue.isNil) Tryz.func75 (by kernel_rfl) (by kernel_rfl) (by kernel_rfl) (by kernel_rfl)
  have h27 := @run_callFunc_extern Tryz.prog 137 _ (ReflectliteType.abiMethod fun t => do pure (.int .u8 (← Rtype.kind t))) Tryz.func137 (by kernel_rfl) (by kernel_rfl) (by kernel_rfl) (by kernel_rfl)
  have h37 := @run_callFunc_extern Tryz.prog 149 _ (ReflectliteType.method ReflectliteType.elem) Tryz.func149 (by kernel_rfl) (by kernel_rfl) (by kernel_rfl) (by kernel_rfl)
  have h38 := @run_callFunc_extern Tryz.prog 150 _ (ReflectliteType.relation "Implements" ReflectliteType.implements_) Tryz.func150 (by kernel_rfl) (by kernel_rfl) (by kernel_rfl) (by kernel_rfl)
  have h10 := @run_callFunc_extern Tryz.prog 77 _ ReflectliteType.typeOf Tryz.func77 (by kernel_rfl) (by kernel_rfl) (by kernel_rfl) (by kernel_rfl)
  have h35 := @run_callFunc_extern Tryz.prog 147 _ (ReflectliteType.relation "AssignableTo" ReflectliteType.assignableTo) Tryz.func147 (by kernel_rfl) (by kernel_rfl) (by kernel_rfl) (by kernel_rfl)
  have tO := Tryz.typeOfC
  have mA := Tryz.methodAssignableTo
  have aC := Tryz.assignableC
  have f6 := Tryz.valueOfS
  have f7 := Tryz.typeS
  have mK := Tryz.methodKind
  have mE := Tryz.methodElem
  have mI := Tryz.methodImplements
  have k27 := Tryz.kindSS
  have k25 := Tryz.kindS
  have e27 := Tryz.elemSS
  have i25 := Tryz.implementsS
  have nA := Tryz.noAs
  have nU := Tryz.noUn
  have nS := Tryz.noUns
  have n8 := Tryz.isNilSS ⟨w.heap.size, 0, none⟩ t ((w.alloc (.cells #[.pointer (some t)] 84)).alloc (.cells #[.pointer (some ⟨3, 84, none⟩), .pointer (some ⟨w.heap.size, 0, none⟩), .int .u64 150] 113)) (by simp)
  have hg2 : ((w.alloc (.cells #[.pointer (some t)] 84)).alloc (.cells #[.pointer (some ⟨3, 84, none⟩), .pointer (some ⟨w.heap.size, 0, none⟩), .int .u64 150] 113)).cell? ⟨0, 0, none⟩ = some (.iface 142 (.agg #[.pointer (some ⟨3, 31, none⟩)])) := (hg.alloc _).alloc _
  go_enter Tryz.func42, Tryz.ntmps42
  go_wp2
  refine wp_loop_rounds 1 ?_
  rw [rounds_succ]
  go_wp2
  go_ret
  refine ⟨rfl, ?_⟩
  exact (((Below.refl _ _).alloc (Nat.le_refl _) _).alloc (by simp) _).alloc (by simp; omega) _
end Go.Proofs.YtloajnaphenbjaaGreatDoor
/-
  What is known of errors' own variable stays.
-/
namespace Go.Proofs.YtloajnaphenbjaaGreatDoor
open Go.RowKit
set_option linter.unusedVariables false
theorem Et.below {w w' : World} (h : Et w) (hb : Below w.heap.size w w') : Et w' := by
  have := h.pos
  unfold Et at *
  exact (hb.cell (p := ⟨_, 0, none⟩) this).trans h
end Go.Proofs.YtloajnaphenbjaaGreatDoor
/-
  The number of an error that is a Code.
-/
namespace Go.Proofs.YtloajnaphenbjaaGreatDoor
open Go.RowKit
set_option linter.unusedVariables false
theorem code_any (c : Int) (h1 : 1 ≤ c) (h2 : c ≤ 15) (w : World) : Calls Tryz.prog 10 #[.iface 39 (.int .i64 c)] w fun e w' => e = .returned (.int .i64 c) ∧ w = w' := by
  go_enter Tryz.func10, Tryz.ntmps10
  go_wp2_with fail
  go_loop [3] (fun t => ∃ k : Int, t = .int .i64 k ∧ 1 ≤ k ∧ k ≤ c) (fun t => (c - intOf t).toNat)
  case atStart => exact ⟨1, rfl, by omega, h1⟩
  case round =>
    obtain ⟨k, rfl, hk1, hk2⟩ := hrel
    have q1 := eql_code c k
    have hk15 : k ≤ 15 := by omega
    by_cases hck : k = c
    · subst hck
      go_wp2
      go_ret
      exact ⟨rfl, rfl⟩
    · have hb : (c == k) = false := by simp; omega
      rw [hb] at q1
      have hw : IntKind.i64.wrap (k + 1) = k + 1 := IntWalk.i64_in _ (by omega)
      go_wp2
      exact ⟨⟨k + 1, rfl, by omega, by omega⟩, by simp [intOf]; omega⟩
end Go.Proofs.YtloajnaphenbjaaGreatDoor
/-
  Errors that are Spots: errors.As asked for a Spot finds it; errors.Is goes on to its Code; what treenaillaw00.Is answers.
-/
namespace Go.Proofs.YtloajnaphenbjaaGreatDoor
open Go.RowKit Go.Extern.Stop Go.Stop Go.Extern
set_option linter.unusedVariables false
theorem Tryz.typeOfSp (v : Value) (w : World) : (ReflectliteType.typeOf #[.iface 82 v]).run Tryz.prog w = .ok (.iface 142 (.agg #[.pointer (some ⟨3, 82, none⟩)])) w := by kernel_rfl
theorem Tryz.assignableSp (w : World) : (ReflectliteType.relation "AssignableTo" ReflectliteType.assignableTo #[.agg #[.pointer (some ⟨3, 82, none⟩)], .iface 142 (.agg #[.pointer (some ⟨3, 82, none⟩)])]).run Tryz.prog w = .ok (.bool true) w := by kernel_rfl
theorem Tryz.valueOfSp (e : Addr) (w : World) : (ReflectliteValue.unpack (.iface 82 (.pointer (some e)))).run Tryz.prog w
    = .ok (.agg #[.pointer (some ⟨3, 82, none⟩), .pointer (some ⟨w.heap.size, 0, none⟩), .int .u64 150]) (w.alloc (.cells #[.pointer (some e)] 82)) := by kernel_rfl
theorem Tryz.elemOfSp (w : World) : (Rtype.elem? 84).run Tryz.prog w = .ok (some 82) w := by kernel_rfl
theorem Tryz.mkSp (p : Addr) (w : World) : (ReflectliteValue.mk 82 p ReflectliteValue.flagAddr).run Tryz.prog w = .ok (.agg #[.pointer (some ⟨3, 82, none⟩), .pointer (some p), .int .u64 406]) w := by kernel_rfl
theorem Tryz.elemVSp (a p : Addr) (W : World) (ha : W.cell? a = some (.pointer (some p))) :
    (ReflectliteValue.method (ReflectliteValue.valueError "reflectlite.Value.Elem" 0) ReflectliteValue.elem #[.agg #[.pointer (some ⟨3, 84, none⟩), .pointer (some a), .int .u64 150]]).run Tryz.prog W
      = .ok (.agg #[.pointer (some ⟨3, 82, none⟩), .pointer (some p), .int .u64 406]) W := by
  rw [rlm]
  simp only [Sem.run_bind, Tryz.partsSS, Result.andThen]
  simp [ReflectliteValue.elem, loadVar, isAgg, underlying, Tryz.underlying84, ha, Result.andThen, Tryz.elemOfSp, Tryz.mkSp]
theorem Tryz.partsSpA (a : Addr) (w : World) : (ReflectliteValue.parts (.agg #[.pointer (some ⟨3, 82, none⟩), .pointer (some a), .int .u64 406])).run Tryz.prog w = .ok (some (82, a, 406)) w := by kernel_rfl
theorem Tryz.partsSp (a : Addr) (w : World) : (ReflectliteValue.parts (.agg #[.pointer (some ⟨3, 82, none⟩), .pointer (some a), .int .u64 150])).run Tryz.prog w = .ok (some (82, a, 150)) w := by kernel_rfl
theorem Tryz.directSp (w : World) : (Rtype.directlyAssignable 82 82).run Tryz.prog w = .ok true w := by kernel_rfl
theorem Tryz.sizeSp (w : World) : (sizeOf 82).run Tryz.prog w = .ok 1 w := by kernel_rfl
theorem Tryz.setSp (ta b e : Addr) (old : Value) (W : World) (hb : W.cell? b = some (.pointer (some e))) (ht : W.cell? ta = some old) (hf : W.frozen? ta = false) :
    (ReflectliteValue.set #[.agg #[.pointer (some ⟨3, 82, none⟩), .pointer (some ta), .int .u64 406], .agg #[.pointer (some ⟨3, 82, none⟩), .pointer (some b), .int .u64 150]]).run Tryz.prog W
      = .ok (.tuple #[]) (W.setCell ta (.pointer (some e))) := by
  refine Eq.trans (b := Sem.run Tryz.prog (ReflectliteValue.parts (.agg #[.pointer (some ⟨3, 82, none⟩), .pointer (some ta), .int .u64 406]) >>= fun p => ReflectliteValue.parts (.agg #[.pointer (some ⟨3, 82, none⟩), .pointer (some b), .int .u64 150]) >>= fun q => (_ : Sem Value)) W) rfl ?_
  simp only [Sem.run_bind, Tryz.partsSpA, Tryz.partsSp, Result.andThen]
  simp [ReflectliteValue.flagAddr, loadVar, isAgg, underlying, Tryz.underlying82, hb, Result.andThen, Tryz.directSp, storeVar, Value.cells, storeCells, Addr.add]
  rw [run_store Tryz.prog W ta _ _ (by rfl)]
  simp [ht, hf]
set_option maxHeartbeats 4000000 in
/-- errors.As at a Spot, asked for a Spot: yes; the target is set; else only new memory. -/
theorem as_spot (e t : Addr) (old : Value) (w : World) (hg : Et w) (ht0 : w.cell? t = some old) (hf0 : w.frozen? t = false) :
    Calls Tryz.prog 42 #[.iface 82 (.pointer (some e)), .iface 84 (.pointer (some t))] w fun ev w' => ev = .returned (.bool true) ∧ ∃ w1, Below w.heap.size w w1 ∧ w' = w1.setCell t (.pointer (some e)) := by
  have h6 := @run_callFunc_extern Tryz.prog 73 _ (fun args => ReflectliteValue.unpack (args.getD 0 (.tuple #[]))) Tryz.func73 (by kernel_rfl) (by kernel_rfl) (by kernel_rfl) (by kernel_rfl)
  have h7 := @run_callFunc_extern Tryz.prog 74 _ (ReflectliteValue.methodAny (ReflectliteValue.valueError "reflectlite.Value.Type" 0) (fun t _ _ _ => ReflectliteType.toType t)) Tryz.func74 (by kernel_rfl) (by kernel_rfl) (by kernel_rfl) (by kernel_rfl)
  have h8 := @run_callFunc_extern Tryz.prog 75 _ (ReflectliteValue.method (ReflectliteValue.valueError "reflectlite.Value.IsNil" 0) ReflectliteValue.isNil) Tryz.func75 (by kernel_rfl) (by kernel_rfl) (by kernel_rfl) (by kernel_rfl)
  have h27 := @run_callFunc_extern Tryz.prog 137 _ (ReflectliteType.abiMethod fun t => do pure (.int .u8 (← Rtype.kind t))) Tryz.func137 (by kernel_rfl) (by kernel_rfl) (by kernel_rfl) (by kernel_rfl)
  have h37 := @run_callFunc_extern Tryz.prog 149 _ (ReflectliteType.method ReflectliteType.elem) Tryz.func149 (by kernel_rfl) (by kernel_rfl) (by kernel_rfl) (by kernel_rfl)
  have h38 := @run_callFunc_extern Tryz.prog 150 _ (ReflectliteType.relation "Implements" ReflectliteType.implements_) Tryz.func150 (by kernel_rfl) (by kernel_rfl) (by kernel_rfl) (by kernel_rfl)
  have h10 := @run_callFunc_extern Tryz.prog 77 _ ReflectliteType.typeOf Tryz.func77 (by kernel_rfl) (by kernel_rfl) (by kernel_rfl) (by kernel_rfl)
  have h35 := @run_callFunc_extern Tryz.prog 147 _ (ReflectliteType.relation "AssignableTo" ReflectliteType.assignableTo) Tryz.func147 (by kernel_rfl) (by kernel_rfl) (by kernel_rfl) (by kernel_rfl)
  have h11 := @run_callFunc_extern Tryz.prog 107 _ (ReflectliteValue.method (ReflectliteValue.valueError "reflectlite.Value.Elem" 0) ReflectliteValue.elem) Tryz.func107 (by kernel_rfl) (by kernel_rfl) (by kernel_rfl) (by kernel_rfl)
  have h12 := @run_callFunc_extern Tryz.prog 108 _ ReflectliteValue.set Tryz.func108 (by kernel_rfl) (by kernel_rfl) (by kernel_rfl) (by kernel_rfl)
  have tO := Tryz.typeOfSp
  have mA := Tryz.methodAssignableTo
  have aC := Tryz.assignableSp
  have vS := Tryz.valueOfSp
  have f6 := Tryz.valueOfS
  have f7 := Tryz.typeS
  have mK := Tryz.methodKind
  have mE := Tryz.methodElem
  have mI := Tryz.methodImplements
  have k27 := Tryz.kindSS
  have k25 := Tryz.kindS
  have e27 := Tryz.elemSS
  have i25 := Tryz.implementsS
  have htl : t.block < w.heap.size := by
    rcases Nat.lt_or_ge t.block w.heap.size with h | h
    · exact h
    · simp [World.cell?, Array.getElem?_eq_none h] at ht0
  have n8 := Tryz.isNilSS ⟨w.heap.size, 0, none⟩ t ((w.alloc (.cells #[.pointer (some t)] 84)).alloc (.cells #[.pointer (some ⟨3, 84, none⟩), .pointer (some ⟨w.heap.size, 0, none⟩), .int .u64 150] 113)) (by simp)
  have hg2 : ((w.alloc (.cells #[.pointer (some t)] 84)).alloc (.cells #[.pointer (some ⟨3, 84, none⟩), .pointer (some ⟨w.heap.size, 0, none⟩), .int .u64 150] 113)).cell? ⟨0, 0, none⟩ = some (.iface 142 (.agg #[.pointer (some ⟨3, 31, none⟩)])) := (hg.alloc _).alloc _
  have el := Tryz.elemVSp ⟨w.heap.size, 0, none⟩ t (((w.alloc (.cells #[.pointer (some t)] 84)).alloc (.cells #[.pointer (some ⟨3, 84, none⟩), .pointer (some ⟨w.heap.size, 0, none⟩), .int .u64 150] 113)).alloc (.cells #[.pointer (some ⟨3, 84, none⟩), .pointer (some ⟨w.heap.size, 0, none⟩), .int .u64 150] 113)) (by rw [World.cell?_alloc_lt _ _ ⟨w.heap.size, 0, none⟩ (by simp; omega)]; simp)
  have st := Tryz.setSp t ⟨w.heap.size + 1 + 1 + 1, 0, none⟩ e old ((((w.alloc (.cells #[.pointer (some t)] 84)).alloc (.cells #[.pointer (some ⟨3, 84, none⟩), .pointer (some ⟨w.heap.size, 0, none⟩), .int .u64 150] 113)).alloc (.cells #[.pointer (some ⟨3, 84, none⟩), .pointer (some ⟨w.heap.size, 0, none⟩), .int .u64 150] 113)).alloc (.cells #[.pointer (some e)] 82))
    (by rw [World.cell?_alloc_at _ _ _ _ (by simp)]; rfl)
    (by rw [World.cell?_alloc_lt _ _ t (by simp; omega), World.cell?_alloc_lt _ _ t (by simp; omega), World.cell?_alloc_lt _ _ t (by simp; omega), World.cell?_alloc_lt _ _ t htl]; exact ht0)
    (by rw [World.frozen?_alloc_old _ _ t (by simp; omega), World.frozen?_alloc_old _ _ t (by simp; omega), World.frozen?_alloc_old _ _ t (by simp; omega), World.frozen?_alloc_old _ _ t (Nat.ne_of_lt htl)]; exact hf0)
  go_enter Tryz.func42, Tryz.ntmps42
  go_wp2
  refine wp_loop_rounds 1 ?_
  rw [rounds_succ]
  go_wp2
  go_ret
  exact ⟨rfl, _, ((((Below.refl _ _).alloc (Nat.le_refl _) _).alloc (by simp) _).alloc (by simp; omega) _).alloc (by simp; omega) _, rfl⟩
/-! ### errors.Is -/
theorem Tryz.noIsS (v : Value) (xT : TypeId) (w : World) : (Instr.typeAssert (.iface 82 v) xT 154 true).run Tryz.prog w = .ok (.tuple #[.nilIface, .bool false]) w :=
  run_typeAssert_lacksB Tryz.underlying154 (by kernel_rfl) (by kernel_rfl) v xT w
theorem Tryz.hasUnS (v : Value) (xT : TypeId) (w : World) : (Instr.typeAssert (.iface 82 v) xT 149 true).run Tryz.prog w = .ok (.tuple #[.iface 82 v, .bool true]) w :=
  run_typeAssert_hasB Tryz.underlying149 (by kernel_rfl) v xT w
theorem Tryz.methodUnwrap (p : Value) (w : World) : (Go.method 298 82 p "Unwrap").run Tryz.prog w = .ok (142, p) w := by kernel_rfl
theorem Tryz.methodComparable (h : Value) (w : World) : (Go.method 298 142 (.agg #[h]) "Comparable").run Tryz.prog w = .ok (148, .agg #[h]) w := by kernel_rfl
theorem unwrap_any {w : World} {b : Nat} {a c : Int} (h : Sp w b a c) :
    Calls Tryz.prog 142 #[.pointer (some ⟨b, 0, none⟩)] w fun e w' => e = .returned (.iface 39 (.int .i64 c)) ∧ w = w' := by
  have q1 := h.c1
  go_enter Tryz.func142, Tryz.ntmps142
  go_wp2
  go_ret
  exact ⟨rfl, rfl⟩
set_option maxHeartbeats 4000000 in
theorem is_any {w : World} {b : Nat} {a c : Int} (h : Sp w b a c) :
    Calls Tryz.prog 78 #[.iface 82 (.pointer (some ⟨b, 0, none⟩)), .iface 39 (.int .i64 c), .bool true] w fun e w' => e = .returned (.bool true) ∧ w = w' := by
  have q1 := run_eql_iface_types (P := Tryz.prog) 82 39 (.pointer (some ⟨b, 0, none⟩)) (.int .i64 c) Tryz.underlying31 (by decide)
  have q2 := eql_code c c
  have n1 := Tryz.noIsS
  have n2 := Tryz.hasUnS
  have mU := Tryz.methodUnwrap
  go_enter Tryz.func78, Tryz.ntmps78
  go_wp2
  refine wp_loop_rounds 2 ?_
  rw [rounds_succ]
  go_wp2_with (go_at_call 142; refine (unwrap_any h).mono ?_; rintro e w' ⟨rfl, rfl⟩)
  rw [rounds_succ]
  go_wp2
  go_ret
  exact ⟨rfl, rfl⟩
/-- The model's entry for rtype's Comparable, by its place. -/
def cmpEntry : Array Value → Sem Value := (ReflectliteType.rows.getD 2 ("", ReflectliteType.typeOf)).2
theorem Tryz.comparableC (w : World) : (cmpEntry #[.agg #[.pointer (some ⟨3, 39, none⟩)]]).run Tryz.prog w = .ok (.bool true) w := by kernel_rfl
set_option maxHeartbeats 4000000 in
/-- errors.Is at a Spot, asked for its own Code: yes. -/
theorem Is_any {w : World} {b : Nat} {a c : Int} (h : Sp w b a c) :
    Calls Tryz.prog 43 #[.iface 82 (.pointer (some ⟨b, 0, none⟩)), .iface 39 (.int .i64 c)] w fun e w' => e = .returned (.bool true) ∧ w = w' := by
  have h10 := @run_callFunc_extern Tryz.prog 77 _ ReflectliteType.typeOf Tryz.func77 (by kernel_rfl) (by kernel_rfl) (by kernel_rfl) (by kernel_rfl)
  have hC := @run_callFunc_extern Tryz.prog 148 _ cmpEntry Tryz.func148 (by kernel_rfl) (by kernel_rfl) (by kernel_rfl) (by kernel_rfl)
  have tO := Tryz.typeOfC
  have mC := Tryz.methodComparable
  have cC := Tryz.comparableC
  go_enter Tryz.func43, Tryz.ntmps43
  go_wp2_with (go_at_call 78; refine (is_any h).mono ?_; rintro e w' ⟨rfl, rfl⟩)
  go_ret
  exact ⟨rfl, rfl⟩
theorem infoSp : (Tryz.prog.info? 82).map (·.comparable) = some true := by kernel_rfl
theorem infoS : (Tryz.prog.info? 86).isSome = true := by kernel_rfl
theorem neq_spot (p : Addr) (w : World) : (binOp .neq 31 (.iface 82 (.pointer (some p))) (.iface 82 (.pointer (some p)))).run Tryz.prog w = .ok (.bool false) w := by
  obtain ⟨i, hi, hc⟩ := Option.map_eq_some_iff.1 infoSp
  obtain ⟨j, hj⟩ := Option.isSome_iff_exists.1 infoS
  simp only [binOp]
  simp [Op.equal, Op.maxDepth, run_equalIn_iface_ptr_same w 9998 p Tryz.underlying31 Tryz.underlying82 hi hc hj]
set_option maxHeartbeats 4000000 in
/-- treenaillaw00.Is at a Spot, asked for its own place and Code: yes. -/
theorem isAt {w : World} {b : Nat} {a c : Int} (h : Sp w b a c) (hg : Et w) :
    Calls Tryz.prog 9 #[.iface 82 (.pointer (some ⟨b, 0, none⟩)), .int .u64 a, .int .i64 c] w (AnsV (.bool true) w) := by
  have hg1 := hg.alloc (.cells #[.pointer none] 82)
  have ht : (w.alloc (.cells #[.pointer none] 82)).cell? ⟨w.heap.size, 0, none⟩ = some (.pointer none) := by simp
  have hf : (w.alloc (.cells #[.pointer none] 82)).frozen? ⟨w.heap.size, 0, none⟩ = false := by simp
  have ba : Below w.heap.size w (w.alloc (.cells #[.pointer none] 82)) := (Below.refl _ _).alloc (Nat.le_refl _) _
  have sz : (w.alloc (.cells #[.pointer none] 82)).heap.size = w.heap.size + 1 := by simp
  have h1 := h.below ba
  have HG := Lib.hid hg1
  have HT := Lib.hid ht
  have HF := Lib.hid hf
  have BA := Lib.hid ba
  have SZ := Lib.hid sz
  clear hg1 ht hf ba sz
  go_enter Tryz.func9, Tryz.ntmps9
  go_wp2_with fail
  refine (as_spot _ _ _ _ HG.out HT.out HF.out).mono ?_
  rintro e w2 ⟨rfl, w1, hb, rfl⟩
  have hlt : w.heap.size < w1.heap.size := by have := hb.size; have := SZ.out; omega
  have h2 := h1.below hb
  have hb0 := BA.out.trans (hb.mono BA.out.size)
  have hb1 := hb0.setCell (p := ⟨w.heap.size, 0, none⟩) (Nat.le_refl _) (.pointer (some ⟨b, 0, none⟩))
  have h3 : Sp (w1.setCell ⟨w.heap.size, 0, none⟩ (.pointer (some ⟨b, 0, none⟩))) b a c := h.below hb1
  have hcell : (w1.setCell ⟨w.heap.size, 0, none⟩ (.pointer (some ⟨b, 0, none⟩))).cell? ⟨w.heap.size, 0, none⟩ = some (.pointer (some ⟨b, 0, none⟩)) := by
    have h0 := (hb.cell (p := ⟨w.heap.size, 0, none⟩) (by have := SZ.out; show w.heap.size < _; omega)).trans HT.out
    exact World.cell?_setCell_same _ _ _ h0
  have HB1 := Lib.hid hb1
  generalize w1.setCell ⟨w.heap.size, 0, none⟩ (.pointer (some ⟨b, 0, none⟩)) = w3 at *
  clear h1 hb h2 hb0 hb1
  have c0 := h3.c0
  have c1 := h3.c1
  have q1 := neq_spot ⟨b, 0, none⟩
  have q2 := eql_code c c
  have q3 : ((a : Int) == a) = true := by simp
  have q4 : ((c : Int) == c) = true := by simp
  go_wp2_with (go_at_call 43; refine (Is_any h3).mono ?_; rintro e w' ⟨rfl, rfl⟩)
  go_ret
  exact ⟨by simp, HB1.out⟩
end Go.Proofs.YtloajnaphenbjaaGreatDoor
