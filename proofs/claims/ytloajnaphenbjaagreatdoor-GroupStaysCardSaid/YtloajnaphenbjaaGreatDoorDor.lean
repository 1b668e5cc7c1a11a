/-
  Several texts in one: Err, Et, CodeE, SameE.
-/
import Derived.Test.YtloajnaphenbjaaGreatDoorLit
import Derived.Stop.Asserts
import Derived.RowKitTokens
import Derived.Test.YtloajnaphenbjaaGreatDoorKit0
/-
  Errors that are Codes, held against one another: what treenaillaw00.Code and Same answer. errors.As is walked through, at a target that is a Spot's.
-/
namespace Go.Proofs.YtloajnaphenbjaaGreatDoor
open Go.RowKit Go.Extern.Stop Go.Stop Go.Extern
set_option linter.unusedVariables false
theorem Tryz.valueOfS (t : Addr) (w : World) : (ReflectliteValue.unpack (.iface 84 (.pointer (some t)))).run Tryz.prog w
    = .ok (.agg #[.pointer (some ⟨3, 84, none⟩), .pointer (some ⟨w.heap.size, 0, none⟩), .int .u64 150]) (w.alloc (.cells #[.pointer (some t)] 84)) := by kernel_rfl
theorem Tryz.typeS (a : Addr) (w : World) : (ReflectliteValue.methodAny (ReflectliteValue.valueError "reflectlite.Value.Type" 0) (fun t _ _ _ => ReflectliteType.toType t) #[.agg #[.pointer (some ⟨3, 84, none⟩), .pointer (some a), .int .u64 150]]).run Tryz.prog w
    = .ok (.iface 142 (.agg #[.pointer (some ⟨3, 84, none⟩)])) w := by kernel_rfl
theorem Tryz.methodKind (h : Value) (w : World) : (Go.method 298 142 (.agg #[h]) "Kind").run Tryz.prog w = .ok (137, h) w := by kernel_rfl
theorem Tryz.kindSS (w : World) : ((ReflectliteType.abiMethod fun t => (fun a : Nat => Value.int IntKind.u8 (a : Int)) <$> Rtype.kind t) #[.pointer (some ⟨3, 84, none⟩)]).run Tryz.prog w = .ok (.int .u8 22) w := by kernel_rfl
theorem Tryz.kindS (w : World) : ((ReflectliteType.abiMethod fun t => (fun a : Nat => Value.int IntKind.u8 (a : Int)) <$> Rtype.kind t) #[.pointer (some ⟨3, 82, none⟩)]).run Tryz.prog w = .ok (.int .u8 22) w := by kernel_rfl
theorem rlm (z : Sem Value) (f : TypeId → Addr → Nat → Nat → Sem Value) (v : Value) :
    ReflectliteValue.method z f #[v] = (do match ← ReflectliteValue.parts v with | none => z | some (t, a, fl) => f t a fl (fl % 32)) := rfl
theorem Tryz.partsSS (a : Addr) (w : World) : (ReflectliteValue.parts (.agg #[.pointer (some ⟨3, 84, none⟩), .pointer (some a), .int .u64 150])).run Tryz.prog w = .ok (some (84, a, 150)) w := by kernel_rfl
theorem Tryz.isNilSS (a p : Addr) (W : World) (ha : W.cell? a = some (.pointer (some p))) :
    (ReflectliteValue.method (ReflectliteValue.valueError "reflectlite.Value.IsNil" 0) ReflectliteValue.isNil #[.agg #[.pointer (some ⟨3, 84, none⟩), .pointer (some a), .int .u64 150]]).run Tryz.prog W = .ok (.bool false) W := by
  rw [rlm]
  simp only [Sem.run_bind, Tryz.partsSS, Result.andThen]
  simp [ReflectliteValue.isNil, loadVar, isAgg, underlying, Tryz.underlying84, ha, Result.andThen]
theorem Tryz.methodElem (h : Value) (w : World) : (Go.method 298 142 (.agg #[h]) "Elem").run Tryz.prog w = .ok (149, .agg #[h]) w := by kernel_rfl
theorem Tryz.methodImplements (h : Value) (w : World) : (Go.method 298 142 (.agg #[h]) "Implements").run Tryz.prog w = .ok (150, .agg #[h]) w := by kernel_rfl
theorem Tryz.methodAssignableTo (h : Value) (w : World) : (Go.method 298 142 (.agg #[h]) "AssignableTo").run Tryz.prog w = .ok (147, .agg #[h]) w := by kernel_rfl
theorem Tryz.elemSS (w : World) : (ReflectliteType.method ReflectliteType.elem #[.agg #[.pointer (some ⟨3, 84, none⟩)]]).run Tryz.prog w = .ok (.iface 142 (.agg #[.pointer (some ⟨3, 82, none⟩)])) w := by kernel_rfl
theorem Tryz.implementsS (w : World) : (ReflectliteType.relation "Implements" ReflectliteType.implements_ #[.agg #[.pointer (some ⟨3, 82, none⟩)], .iface 142 (.agg #[.pointer (some ⟨3, 31, none⟩)])]).run Tryz.prog w = .ok (.bool true) w := by kernel_rfl
theorem Tryz.typeOfC (v : Value) (w : World) : (ReflectliteType.typeOf #[.iface 39 v]).run Tryz.prog w = .ok (.iface 142 (.agg #[.pointer (some ⟨3, 39, none⟩)])) w := by kernel_rfl
theorem Tryz.assignableC (w : World) : (ReflectliteType.relation "AssignableTo" ReflectliteType.assignableTo #[.agg #[.pointer (some ⟨3, 39, none⟩)], .iface 142 (.agg #[.pointer (some ⟨3, 82, none⟩)])]).run Tryz.prog w = .ok (.bool false) w := by kernel_rfl
theorem Tryz.noAs (v : Value) (xT : TypeId) (w : World) : (Instr.typeAssert (.iface 39 v) xT 146 true).run Tryz.prog w = .ok (.tuple #[.nilIface, .bool false]) w :=
  run_typeAssert_lacksB Tryz.underlying146 (by kernel_rfl) (by kernel_rfl) v xT w
theorem Tryz.noUn (v : Value) (xT : TypeId) (w : World) : (Instr.typeAssert (.iface 39 v) xT 149 true).run Tryz.prog w = .ok (.tuple #[.nilIface, .bool false]) w :=
  run_typeAssert_lacksB Tryz.underlying149 (by kernel_rfl) (by kernel_rfl) v xT w
theorem Tryz.noUns (v : Value) (xT : TypeId) (w : World) : (Instr.typeAssert (.iface 39 v) xT 151 true).run Tryz.prog w = .ok (.tuple #[.nilIface, .bool false]) w :=
  run_typeAssert_lacksB Tryz.underlying151 (by kernel_rfl) (by kernel_rfl) v xT w
/-- What errors.errorType holds. -/
def Et (w : World) : Prop := w.cell? ⟨0, 0, none⟩ = some (.iface 142 (.agg #[.pointer (some ⟨3, 31, none⟩)]))
theorem Et.pos {w : World} (h : Et w) : 0 < w.heap.size := by
  unfold Et at h
  rcases Nat.lt_or_ge 0 w.heap.size with h' | h'
  · exact h'
  · simp [World.cell?, Array.getElem?_eq_none h'] at h
theorem Et.alloc {w : World} (h : Et w) (o : Obj) : Et (w.alloc o) := by
  have := h.pos
  unfold Et at *
  rw [World.cell?_alloc_lt _ _ ⟨_, 0, none⟩ this]; exact h
set_option maxHeartbeats 4000000 in
/-- errors.As at a Code, asked for a Spot: no; only new memory. -/
theorem as_code (v : Value) (t : Addr) (w : World) (hg : Et w) (ht0 : w.cell? t = some (.pointer none)) :
    Calls Tryz.prog 42 #[.iface 39 v, .iface 84 (.pointer (some t))] w fun ev w' => ev = .returned (.bool false) ∧ Below w.heap.size w w' := by
  have h6 := @run_callFunc_extern Tryz.prog 73 _ (fun args => ReflectliteValue.unpack (args.getD 0 (.tuple #[]))) Tryz.func73 (by kernel_rfl) (by kernel_rfl) (by kernel_rfl) (by kernel_rfl)
  have h7 := @run_callFunc_extern Tryz.prog 74 _ (ReflectliteValue.methodAny (ReflectliteValue.valueError "reflectlite.Value.Type" 0) (fun t _ _ _ => ReflectliteType.toType t)) Tryz.func74 (by kernel_rfl) (by kernel_rfl) (by kernel_rfl) (by kernel_rfl)
  have h8 := @run_callFunc_extern Tryz.prog 75 _ (ReflectliteValue.method (ReflectliteValue.valueError "reflectlite.Value.IsNil" 0) ReflectliteValue.isNil) Tryz.func75 (by kernel_rfl) (by kernel_rfl) (by kernel_rfl) (by kernel_rfl)
  have h27 := @run_callFunc_extern Tryz.prog 137 _ (ReflectliteType.abiMethod fun t => do pure (.int .u8 (← Rtype.kind t))) Tryz.func137 (by kernel_rfl) (by kernel_rfl) (by kernel_rfl) (by kernel_rfl)
  have h37 := @run_callFunc_extern Tryz.prog 149 _ (ReflectliteType.method ReflectliteType.elem) Tryz.func149 (by kernel_rfl) (by kernel_rfl) (by kernel_rfl) (by kernel_rfl)
  have h38 := @run_callFunc_extern Tryz.prog 150 _ (ReflectliteType.relation "Implements" ReflectliteType.implements_) Tryz.func150 (by kernel_rfl) (by kernel_rfl) (by kernel_rfl) (by kernel_rfl)
  have h10 := @run_callFunc_extern Tryz.prog 77 _ ReflectliteType.typeOf Tryz.func77 (by kernel_rfl) (by kernel_rfl) (by kernel_rfl) (by kernel_rfl)
  have h35 := @run_callFunc_extern Tryz.prog 147 _ (ReflectliteType.relation "AssignableTo" ReflectliteType.assignableTo) Tryz.func147 (by kernel_rfl) (by kernel_rfl) (by kernel_rfl) (by kernel_rfl)
  have tO := Tryz.typeOfC
  have mA := Tryz.methodAssignableTo
  have aC := Tryz.assignableC
  have f6 := Tryz.valueOfS
  have f7 := Tryz.typeS
  have mK := Tryz.methodKind
  have mE := Tryz.methodElem
  have mI := Tryz.methodImplements
  have k27 := Tryz.kindSS
  have k25 := Tryz.kindS
  have e27 := Tryz.elemSS
  have i25 := Tryz.implementsS
  have nA := Tryz.noAs
  have nU := Tryz.noUn
  have nS := Tryz.noUns
  have n8 := Tryz.isNilSS ⟨w.heap.size, 0, none⟩ t ((w.alloc (.cells #[.pointer (some t)] 84)).alloc (.cells #[.pointer (some ⟨3, 84, none⟩), .pointer (some ⟨w.heap.size, 0, none⟩), .int .u64 150] 113)) (by simp)
  have hg2 : ((w.alloc (.cells #[.pointer (some t)] 84)).alloc (.cells #[.pointer (some ⟨3, 84, none⟩), .pointer (some ⟨w.heap.size, 0, none⟩), .int .u64 150] 113)).cell? ⟨0, 0, none⟩ = some (.iface 142 (.agg #[.pointer (some ⟨3, 31, none⟩)])) := (hg.alloc _).alloc _
  go_enter Tryz.func42, Tryz.ntmps42
  go_wp2
  refine wp_loop_rounds 1 ?_
  rw [rounds_succ]
  go_wp2
  go_ret
  refine ⟨rfl, ?_⟩
  exact (((Below.refl _ _).alloc (Nat.le_refl _) _).alloc (by simp) _).alloc (by simp; omega) _
end Go.Proofs.YtloajnaphenbjaaGreatDoor
/-
  What is known of errors' own variable stays.
-/
namespace Go.Proofs.YtloajnaphenbjaaGreatDoor
open Go.RowKit
set_option linter.unusedVariables false
theorem Et.below {w w' : World} (h : Et w) (hb : Below w.heap.size w w') : Et w' := by
  have := h.pos
  unfold Et at *
  exact (hb.cell (p := ⟨_, 0, none⟩) this).trans h
end Go.Proofs.YtloajnaphenbjaaGreatDoor
/-
  The number of an error that is a Code.
-/
namespace Go.Proofs.YtloajnaphenbjaaGreatDoor
open Go.RowKit
set_option linter.unusedVariables false
theorem code_any (c : Int) (h1 : 1 ≤ c) (h2 : c ≤ 15) (w : World) : Calls Tryz.prog 10 #[.iface 39 (.int .i64 c)] w fun e w' => e = .returned (.int .i64 c) ∧ w = w' := by
  go_enter Tryz.func10, Tryz.ntmps10
  go_wp2_with fail
  go_loop [3] (fun t => ∃ k : Int, t = .int .i64 k ∧ 1 ≤ k ∧ k ≤ c) (fun t => (c - intOf t).toNat)
  case atStart => exact ⟨1, rfl, by omega, h1⟩
  case round =>
    obtain ⟨k, rfl, hk1, hk2⟩ := hrel
    have q1 := eql_code c k
    have hk15 : k ≤ 15 := by omega
    by_cases hck : k = c
    · subst hck
      go_wp2
      go_ret
      exact ⟨rfl, rfl⟩
    · have hb : (c == k) = false := by simp; omega
      rw [hb] at q1
      have hw : IntKind.i64.wrap (k + 1) = k + 1 := IntWalk.i64_in _ (by omega)
      go_wp2
      exact ⟨⟨k + 1, rfl, by omega, by omega⟩, by simp [intOf]; omega⟩
end Go.Proofs.YtloajnaphenbjaaGreatDoor
/-
  Whether two errors are alike: none, or one Code.
-/
namespace Go.Proofs.YtloajnaphenbjaaGreatDoor
open Go.RowKit
set_option linter.unusedVariables false
/-- Same: none and none. -/
theorem same_nil (w : World) : Calls Tryz.prog 24 #[.nilIface, .nilIface] w (AnsV (.bool true) w) := by
  go_enter Tryz.func24, Tryz.ntmps24
  go_wp2_with fail
  go_ret
  exact ⟨rfl, Below.refl _ _⟩
set_option maxHeartbeats 4000000 in
/-- Same: one Code and itself. -/
theorem same_code (c : Int) (h1 : 1 ≤ c) (h2 : c ≤ 15) (w : World) (hg : Et w) : Calls Tryz.prog 24 #[.iface 39 (.int .i64 c), .iface 39 (.int .i64 c)] w (AnsV (.bool true) w) := by
  have hg1 := hg.alloc (.cells #[.pointer none] 82)
  have ht : (w.alloc (.cells #[.pointer none] 82)).cell? ⟨w.heap.size, 0, none⟩ = some (.pointer none) := by simp
  go_enter Tryz.func24, Tryz.ntmps24
  go_wp2_with fail
  refine (as_code _ _ _ hg1 ht).mono ?_
  rintro e w1 ⟨rfl, hb⟩
  have hb := below_one hb
  clear hg1 ht
  go_wp2_with (go_at_call 10; refine (code_any c h1 h2 _).mono ?_; rintro e w' ⟨rfl, rfl⟩)
  go_ret
  exact ⟨show Ending.returned (.bool (decide (0 < c))) = _ by simp; omega, hb⟩
end Go.Proofs.YtloajnaphenbjaaGreatDoor
