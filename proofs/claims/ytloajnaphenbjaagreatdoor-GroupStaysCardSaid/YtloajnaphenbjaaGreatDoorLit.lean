/-
  Numbers of one digit in new memory, errors that are Codes, what a walk says of the world.
-/
import Derived.Test.YtloajnaphenbjaaGreatDoorNorm
import Derived.Test.YtloajnaphenbjaaGreatDoorSub
import Derived.LaidEql
namespace Go
section
variable {P : Program} (w : World)
theorem run_equalIn_iface_int (d : Nat) {ti tn : TypeId} {ms : Array (String × TypeId)} {i : TypeInfo} {k : IntKind} (a b : Int)
    (hi : P.underlying ti = some (.interface ms)) (hn : P.underlying tn = some (.int k)) (hinfo : P.info? tn = some i) (hcomp : i.comparable = true) :
    (Op.equalIn (d + 2) ti (.iface tn (.int k a)) (.iface tn (.int k b))).run P w = .ok (a == b) w := by
  simp [Op.equalIn, run_underlying hi, run_underlying hn, typeInfo, hinfo, hcomp]
/-- Two interface values of one integer type: as the numbers are. -/
theorem run_eql_iface_int {ti tn : TypeId} {ms : Array (String × TypeId)} {i : TypeInfo} {k : IntKind} (a b : Int)
    (hi : P.underlying ti = some (.interface ms)) (hn : P.underlying tn = some (.int k)) (hinfo : P.info? tn = some i) (hcomp : i.comparable = true) :
    (binOp .eql ti (.iface tn (.int k a)) (.iface tn (.int k b))).run P w = .ok (.bool (a == b)) w := by
  simp only [binOp]
  simp [Op.equal, Op.maxDepth, run_equalIn_iface_int w 9998 a b hi hn hinfo hcomp]
end
end Go
namespace Go.Proofs.YtloajnaphenbjaaGreatDoor
open Go.RowKit
set_option linter.unusedVariables false
theorem comp32 : (Tryz.prog.info? 39).map (·.comparable) = some true := by kernel_rfl
/-- Two errors that are Codes. -/
theorem eql_code (a b : Int) (w : World) : (binOp .eql 31 (.iface 39 (.int .i64 a)) (.iface 39 (.int .i64 b))).run Tryz.prog w = .ok (.bool (a == b)) w := by
  have h := comp32
  cases hi : Tryz.prog.info? 39 with
  | none => rw [hi] at h; cases h
  | some i =>
    rw [hi] at h
    exact run_eql_iface_int w a b Tryz.underlying31 Tryz.underlying39 hi (by simpa using h)
theorem lit_one (w : World) (x : Int) (h0 : 0 ≤ x) (h1 : x < W) : Nm (w.alloc (.cells #[.int .u64 x] 38)) (some ⟨w.heap.size, 0, none⟩) 1 1 x :=
  Nm.one (show Row _ _ _ _ [x] from Row.new w 38 .u64 [x]) h0 h1 (Nat.le_refl _) (by omega)
theorem lit_two (w : World) (x y : Int) (h0 : 0 ≤ x) (h1 : x < W) (k0 : 0 ≤ y) (k1 : y < W) :
    Nm ((w.alloc (.cells #[.int .u64 x] 38)).alloc (.cells #[.int .u64 y] 38)) (some ⟨w.heap.size, 0, none⟩) 1 1 x ∧
    Nm ((w.alloc (.cells #[.int .u64 x] 38)).alloc (.cells #[.int .u64 y] 38)) (some ⟨w.heap.size + 1, 0, none⟩) 1 1 y := by
  refine ⟨(lit_one w x h0 h1).alloc _, ?_⟩
  have h := lit_one (w.alloc (.cells #[.int .u64 x] 38)) y k0 k1
  have e : (w.alloc (.cells #[.int .u64 x] 38)).heap.size = w.heap.size + 1 := by simp
  rw [e] at h
  exact h
theorem dl_small {x : Int} (h0 : 0 ≤ x) (h1 : x < W) : dl x ≤ 64 := by
  have := dl_le h0 (k := 1) (by simpa [Int.pow_succ] using h1)
  omega
theorem dg_one {x : Int} (h0 : 1 ≤ x) (h1 : x < W) : dg W x = [x] := by
  rw [dg_pos W_two (by omega), Int.emod_eq_of_lt (by omega) h1, Int.ediv_eq_zero_of_lt (by omega) h1, dg_zero]
theorem cn_one {w : World} {B : Option Addr} {m cap : Nat} {x : Int} (h : Cn w B m cap x) (h0 : 1 ≤ x) (h1 : x < W) : m = 1 ∧ ∃ b off, B = some ⟨b, off, none⟩ ∧ b < w.heap.size ∧ w.cell? ⟨b, off, none⟩ = some (.int .u64 x) := by
  have hr := h.rd
  rw [dg_one h0 h1] at hr
  have hl := hr.len
  simp at hl
  subst hl
  obtain ⟨b, off, y, e, hb, hy, hc⟩ := hr.at_ (j := 0) (by omega)
  simp at hy
  subst hy
  exact ⟨rfl, b, off, e, hb, hc⟩
theorem below_one {w w' : World} {o : Obj} (h : Below (w.alloc o).heap.size (w.alloc o) w') : Below w.heap.size w w' :=
  ((Below.refl _ _).alloc (Nat.le_refl _) _).trans (h.mono (by simp))
theorem below_two {w w' : World} {o o' : Obj} (h : Below ((w.alloc o).alloc o').heap.size ((w.alloc o).alloc o') w') : Below w.heap.size w w' := below_one (below_one h)
/-- The value v was answered; nothing that was there has turned. -/
def AnsV (v : Value) (w : World) (e : Ending) (w' : World) : Prop := e = .returned v ∧ Below w.heap.size w w'
end Go.Proofs.YtloajnaphenbjaaGreatDoor
