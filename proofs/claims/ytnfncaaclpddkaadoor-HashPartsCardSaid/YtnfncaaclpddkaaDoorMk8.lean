/-
  A slice of bytes that is made: all noughts.
-/
import Derived.Test.YtnfncaaclpddkaaDoorOwn0
import Derived.Laws.BytesArg
namespace Go.Proofs.YtnfncaaclpddkaaDoor
open Go.RowKit
set_option linter.unusedVariables false
theorem info5 : (Tryd.prog.info? 5).map (fun i => (i.zero, i.size, i.bytes)) = some (some (.int .u8 0), 1, 1) := by kernel_rfl
theorem made8 (n : Nat) : madeCells (Value.cells (.int .u8 0)) (n * 1) = ((List.replicate n 0).map (Value.int .u8)).toArray := by
  apply Array.ext'
  rw [Nat.mul_one]
  show (madeCells #[Value.int .u8 0] n).toList = _
  rw [toList_madeCells_one]; simp
theorem run_make8 (n : Nat) {C : Int} (hC : C = n) (hn : n ≤ 35184372088832) (w : World) : (Instr.makeSlice 22 (.int .i64 C) (.int .i64 C)).run Tryd.prog w =
    .ok (.slice (some ⟨w.heap.size, 0, none⟩) n n) (w.alloc (.cells ((List.replicate n 0).map (Value.int .u8)).toArray 5)) := by
  subst hC
  obtain ⟨i0, hi, hz0, hz1, hz2⟩ := info_parts info5
  have hr := run_make (P := Tryd.prog) w 22 5 i0 (.int .u8 0) Tryd.underlying22 hi hz0 .i64 .i64 n n (by omega) (by omega) (by rw [hz2]; omega) (by omega)
  rw [hz1, made8] at hr
  simpa using hr
theorem run_make8c (n : Nat) {C : Int} (hC : C = n) (hn : n ≤ 35184372088832) (w : World) : (Instr.makeSlice 22 (.int .i64 0) (.int .i64 C)).run Tryd.prog w =
    .ok (.slice (some ⟨w.heap.size, 0, none⟩) 0 n) (w.alloc (.cells ((List.replicate n 0).map (Value.int .u8)).toArray 5)) := by
  subst hC
  obtain ⟨i0, hi, hz0, hz1, hz2⟩ := info_parts info5
  have hr := run_make (P := Tryd.prog) w 22 5 i0 (.int .u8 0) Tryd.underlying22 hi hz0 .i64 .i64 0 n (by omega) (by omega) (by rw [hz2]; omega) (by omega)
  rw [hz1, made8] at hr
  simpa using hr
end Go.Proofs.YtnfncaaclpddkaaDoor
