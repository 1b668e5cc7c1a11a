/-
  A sequence of operations in a group, in memory: its one cell turns, all else stays. What do and the four operations answer.
-/
import Derived.Test.YtkecfdeepmhggaaPka
import Derived.Test.YtkecfdeepmhggaaMn
namespace Go.Proofs.Ytkecfdeepmhggaa
open Go.RowKit
set_option linter.unusedVariables false
/-- Nothing that was there has turned but block r. -/
structure Bo (r : Nat) (w w' : World) : Prop where
  os : w'.os = w.os
  tape : w'.tape = w.tape
  output : w'.output = w.output
  size : w.heap.size ≤ w'.heap.size
  block : ∀ k, k < w.heap.size → k ≠ r → w'.heap[k]? = w.heap[k]?
section
variable {r : Nat} {w w0 w1 w2 w' : World}
theorem Bo.refl (r : Nat) (w : World) : Bo r w w := ⟨rfl, rfl, rfl, Nat.le_refl _, fun _ _ _ => rfl⟩
theorem Bo.trans (h : Bo r w w1) (k : Bo r w1 w2) : Bo r w w2 :=
  ⟨k.os.trans h.os, k.tape.trans h.tape, k.output.trans h.output, Nat.le_trans h.size k.size, fun i hi hb => (k.block i (Nat.lt_of_lt_of_le hi h.size) hb).trans (h.block i hi hb)⟩
theorem Bo.of (r : Nat) (h : Below w.heap.size w w') : Bo r w w' := ⟨h.os, h.tape, h.output, h.size, fun k hk _ => h.block k hk⟩
theorem Bo.set (r i : Nat) (w : World) (v : Value) : Bo r w (w.setCell ⟨r, i, none⟩ v) := ⟨rfl, rfl, rfl, by simp, fun k hk hb => heap_setCell_other w _ k v hb⟩
theorem Bo.alloc (h : Bo r w w') (o : Obj) : Bo r w (w'.alloc o) := h.trans (Bo.of r ((Below.refl _ _).alloc (Nat.le_refl _) _))
theorem Bo.drew (h : Bo r w w') : Bo r w w'.drew := h.trans (Bo.of r (Below.refl _ _).drew)
theorem Bo.kept (h : Bo r w w') : Kept (fun k => k = r) w w' := ⟨h.size, fun k hk hb => h.block k hk hb⟩
/-- What was there ahead of a time stays where the block is newer. -/
theorem Bo.below (h : Bo r w w') (h0 : Below w0.heap.size w0 w) (hr : w0.heap.size ≤ r) : Below w0.heap.size w0 w' :=
  ⟨h.os.trans h0.os, h.tape.trans h0.tape, h.output.trans h0.output, Nat.le_trans h0.size h.size, fun k hk => (h.block k (Nat.lt_of_lt_of_le hk h0.size) (by omega)).trans (h0.block k hk)⟩
theorem Bo.cn {A : Option Addr} {n c : Nat} {N : Int} (h : Bo r w w') (hr : Cn w A n c N) (hx : ∀ a, A = some a → a.block ≠ r) : Cn w' A n c N :=
  ⟨h.kept.rd hr.rd (fun a ha _ => hx a ha), hr.nc, hr.c60, hr.pos⟩
theorem Bo.cell (h : Bo r w w') {p : Addr} (hp : p.block < w.heap.size) (hx : p.block ≠ r) : w'.cell? p = w.cell? p := h.kept.cell hp hx
end
/-- nil, or that something is no element. -/
def sqv (q : Bool) : Value := if q then .iface 51 (.int .i64 8) else .nilIface
section
variable {r b : Nat} {q : Bool} {w w' : World}
set_option maxRecDepth 100000 in
theorem sq_ne0 : ∀ w : World, (binOp .neq 29 .nilIface .nilIface).run Try.prog w = .ok (.bool false) w := fun _ => rfl
set_option maxRecDepth 100000 in
theorem sq_ne1 : ∀ w : World, (binOp .neq 29 (.iface 51 (.int .i64 8)) .nilIface).run Try.prog w = .ok (.bool true) w := fun _ => rfl
theorem sq_mk : ∀ (fn : Fn) (first cap : Array Value) (w : World), (Instr.makeFunc fn first cap).run Try.prog w = .ok (.func fn first cap) w := fun _ _ _ _ => rfl
/-! ### do -/
end
end Go.Proofs.Ytkecfdeepmhggaa
