/-
  A sequence of operations in a group, in memory: its one cell turns, all else stays. What do and the four operations answer.
-/
import Derived.Test.YtpmnghealjgkeaaGreatPka
import Derived.Test.YtpmnghealjgkeaaGreatMn
namespace Go.Proofs.YtpmnghealjgkeaaGreat
open Go.RowKit
set_option linter.unusedVariables false
/-- Nothing that was there has turned but block r. -/
structure Bo (r : Nat) (w w' : World) : Prop where
  os : w'.os = w.os
  tape : w'.tape = w.tape
  output : w'.output = w.output
  size : w.heap.size ≤ w'.heap.size
  block : ∀ k, k < w.heap.size → k ≠ r → w'.heap[k]? = w.heap[k]?
section
variable {r : Nat} {w w0 w1 w2 w' : World}
theorem Bo.refl (r : Nat) (w : World) : Bo r w w := ⟨rfl, rfl, rfl, Nat.le_refl _, fun _ _ _ => rfl⟩
theorem Bo.trans (h : Bo r w w1) (k : Bo r w1 w2) : Bo r w w2 :=
  ⟨k.os.trans h.os, k.tape.trans h.tape, k.output.trans h.output, Nat.le_trans h.size k.size, fun i hi hb => (k.block i (Nat.lt_of_lt_of_le hi h.size) hb).trans (h.block i hi hb)⟩
theorem Bo.of (r : Nat) (h : Below w.heap.size w w') : Bo r w w' := ⟨h.os, h.tape, h.output, h.size, fun k hk _ => h.block k hk⟩
theorem Bo.set (r i : Nat) (w : World) (v : Value) : Bo r w (w.setCell ⟨r, i, none⟩ v) := ⟨rfl, rfl, rfl, by simp, fun k hk hb => heap_setCell_other w _ k v hb⟩
theorem Bo.alloc (h : Bo r w w') (o : Obj) : Bo r w (w'.alloc o) := h.trans (Bo.of r ((Below.refl _ _).alloc (Nat.le_refl _) _))
theorem Bo.drew (h : Bo r w w') : Bo r w w'.drew := h.trans (Bo.of r (Below.refl _ _).drew)
theorem Bo.kept (h : Bo r w w') : Kept (fun k => k = r) w w' := ⟨h.size, fun k hk hb => h.block k hk hb⟩
/-- What was there ahead of a time stays where the block is newer. -/
theorem Bo.below (h : Bo r w w') (h0 : Below w0.heap.size w0 w) (hr : w0.heap.size ≤ r) : Below w0.heap.size w0 w' :=
  ⟨h.os.trans h0.os, h.tape.trans h0.tape, h.output.trans h0.output, Nat.le_trans h0.size h.size, fun k hk => (h.block k (Nat.lt_of_lt_of_le hk h0.size) (by omega)).trans (h0.block k hk)⟩
theorem Bo.cn {A : Option Addr} {n c : Nat} {N : Int} (h : Bo r w w') (hr : Cn w A n c N) (hx : ∀ a, A = some a → a.block ≠ r) : Cn w' A n c N :=
  ⟨h.kept.rd hr.rd (fun a ha _ => hx a ha), hr.nc, hr.c60, hr.pos⟩
theorem Bo.cell (h : Bo r w w') {p : Addr} (hp : p.block < w.heap.size) (hx : p.block ≠ r) : w'.cell? p = w.cell? p := h.kept.cell hp hx
end
/-- nil, or that something is no element. -/
def sqv (q : Bool) : Value := if q then .iface 80 (.int .i64 8) else .nilIface
/-- A sequence, in block r, over the group in block b; q: an operation has failed. -/
structure Sq (w : World) (r b : Nat) (q : Bool) : Prop where
  lt : r < w.heap.size
  row : w.heap[r]? = some (.cells #[.pointer (some ⟨b, 0, none⟩), sqv q] 90 (0, 0))
section
variable {r b : Nat} {q : Bool} {w w' : World}
theorem Sq.c0 (h : Sq w r b q) : w.cell? ⟨r, 0, none⟩ = some (.pointer (some ⟨b, 0, none⟩)) := cell_of_row w r 0 _ _ _ h.row
theorem Sq.c1 (h : Sq w r b q) : w.cell? ⟨r, 1, none⟩ = some (sqv q) := cell_of_row w r 1 _ _ _ h.row
theorem Sq.fz (h : Sq w r b q) (i : Nat) : w.frozen? ⟨r, i, none⟩ = false := frozen_of_row w r i _ _ h.row
theorem Sq.below (h : Sq w r b q) (hb : Below w.heap.size w w') : Sq w' r b q := ⟨Nat.lt_of_lt_of_le h.lt hb.size, (hb.block r h.lt).trans h.row⟩
theorem Sq.set (h : Sq w r b q) (q' : Bool) : Sq (w.setCell ⟨r, 1, none⟩ (sqv q')) r b q' :=
  ⟨by simpa using h.lt, by rw [heap_setCell_same w r 1 _ _ _ h.row]; rfl⟩
/-- What an operation of a sequence answers. -/
def OpP (r b : Nat) (q' : Bool) (N : Int) (w : World) (e : Ending) (w' : World) : Prop :=
  ∃ A n c, e = .returned (.slice A n c) ∧ (q' = false → Cn w' A n c N) ∧ (∀ a, A = some a → w.heap.size ≤ a.block) ∧ Sq w' r b q' ∧ Bo r w w'
set_option maxRecDepth 100000 in
theorem sq_ne0 : ∀ w : World, (binOp .neq 35 .nilIface .nilIface).run Tryz.prog w = .ok (.bool false) w := fun _ => rfl
set_option maxRecDepth 100000 in
theorem sq_ne1 : ∀ w : World, (binOp .neq 35 (.iface 80 (.int .i64 8)) .nilIface).run Tryz.prog w = .ok (.bool true) w := fun _ => rfl
theorem sq_mk : ∀ (fn : Fn) (first cap : Array Value) (w : World), (Instr.makeFunc fn first cap).run Tryz.prog w = .ok (.func fn first cap) w := fun _ _ _ _ => rfl
/-! ### do -/
theorem do_bad (h : Sq w r b true) (f : Value) (N : Int) : Calls Tryz.prog 123 #[.pointer (some ⟨r, 0, none⟩), f] w (OpP r b true N w) := by
  have c1 : w.cell? ⟨r, 1, none⟩ = some (.iface 80 (.int .i64 8)) := h.c1
  have HS := Lib.hid h
  have he := sq_ne1
  clear h
  go_enter Tryz.func123, Tryz.ntmps123
  go_wp2_with fail
  go_ret
  exact ⟨none, 0, 0, rfl, fun g => (by cases g), fun a g => (by cases g), HS.out, Bo.refl _ _⟩
set_option maxRecDepth 100000 in
theorem do_ok (h : Sq w r b false) {k : Nat} {caps : Array Value} {N : Int} (hF : Calls Tryz.prog k caps w (Ans N w)) (hent : ∀ (xs : Array Value) (W : World), (callFunc k xs).run Tryz.prog W = .ok (.enter k xs) W) :
    Calls Tryz.prog 123 #[.pointer (some ⟨r, 0, none⟩), .func (.func k) #[] caps] w (OpP r b false N w) := by
  have c1 : w.cell? ⟨r, 1, none⟩ = some .nilIface := h.c1
  have HL := Lib.hid h.lt
  have HS := Lib.hid h
  have HF := Lib.hid hF
  have he := sq_ne0
  clear h hF
  go_enter Tryz.func123, Tryz.ntmps123
  go_wp2_with fail
  refine HF.out.mono ?_
  rintro e w1 ⟨A, n, c, rfl, hc, hb, hn⟩
  have HS1 := Lib.hid (HS.out.below hb)
  have HC := Lib.hid hc
  have HN := Lib.hid hn
  have HB := Lib.hid (Bo.of r hb)
  have fz := (HS.out.below hb).fz 1
  have c1' := (HS.out.below hb).c1
  clear hc hn hb HS HF c1 he
  go_wp2_with fail
  go_ret
  have hb2 : Bo r w1 _ := Bo.set r 1 w1 .nilIface
  exact ⟨A, n, c, rfl, fun _ => hb2.cn HC.out (fun a ha => by have := HN.out a ha; have := HL.out; omega), HN.out, HS1.out.set false, HB.out.trans hb2⟩
set_option maxRecDepth 100000 in
theorem do_no (h : Sq w r b false) {k : Nat} {caps : Array Value} (N : Int) (hF : Calls Tryz.prog k caps w (Err1 8 w)) (hent : ∀ (xs : Array Value) (W : World), (callFunc k xs).run Tryz.prog W = .ok (.enter k xs) W) :
    Calls Tryz.prog 123 #[.pointer (some ⟨r, 0, none⟩), .func (.func k) #[] caps] w (OpP r b true N w) := by
  have c1 : w.cell? ⟨r, 1, none⟩ = some .nilIface := h.c1
  have HL := Lib.hid h.lt
  have HS := Lib.hid h
  have HF := Lib.hid hF
  have he := sq_ne0
  clear h hF
  go_enter Tryz.func123, Tryz.ntmps123
  go_wp2_with fail
  refine HF.out.mono ?_
  rintro e w1 ⟨rfl, hb⟩
  have HS1 := Lib.hid (HS.out.below hb)
  have HB := Lib.hid (Bo.of r hb)
  have fz := (HS.out.below hb).fz 1
  have c1' := (HS.out.below hb).c1
  clear hb HS HF c1 he
  go_wp2_with fail
  go_ret
  have hb2 : Bo r w1 _ := Bo.set r 1 w1 (.iface 80 (.int .i64 8))
  exact ⟨none, 0, 0, rfl, fun g => (by cases g), fun a g => (by cases g), HS1.out.set true, HB.out.trans hb2⟩
end
end Go.Proofs.YtpmnghealjgkeaaGreat
