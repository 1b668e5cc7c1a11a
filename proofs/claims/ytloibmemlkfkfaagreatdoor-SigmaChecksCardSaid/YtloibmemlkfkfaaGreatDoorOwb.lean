/-
  A list of the call's own of slices of bytes, that grows by append: as parts.
-/
import Derived.Test.YtloibmemlkfkfaaGreatDoorMxx
import Derived.Test.YtloibmemlkfkfaaGreatDoorFrm
namespace Go.Proofs.YtloibmemlkfkfaaGreatDoor
open Go.RowKit
set_option linter.unusedVariables false
/-- A slice of bytes. -/
structure Bsl where
  A : Option Addr
  c : Nat
  xs : List Int
theorem Rd.stay {k : IntKind} {w w' : World} {A : Option Addr} {n : Nat} {xs : List Int} (h : Rd k w A n xs) (hs : w.heap.size ≤ w'.heap.size) (hb : ∀ b, BlN A n b → w'.heap[b]? = w.heap[b]?) : Rd k w' A n xs :=
  ⟨h.len, fun hn => by
    obtain ⟨b, off, e, hl, hc⟩ := h.cells hn
    exact ⟨b, off, e, Nat.lt_of_lt_of_le hl hs, fun j x hj => (World.cell?_of_block (a := ⟨b, off + j, none⟩) (hb b ⟨_, e, hn, rfl⟩)).trans (hc j x hj)⟩⟩
theorem Rd.blt_ {k : IntKind} {w : World} {A : Option Addr} {n : Nat} {xs : List Int} (h : Rd k w A n xs) {b : Nat} (hb : BlN A n b) : b < w.heap.size := by
  obtain ⟨a, e, hn, rfl⟩ := hb
  obtain ⟨b, off, e2, hl, -⟩ := h.cells hn
  rw [e2] at e
  injection e with e
  rw [← e]
  exact hl
/-- Slices of bytes. -/
def kBy : Kd Bsl := ⟨fun s => .slice s.A s.xs.length s.c, fun w s => Bz w s.A s.xs.length s.xs, fun s b => BlN s.A s.xs.length b, fun _ => rfl, fun h g => Rd.blt_ h.rd g, fun h hs g => ⟨Rd.stay h.rd hs g, h.dig_⟩⟩
theorem Owg.pts {e : TypeId} {w : World} {base : Nat} {v : Value} {n : Nat} {S : Nat → Bsl} (h : Owg kBy e w base v n S) : ∃ A c, v = .slice A n c ∧ (∀ a, A = some a → base ≤ a.block) ∧ Pts w A n c ((List.range n).map fun i => (S i).xs) := by
  obtain ⟨A, c, rfl, hnc, hb, hc⟩ := h.form
  refine ⟨A, c, rfl, hb, by simp, hnc, fun hn => ?_⟩
  obtain ⟨g, eg, hl, hx⟩ := hc hn
  exact ⟨g, 0, eg, hl, fun j hj => ⟨(S j).A, (S j).c, (S j).xs, by simp [hj], by rw [Nat.zero_add]; exact hx j hj, h.at_ j hj⟩⟩
end Go.Proofs.YtloibmemlkfkfaaGreatDoor
