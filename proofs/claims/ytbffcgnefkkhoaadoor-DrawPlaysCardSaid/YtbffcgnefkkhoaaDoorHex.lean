/-
  What the law's hex, cut and number answer.
-/
import Derived.Test.YtbffcgnefkkhoaaDoorPkd
import Derived.Test.YtbffcgnefkkhoaaDoorRnu
import Derived.Deep.QuietTactic
import Derived.BigQuiet
import Derived.Laws.Strings2
namespace Go.Proofs.YtbffcgnefkkhoaaDoor
open Go.RowKit
set_option linter.unusedVariables false
def hd (x : Int) : Int := if x < 10 then 48 + x else 87 + x
/-- Bytes by their digits. -/
def hexL (l : List Int) : List Int := l.flatMap fun b => [hd (b / 16), hd (b % 16)]
theorem hexL_snoc (l : List Int) (b : Int) : hexL (l ++ [b]) = hexL l ++ [hd (b / 16), hd (b % 16)] := by simp [hexL]
theorem hexL_len (l : List Int) : (hexL l).length = 2 * l.length := by
  induction l with
  | nil => rfl
  | cons x l ih => simp only [hexL, List.flatMap_cons, List.length_append, List.length_cons, List.length_nil] at ih ⊢; omega
theorem strOfNums_append (a b : List Int) : strOfNums (a ++ b) = strOfNums a ++ strOfNums b := by
  apply ByteArray.ext
  simp [strOfNums]
def hexS (l : List Int) : ByteArray := strOfNums (hexL l)
def digs : ByteArray := ⟨#[48, 49, 50, 51, 52, 53, 54, 55, 56, 57, 97, 98, 99, 100, 101, 102]⟩
theorem digs_hd {i : Nat} (h : i < 16) : (ByteArray.mk #[48, 49, 50, 51, 52, 53, 54, 55, 56, 57, 97, 98, 99, 100, 101, 102]).extract i (i + 1) = strOfNums [hd (i : Int)] := by
  have h : ∀ i, i < 16 → (ByteArray.mk #[48, 49, 50, 51, 52, 53, 54, 55, 56, 57, 97, 98, 99, 100, 101, 102]).extract i (i + 1) = strOfNums [hd (i : Int)] := by decide +kernel
  exact h i ‹_›
theorem slice_digs {i : Nat} (h : i < 16) (w : World) : (Instr.slice 9 (.string ⟨#[48, 49, 50, 51, 52, 53, 54, 55, 56, 57, 97, 98, 99, 100, 101, 102]⟩) (some (.int .u8 (i : Int))) (some (.int .u8 ((i : Int) + 1))) none).run Tryd.prog w = .ok (.string (strOfNums [hd (i : Int)])) w := by
  have h1 : (ByteArray.mk #[48, 49, 50, 51, 52, 53, 54, 55, 56, 57, 97, 98, 99, 100, 101, 102]).size = 16 := rfl
  rw [run_slice_string w 9 _ .u8 .u8 (i : Int) ((i : Int) + 1) Tryd.underlying9 (by omega) (by omega) (by rw [h1]; omega)]
  rw [show ((i : Int) + 1).toNat = i + 1 by omega, show ((i : Int)).toNat = i by omega, digs_hd h]
def HxR (l : List Int) (w : World) (s i : Value) (wr : World) : Prop := ∃ k : Nat, k ≤ l.length ∧ i = .int .i64 k ∧ s = .string (hexS (l.take k)) ∧ Below w.heap.size w wr
theorem Bs.take_ {w : World} {A : Option Addr} {n c : Nat} {l : List Int} (h : Bs w A n c l) (m : Nat) : Bs w A (min n m) c (l.take (min n m)) :=
  ⟨h.rd.take (Nat.min_le_left _ _), h.dig_.take _, Nat.le_trans (Nat.min_le_left _ _) h.nc, Nat.le_trans (Nat.min_le_left _ _) h.c47, h.none_, h.plain⟩
end Go.Proofs.YtbffcgnefkkhoaaDoor
