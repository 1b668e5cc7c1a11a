/-
  Bytes as a string; strings that are the same.
-/
import Derived.Test.YtloibmemlkfkfaaGreatDoorPka
namespace Go.Proofs.YtloibmemlkfkfaaGreatDoor
open Go.RowKit
set_option linter.unusedVariables false
/-- string(b), whatever slice of bytes b is. -/
theorem conv_any {w : World} {A : Option Addr} {n c : Nat} {bs : List Int} (h : Rd .u8 w A n bs) : (convert 22 9 (.slice A n c)).run Tryz.prog w = .ok (.string (strOfNums bs)) w := by
  rcases Nat.eq_zero_or_pos n with g | g
  · subst g
    obtain rfl : bs = [] := List.eq_nil_of_length_eq_zero h.len
    cases A with
    | none => exact run_convert_bytes_nil (P := Tryz.prog) w 22 5 Tryz.underlying22 Tryz.underlying5 0 c 9 Tryz.underlying9
    | some ad =>
      rw [run_convert_bytes_string w 22 9 5 _ 0 c Tryz.underlying22 Tryz.underlying5 Tryz.underlying9]
      have hl : (loadCells ad 0).run Tryz.prog w = .ok (([] : List Int).map (Value.int .u8)).toArray w := by
        have := run_loadCells_list (P := Tryz.prog) w ad [] (fun j v hj => by simp at hj)
        simpa using this
      rw [run_bytesToString w ad 0 c [] hl]
      rfl
  · obtain ⟨b, off, rfl, hb, hc⟩ := h.cells g
    exact run_convert_bytes_arg w 22 5 Tryz.underlying22 Tryz.underlying5 b off n c bs h.len (fun i hi => hc i _ (by rw [List.getD_eq_getElem?_getD, getElem?_dig (by rw [h.len]; exact hi)]; rfl)) 9 Tryz.underlying9
theorem str_neq (s : ByteArray) : (s.toList != s.toList) = false := by simp
theorem str_eql (s : ByteArray) : (s.toList == s.toList) = true := by simp
theorem rowAll {w : World} {g : Nat} {t : TypeId} {k : IntKind} {bs : List Int} {n : Nat} (h : Row w g t k bs) (hl : bs.length = n) : Rd k w (some ⟨g, 0, none⟩) n bs := h.rd hl (fun j x hx => by rwa [Nat.zero_add])
end Go.Proofs.YtloibmemlkfkfaaGreatDoor
