/-
  An argument with its number; bytes as a string.
-/
import Derived.Test.YtejggejpafpahaaDoorCopied
namespace Go.Proofs.YtejggejpafpahaaDoor
open Go.RowKit
set_option linter.unusedVariables false
/-- What is known of an argument, under one name for its number. -/
structure Ar (w : World) (A : Option Addr) (n c : Nat) (xs : List Int) (N : Int) : Prop where
  told : Told w A n c xs
  val_ : val W xs = N
theorem Ar.below {w w' : World} {A : Option Addr} {n c : Nat} {xs : List Int} {N : Int} (h : Ar w A n c xs N) (hb : Below w.heap.size w w') : Ar w' A n c xs N := ⟨h.told.below hb, h.val_⟩
theorem Ar.nm {w : World} {A : Option Addr} {n c : Nat} {xs : List Int} {N : Int} (h : Ar w A n c xs N) : Nm w A n c N := by have := h.told.nm; rw [h.val_] at this; exact this
theorem copied_ar {A : Option Addr} {n c : Nat} {xs : List Int} {N : Int} {w : World} (h : Ar w A n c xs N) (hn : n ≤ 100000) :
    Calls Tryd.prog 5 #[.slice A n c] w fun e w' => ∃ B cap, e = .returned (.slice B n cap) ∧ Ar w' B n cap xs N ∧ Below w.heap.size w w' :=
  (copied_any h.told hn).mono fun e w' ⟨B, cap, he, ht, hb⟩ => ⟨B, cap, he, ⟨ht, h.val_⟩, hb⟩
/-- string(b), whatever slice of bytes b is. -/
theorem conv_any {w : World} {A : Option Addr} {n c : Nat} {bs : List Int} (h : Rd .u8 w A n bs) : (convert 33 9 (.slice A n c)).run Tryd.prog w = .ok (.string (strOfNums bs)) w := by
  rcases Nat.eq_zero_or_pos n with g | g
  · subst g
    obtain rfl : bs = [] := List.eq_nil_of_length_eq_zero h.len
    cases A with
    | none => exact run_convert_bytes_nil (P := Tryd.prog) w 33 5 Tryd.underlying33 Tryd.underlying5 0 c 9 Tryd.underlying9
    | some ad =>
      rw [run_convert_bytes_string w 33 9 5 _ 0 c Tryd.underlying33 Tryd.underlying5 Tryd.underlying9]
      have hl : (loadCells ad 0).run Tryd.prog w = .ok (([] : List Int).map (Value.int .u8)).toArray w := by
        have := run_loadCells_list (P := Tryd.prog) w ad [] (fun j v hj => by simp at hj)
        simpa using this
      rw [run_bytesToString w ad 0 c [] hl]
      rfl
  · obtain ⟨b, off, rfl, hb, hc⟩ := h.cells g
    exact run_convert_bytes_arg w 33 5 Tryd.underlying33 Tryd.underlying5 b off n c bs h.len (fun i hi => hc i _ (by rw [List.getD_eq_getElem?_getD, getElem?_dig (by rw [h.len]; exact hi)]; rfl)) 9 Tryd.underlying9
theorem str_neq (s : ByteArray) : (s.toList != s.toList) = false := by simp
theorem str_eql (s : ByteArray) : (s.toList == s.toList) = true := by simp
theorem rowAll {w : World} {g : Nat} {t : TypeId} {k : IntKind} {bs : List Int} {n : Nat} (h : Row w g t k bs) (hl : bs.length = n) : Rd k w (some ⟨g, 0, none⟩) n bs := h.rd hl (fun j x hx => by rwa [Nat.zero_add])
end Go.Proofs.YtejggejpafpahaaDoor
