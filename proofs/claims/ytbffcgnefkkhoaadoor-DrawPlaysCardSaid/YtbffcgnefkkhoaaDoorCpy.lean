/-
  The builtin copy of bytes into a row that the call itself made.
-/
import Derived.Test.YtbffcgnefkkhoaaDoorPkf
import Derived.Laws.CopyOwn
namespace Go.Proofs.YtbffcgnefkkhoaaDoor
open Go.RowKit
set_option linter.unusedVariables false
theorem grown_setRow (w : World) (g : Nat) (cs : Array Value) : w.grownBy (w.setRow g cs) (some g) :=
  ⟨rfl, rfl, rfl, by rw [setRow_size]; exact Nat.le_refl _, fun i _ hi => setRow_other w g i cs (fun e => hi (by rw [e]))⟩
theorem Row.setRow {w : World} {g : Nat} {t : TypeId} {k : IntKind} {xs : List Int} (h : Row w g t k xs) (ys : List Int) : Row (w.setRow g (ys.map (Value.int k)).toArray) g t k ys := setRow_heap w g _ _ t (0, 0) h
theorem size5 : (Tryd.prog.info? 5).map (·.size) = some 1 := by kernel_rfl
set_option maxRecDepth 100000 in
theorem copy8 {w : World} {g : Nat} {t : TypeId} {zs : List Int} (hg : Row w g t .u8 zs) {A : Option Addr} {n c : Nat} {xs : List Int} (hr : Rd .u8 w A n xs) (off dLen dCap : Nat) (hd : n ≤ dLen) (hfit : off + n ≤ zs.length) :
    ∃ w', (∀ ty, (Builtin.copy_ #[22, 22] ty #[.slice (some ⟨g, off, none⟩) dLen dCap, .slice A n c]).run Tryd.prog w = .ok (goInt n) w') ∧ Row w' g t .u8 (zs.take off ++ xs ++ zs.drop (off + n)) ∧ w.grownBy w' (some g) := by
  rcases Nat.eq_zero_or_pos n with g0 | g0
  · subst g0
    obtain rfl : xs = [] := List.eq_nil_of_length_eq_zero hr.len
    refine ⟨w, fun ty => ?_, by simpa using hg, World.grownBy.refl w _⟩
    exact run_copy_none (P := Tryd.prog) w _ _ ty 5 _ _ dLen dCap 0 c Tryd.underlying22 size5 (by simp)
  · obtain ⟨b, o, rfl, hb, hc⟩ := hr.cells g0
    have hl : (xs.map (Value.int .u8)).length = n := by simp [hr.len]
    refine ⟨w.setRow g ((zs.take off ++ xs ++ zs.drop (off + n)).map (Value.int .u8)).toArray, fun ty => ?_, hg.setRow _, grown_setRow w g _⟩
    have h := run_copy_row (P := Tryd.prog) w 22 22 ty 5 g off dLen dCap ⟨b, o, none⟩ n c _ t (xs.map (Value.int .u8)) Tryd.underlying22 size5 hg (by rw [hl]; exact (Nat.min_eq_left hd).symm) ?_ (by rw [hl]; simpa using hfit) (ints_oneCell _ _)
    · rw [h, hl]
      congr 2
      simp [List.map_take, List.map_drop]
    · intro j v hv
      rw [List.getElem?_map] at hv
      cases hx : xs[j]? with
      | none => rw [hx] at hv; cases hv
      | some x =>
        rw [hx] at hv
        obtain rfl := Option.some.inj hv
        rw [Addr.add_lit]
        exact hc j x hx
end Go.Proofs.YtbffcgnefkkhoaaDoor
