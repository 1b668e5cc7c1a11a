/-
  What the head of layer 5's laws answers: the document's examples hold.
-/
import Derived.Test.YtbffcgnefkkhoaaDoorHex
import Derived.Test.YtbffcgnefkkhoaaDoorShx
import Derived.Test.YtbffcgnefkkhoaaDoorPkf
import Derived.Lib.SmallJoins
namespace Go.Proofs.YtbffcgnefkkhoaaDoor
open Go.RowKit
set_option linter.unusedVariables false
/-- Bytes in a block just made. -/
theorem bs_new (W : World) (bs : List Int) {n q : Nat} (hl : bs.length = n) (hq : W.heap.size = q) (hd : Dig 256 bs) (hn : n ≤ 1099511627776) : Bs (W.alloc (.cells ((bs.map (Value.int .u8)).toArray) 5)) (some ⟨q, 0, none⟩) n n bs := by
  subst hq
  exact ⟨rowAll (Row.new W 5 .u8 bs) hl, hd, Nat.le_refl _, hn, (fun h => nomatch h), fun a ha => ⟨_, _, (Option.some.inj ha).symm⟩⟩
theorem dig_abc : Dig 256 [97, 98, 99] := by unfold Dig; decide
theorem dig_jefe : Dig 256 jefe := by unfold Dig jefe; decide
theorem dig_want : Dig 256 want := by unfold Dig want; decide
def abcX : ByteArray := ⟨#[98, 97, 55, 56, 49, 54, 98, 102, 56, 102, 48, 49, 99, 102, 101, 97, 52, 49, 52, 49, 52, 48, 100, 101, 53, 100, 97, 101, 50, 50, 50, 51, 98, 48, 48, 51, 54, 49, 97, 51, 57, 54, 49, 55, 55, 97, 57, 99, 98, 52, 49, 48, 102, 102, 54, 49, 102, 50, 48, 48, 49, 53, 97, 100]⟩
def jefeX : ByteArray := ⟨#[53, 98, 100, 99, 99, 49, 52, 54, 98, 102, 54, 48, 55, 53, 52, 101, 54, 97, 48, 52, 50, 52, 50, 54, 48, 56, 57, 53, 55, 53, 99, 55, 53, 97, 48, 48, 51, 102, 48, 56, 57, 100, 50, 55, 51, 57, 56, 51, 57, 100, 101, 99, 53, 56, 98, 57, 54, 52, 101, 99, 51, 56, 52, 51]⟩
theorem hex_abc : hexS (sha [97, 98, 99]) = abcX := by rw [sha_abc]; decide +kernel
theorem hex_jefe : hexS (mac jefe want) = jefeX := by rw [mac_jefe]; decide +kernel
/-- Bytes in a block just made and marked. -/
theorem bs_lit (W : World) (bs : List Int) (fr : Nat × Nat) {n q : Nat} (hl : bs.length = n) (hq : q = W.heap.size) (hd : Dig 256 bs) (hn : n ≤ 1099511627776) : Bs (W.alloc (.cells ((bs.map (Value.int .u8)).toArray) 5 fr)) (some ⟨q, 0, none⟩) n n bs :=
  ⟨⟨hl, fun _ => ⟨q, 0, rfl, by subst hq; simp, fun j x hx => by
    rw [Nat.zero_add, Joins.cell_alloc_mark_at W _ _ fr q j hq]; simp [hx]⟩⟩, hd, Nat.le_refl _, hn, (fun h => nomatch h), fun a ha => ⟨_, _, (Option.some.inj ha).symm⟩⟩
end Go.Proofs.YtbffcgnefkkhoaaDoor
