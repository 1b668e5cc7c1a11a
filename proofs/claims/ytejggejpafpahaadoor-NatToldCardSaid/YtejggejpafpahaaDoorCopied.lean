/-
  What the laws' own call copied answers.
-/
import Derived.Test.YtejggejpafpahaaDoorKit0
import Derived.Test.YtejggejpafpahaaDoorOwn
namespace Go.Proofs.YtejggejpafpahaaDoor
open Go.RowKit
set_option linter.unusedVariables false
/-- Digits, as they were told, in new memory. -/
def AnsC (xs : List Int) (n : Nat) (w : World) (e : Ending) (w' : World) : Prop := ∃ B cap, e = .returned (.slice B n cap) ∧ Told w' B n cap xs ∧ Below w.heap.size w w'
set_option maxHeartbeats 400000 in
theorem copied_any {A : Option Addr} {n c : Nat} {xs : List Int} {w : World} (h : Told w A n c xs) (hn : n ≤ 100000) :
    Calls Tryd.prog 5 #[.slice A n c] w (AnsC xs n w) := by
  have hrd := h.rd.alloc (.cells #[] 40)
  have hown : (w.alloc (.cells #[] 40)).ownsRow w.heap.size 40 1 (.slice (some ⟨w.heap.size, 0, none⟩) 0 0) 0 (([] : List Int).map (Value.int .u64)) := World.ownsRow_lit w #[] 0 (Nat.le_refl _) (by unfold maxLen; omega) rfl
  go_enter Tryd.func5, Tryd.ntmps5
  go_wp2_with (at_builtin; refine wpList_cat _ rfl _ _ 23 rfl w.heap.size 40 .u64 Tryd.underlying23 info62u _ _ [] rfl hown _ _ _ xs rfl hrd (by omega) ?hb ?_)
  case hb => simp
  intro v' w1 hown' hgrow
  have hb3 := own_below ((Below.refl _ _).alloc (Nat.le_refl _) _) hown hgrow (by simp) (Nat.le_refl _)
  have hown2 : w1.ownsRow w.heap.size 40 1 v' n (xs.map (Value.int .u64)) := by simpa using hown'
  obtain ⟨B, cap, rfl, hr2, hcap, -⟩ := own_rd hown2
  clear hown hgrow hown' hown2
  go_wp2
  go_ret
  exact ⟨B, cap, rfl, ⟨hr2, h.dig_, hcap, h.c60⟩, hb3⟩
theorem same_told {A B : Option Addr} {n c c' : Nat} {xs : List Int} {w : World} (h : Told w A n c xs) (h' : Told w B n c' xs) :
    Calls Tryd.prog 9 #[.slice A n c, .slice B n c'] w (AnsV (.bool true) w) :=
  (same_yes h.rd h'.rd h.c60).mono fun e w' ⟨he, q, hq⟩ => ⟨he, hq ▸ below_drewN (Below.refl _ _) q⟩
end Go.Proofs.YtejggejpafpahaaDoor
