/-
  Calls of the document's own numbers, in the form of the laws' walks: Of; two lists that are the same.
-/
import Derived.Test.YtbgnjbalojcgkaaDoorKit0
import Derived.Test.YtbgnjbalojcgkaaDoorTo
namespace Go.Proofs.YtbgnjbalojcgkaaDoor
open Go.RowKit
set_option linter.unusedVariables false
theorem same_rd {B B' : Option Addr} {m m' cap cap' : Nat} {N : Int} {w : World} (h : Rd .u64 w B m (dg W N)) (h' : Rd .u64 w B' m' (dg W N)) (hm : m ≤ 17592186044416) :
    Calls Tryd.prog 12 #[.slice B m cap, .slice B' m' cap'] w (AnsV (.bool true) w) := by
  obtain rfl : m = m' := by rw [← h.len, ← h'.len]
  exact (same_yes h h' hm).mono fun e w' ⟨he, q, hq⟩ => ⟨he, hq ▸ below_drewN (Below.refl _ _) q⟩
theorem dr_le {N : Int} (h0 : 0 ≤ N) {k : Nat} (h : dl N ≤ k) : dr N ≤ 4 * k := by
  refine dg_len_le D_two h0 ?_
  rw [← W_D]
  exact lt_dl h0 h
theorem of_v {A : Option Addr} {n c : Nat} {xs : List Int} {w : World} (h : Told w A n c xs) (hn : n ≤ 1000) :
    Calls Tryd.prog 11 #[.slice A n c] w (AnsN (val W xs) w) := of_any A n c xs w h.rd h.dig_ hn
end Go.Proofs.YtbgnjbalojcgkaaDoor
