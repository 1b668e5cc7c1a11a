/-
  What a walk of layer 7's laws carries along: nothing that was there has turned.
-/
import Derived.Test.YtpmnghealjgkeaaGreatU7
namespace Go.Proofs.YtpmnghealjgkeaaGreat
open Go.RowKit
set_option linter.unusedVariables false
/-- Nothing that was there has turned. -/
def B7 (W W' : World) : Prop := Below W.heap.size W W'
section
variable {a b c w w' : World}
theorem B7.refl (w : World) : B7 w w := Below.refl _ _
theorem B7.trans (h : B7 a b) (k : B7 b c) : B7 a c := Below.trans h (Below.mono k h.size)
theorem B7.alloc (w : World) (o : Obj) : B7 w (w.alloc o) := below_al w o
theorem B7.drewN (w : World) (q : Nat) : B7 w (w.drewN q) := below_drewN (Below.refl _ _) q
theorem B7.sz (h : B7 a b) : a.heap.size ≤ b.heap.size := Below.size h
theorem B7.gr (hb : B7 w w') {g : Nat} {d : Gd} (h : Gr w g d) : Gr w' g d := h.below hb
theorem B7.nm (hb : B7 w w') {A : Option Addr} {n c : Nat} {N : Int} (h : Nm w A n c N) : Nm w' A n c N := h.below hb
theorem B7.ns (hb : B7 w w') {A : Option Addr} {n c : Nat} {S : Nat → Nsl} (h : Ns w A n c S) : Ns w' A n c S := h.below hb
theorem B7.ch (hb : B7 w w') {A : Option Addr} {n c : Nat} {S : Nat → Stp} (h : Ch w A n c S) : Ch w' A n c S := h.below hb
theorem B7.grown (h : B7 a w) {v : Value} (hg : w.grownBy w' v.ownBlock) (hr : ∀ g, v.ownBlock = some g → a.heap.size ≤ g) : B7 a w' := Below.grown h hg h.sz hr
end
/-- Where a list's numbers lie. -/
theorem Ns.base {w : World} {A : Option Addr} {n c : Nat} {S : Nat → Nsl} (h : Ns w A n c S) : ∀ i, i < n → ∀ a, (S i).A = some a → 0 < (S i).n → a.block < w.heap.size := fun i hi a ha h0 => (h.at_ i hi).blk h0 a ha
theorem elN_el {P Q G : Int} (hP : 2 ≤ P) (hQ : 1 ≤ Q) (hG : El P Q G) (S : Nat → Nsl) (j : Nat) : El P Q (elN P Q G S j) := gx_el hP hQ hG _
theorem atN_pos {w : World} {A : Option Addr} {n c : Nat} {S : Nat → Nsl} (h : Ns w A n c S) (i : Nat) : 0 ≤ atN S n i := by
  unfold atN
  split
  · decide
  · exact Int.emod_nonneg _ (by have := W40_pos; omega)
theorem atN_dl {w : World} {A : Option Addr} {n c : Nat} {S : Nat → Nsl} (h : Ns w A n c S) (i : Nat) : dl (atN S n i) ≤ 64 := by
  unfold atN
  split
  · exact Nat.le_trans (dl_one (by decide) (by decide)) (by decide)
  · rename_i g
    exact Nat.le_trans (dl_cut (h.at_ _ (Nat.mod_lt _ (by omega))).pos 40) (by decide)
theorem rest_dl {w : World} {g : Nat} {d : Gd} (h : Gr w g d) (x : Int) : dl (x % d.Q) ≤ 64 := by
  have hq := h.safe.q1
  have h1 := dl_mono (Int.emod_nonneg x (show d.Q ≠ 0 by omega)) (Int.le_of_lt (Int.emod_lt_of_pos x (show 0 < d.Q by omega)))
  have h2 := h.toGr0.lq
  omega
set_option maxRecDepth 100000 in
theorem eq_none (b : Nat) : ∀ w : World, (binOp .eql 27 (.pointer (some ⟨b, 0, none⟩)) (.pointer none)).run Tryz.prog w = .ok (.bool false) w := fun _ => rfl
end Go.Proofs.YtpmnghealjgkeaaGreat
