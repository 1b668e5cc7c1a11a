/-
  The document's own numbers, of digits of 16 bits: what Trim, at, Of and To answer.
-/
import Derived.Test.YtcnekfpgoceblaaPka
import Derived.Test.YtcnekfpgoceblaaPkf
namespace Go.Proofs.Ytcnekfpgoceblaa
open Go.RowKit
set_option linter.unusedVariables false
/-- 2 to the 16. -/
def D : Int := 65536
theorem D_two : 2 ≤ D := by decide
theorem info3 : (Try.prog.info? 3).map (fun i => (i.zero, i.size, i.bytes)) = some (some (.int .i64 0), 1, 8) := by kernel_rfl

/-! ### Trim, at -/
theorem trim_end {b : Int} (hb2 : 2 ≤ b) {kd : IntKind} {A : Option Addr} {n k : Nat} {xs : List Int} {w : World} (h : Rd kd w A n xs) (hd : Dig b xs) (hk : k ≤ n) (hz : ∀ j, k ≤ j → j < n → xs.getD j 0 = 0) (hl : 0 < k → xs.getD (k - 1) 0 ≠ 0) : k = (dg b (val b xs)).length := by
  have hn := h.len
  subst hn
  exact (strip hb2 hd hk hz hl).2
/-- How many digits of 16 bits a number has. -/
def dr (N : Int) : Nat := (dg D N).length
/-- The slice is the document's number N. -/
structure Rn (w : World) (A : Option Addr) (n c : Nat) (N : Int) : Prop where
  rd : Rd .i64 w A n (dg D N)
  nc : n ≤ c
  n60 : n ≤ 1125899906842624
  pos : 0 ≤ N
theorem Rn.below {w w' : World} {A : Option Addr} {n c : Nat} {N : Int} (h : Rn w A n c N) (hb : Below w.heap.size w w') : Rn w' A n c N := ⟨h.rd.below hb, h.nc, h.n60, h.pos⟩
theorem Rn.len_ {w : World} {A : Option Addr} {n c : Nat} {N : Int} (h : Rn w A n c N) : n = dr N := h.rd.len.symm
/-- A number of the document's was answered. -/
def AnsN (N : Int) (w : World) (e : Ending) (w' : World) : Prop := ∃ B m cap, e = .returned (.slice B m cap) ∧ Rn w' B m cap N ∧ Below w.heap.size w w'
/-- The number, in memory of its own. -/
def AnsNn (N : Int) (w : World) (e : Ending) (w' : World) : Prop := ∃ B m cap, e = .returned (.slice B m cap) ∧ Rn w' B m cap N ∧ Below w.heap.size w w' ∧ ∀ a, B = some a → w.heap.size ≤ a.block
/-- The digits that count are a beginning of those that are told. -/
theorem strip_ex {b : Int} (hb : 2 ≤ b) {xs : List Int} (hd : Dig b xs) : dg b (val b xs) = xs.take (dg b (val b xs)).length := by
  have key : ∀ m, (∀ j, m ≤ j → j < xs.length → xs.getD j 0 = 0) → m ≤ xs.length → ∃ m, m ≤ xs.length ∧ (∀ j, m ≤ j → j < xs.length → xs.getD j 0 = 0) ∧ (0 < m → xs.getD (m - 1) 0 ≠ 0) := by
    intro m
    induction m with
    | zero => intro h _; exact ⟨0, by omega, h, fun h => absurd h (by omega)⟩
    | succ m ih =>
      intro h hle
      by_cases hz : xs.getD m 0 = 0
      · refine ih (fun j a b => ?_) (by omega)
        rcases Nat.lt_or_ge m j with hj | hj
        · exact h j (by omega) b
        · obtain rfl : j = m := by omega
          exact hz
      · exact ⟨m + 1, hle, h, fun _ => by simpa using hz⟩
  obtain ⟨m, h1, h2, h3⟩ := key xs.length (fun j a b => by omega) (Nat.le_refl _)
  obtain ⟨e1, e2⟩ := strip hb hd h1 h2 h3
  rw [← e2]
  exact e1.symm
/-- What Trim leaves of digits. -/
theorem trim_own {w : World} {A : Option Addr} {n c : Nat} {xs : List Int} (h : Rd .i64 w A n xs) (hd : Dig D xs) (hnc : n ≤ c) (hn : n ≤ 1125899906842624) : Rn w A (dr (val D xs)) c (val D xs) := by
  have hl := h.len
  have hle : dr (val D xs) ≤ n := dg_len_le D_two (val_nonneg (by decide) hd) (hl ▸ val_lt (by decide) hd)
  refine ⟨?_, by omega, by omega, val_nonneg (by decide) hd⟩
  have key := strip_ex D_two hd
  rw [show dg D (val D xs) = xs.take (dr (val D xs)) from key]
  exact h.take hle
/-! ### Of -/
theorem W_D (k : Nat) : W ^ k = D ^ (4 * k) := by
  have : W = D ^ 4 := by decide
  rw [this, ← Int.pow_mul]
end Go.Proofs.Ytcnekfpgoceblaa
