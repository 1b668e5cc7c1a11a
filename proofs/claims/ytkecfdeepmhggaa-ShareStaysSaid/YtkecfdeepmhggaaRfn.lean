/-
  Several texts in one: R9e, R9f, R9g, R9d.
-/
import Derived.Test.YtkecfdeepmhggaaRfo
import Derived.Test.YtkecfdeepmhggaaDoc
import Derived.Deep.QuietTactic
import Derived.BigQuiet
import Derived.Test.YtkecfdeepmhggaaMxx
import Derived.Test.YtkecfdeepmhggaaPkf
import Derived.Test.YtkecfdeepmhggaaOwk
import Derived.Deep.RegionLaw
/-
  The document's layer 9: what places and Weight answer.
-/
namespace Go.Proofs.Ytkecfdeepmhggaa
open Go.RowKit
set_option linter.unusedVariables false
/-- A list of ints in memory. -/
structure Ils (w : World) (a : Option Addr) (n c : Nat) (X : Nat → Int) : Prop where
  nc : n ≤ c
  c60 : n ≤ 17592186044416
  ex : 0 < n → ∃ b off, a = some ⟨b, off, none⟩ ∧ b < w.heap.size ∧ ∀ i, i < n → w.cell? ⟨b, off + i, none⟩ = some (.int .i64 (X i))
  rg : ∀ i, i < n → -9223372036854775808 ≤ X i ∧ X i ≤ 9223372036854775807
theorem Ils.below {w w' : World} {a : Option Addr} {n c : Nat} {X : Nat → Int} (h : Ils w a n c X) (hb : Below w.heap.size w w') : Ils w' a n c X :=
  ⟨h.nc, h.c60, fun hn => by
    obtain ⟨b, off, e, hl, hc⟩ := h.ex hn
    exact ⟨b, off, e, Nat.lt_of_lt_of_le hl hb.size, fun i hi => (hb.cell (p := ⟨b, _, none⟩) hl).trans (hc i hi)⟩, h.rg⟩
/-- Several places at once. -/
def PlsI (Q : Int) (X : Nat → Int) (n : Nat) : Prop := 1 ≤ n ∧ n ≤ 255 ∧ 255 < Q ∧ (∀ i, i < n → PlI (X i)) ∧ ∀ i j, i < n → j < i → X j ≠ X i
theorem PlsI.ne {Q : Int} {X : Nat → Int} {n : Nat} (h : PlsI Q X n) : ∀ i j, i < n → j < n → i ≠ j → X i ≠ X j := fun i j hi hj ij e => by
  rcases Nat.lt_or_gt_of_ne ij with g | g
  · exact h.2.2.2.2 j i hj g e
  · exact h.2.2.2.2 i j hi g e.symm
section
variable {w : World} {b k : Nat} {r : Rgd}
def PoR (X : Nat → Int) (n : Nat) (w : World) (i : Value) (wr : World) : Prop :=
  ∃ t : Nat, i = .int .i64 t ∧ t ≤ n ∧ (∀ u, u < t → PlI (X u)) ∧ (∀ u v, u < t → v < u → X v ≠ X u) ∧ Below w.heap.size w wr
def PiR (X : Nat → Int) (t : Nat) (w : World) (i : Value) (wr : World) : Prop :=
  ∃ v : Nat, i = .int .i64 v ∧ v ≤ t ∧ (∀ u, u < v → X u ≠ X t) ∧ Below w.heap.size w wr
theorem cmpI_le {N M : Int} : decide (cmpI N M ≤ 0) = decide (N ≤ M) := by
  unfold cmpI
  split
  · simp; omega
  · split
    · simp; omega
    · simp; omega
end
end Go.Proofs.Ytkecfdeepmhggaa
/-
  The document's layer 9: what Weight answers.
-/
namespace Go.Proofs.Ytkecfdeepmhggaa
open Go.RowKit
set_option linter.unusedVariables false
open Classical in
/-- What Weight says is amiss. -/
noncomputable def wgC (Q : Int) (X : Nat → Int) (n : Nat) (y : Int) : Int := if PlsI Q X n ∧ ∃ u, u < n ∧ X u = y then 0 else 1
section
variable {w : World} {b k : Nat} {r : Rgd}
def WaR (X : Nat → Int) (n : Nat) (y : Int) (w : World) (a i : Value) (wr : World) : Prop :=
  ∃ (t : Nat) (m : Bool), a = .bool m ∧ i = .int .i64 t ∧ t ≤ n ∧ (m = true ↔ ∃ u, u < t ∧ X u = y) ∧ Below w.heap.size w wr
def WgR (Q : Int) (X : Nat → Int) (n : Nat) (y : Int) (w : World) (o i : Value) (wr : World) : Prop :=
  ∃ t A1 n1 c1, o = .slice A1 n1 c1 ∧ i = .int .i64 (t : Nat) ∧ t ≤ n ∧ Rn wr A1 n1 c1 (wgN Q X y t) ∧ Below w.heap.size w wr
theorem pls_bool (Q : Int) (X : Nat → Int) (n : Nat) : ∃ s : Bool, s = true ↔ PlsI Q X n := by
  by_cases h : PlsI Q X n
  · exact ⟨true, fun _ => h, fun _ => rfl⟩
  · exact ⟨false, fun e => (by cases e), fun e => absurd e h⟩
theorem wgC_no {Q : Int} {X : Nat → Int} {n : Nat} {y : Int} (h : ¬ (PlsI Q X n ∧ ∃ u, u < n ∧ X u = y)) : wgC Q X n y = 1 := if_neg h
end
end Go.Proofs.Ytkecfdeepmhggaa
/-
  The document's layer 9: what Combine answers.
-/
namespace Go.Proofs.Ytkecfdeepmhggaa
open Go.RowKit
set_option linter.unusedVariables false
open Classical in
/-- What Combine says is amiss. -/
noncomputable def cbC (Q : Int) (S : Nat → Shr) (n : Nat) : Int := if PlsI Q (fun i => (S i).I) n then (if ∃ i, i < n ∧ 64 < dl (S i).N then 2 else 0) else 1
theorem infoI9 : (Try.prog.info? 3).map (fun i => (i.zero, i.size, i.bytes)) = some (some (.int .i64 0), 1, 8) := by kernel_rfl
theorem one_at9 (w : World) (u : Value) (t : TypeId) : (w.alloc (.cells #[u] t)).cell? ⟨w.heap.size, 0, none⟩ = some u := by simp [World.cell?_alloc_at]
theorem Owg.ils {e : TypeId} {w : World} {base : Nat} {v : Value} {n : Nat} {L X : Nat → Int} (h : Owg kInt e w base v n L) (hn : n ≤ 17592186044416) (hL : ∀ u, u < n → L u = X u) (hX : ∀ u, u < n → -9223372036854775808 ≤ X u ∧ X u ≤ 9223372036854775807) : ∃ A c, v = .slice A n c ∧ Ils w A n c X := by
  obtain ⟨A, c, rfl, hnc, hb, hc⟩ := h.form
  refine ⟨A, c, rfl, hnc, hn, fun h0 => ?_, hX⟩
  obtain ⟨g, eg, hl, hx⟩ := hc h0
  refine ⟨g, 0, eg, hl, fun i hi => ?_⟩
  rw [Nat.zero_add, ← hL i hi]
  exact hx i hi
section
variable {w : World} {b k : Nat} {r : Rgd}
def CaR (S : Nat → Shr) (n : Nat) (w : World) (v i : Value) (wr : World) : Prop :=
  ∃ (t : Nat) (L : Nat → Int), i = .int .i64 t ∧ t ≤ n ∧ Owg kInt 3 wr w.heap.size v t L ∧ (∀ u, u < t → L u = (S u).I) ∧ Below w.heap.size w wr
def ClR (S : Nat → Shr) (n : Nat) (w : World) (i : Value) (wr : World) : Prop :=
  ∃ t : Nat, i = .int .i64 t ∧ t ≤ n ∧ (∀ u, u < t → dl (S u).N ≤ 64) ∧ w = wr
def CsR (Q : Int) (S : Nat → Shr) (n : Nat) (w : World) (s i : Value) (wr : World) : Prop :=
  ∃ t A1 n1 c1, s = .slice A1 n1 c1 ∧ i = .int .i64 (t : Nat) ∧ t ≤ n ∧ Rn wr A1 n1 c1 (cbN Q (fun i => (S i).I) (fun i => (S i).N) n t) ∧ Below w.heap.size w wr
end
end Go.Proofs.Ytkecfdeepmhggaa
/-
  The document's layer 9: what Deal's walk will want (the walk itself is not written).
-/
namespace Go.Proofs.Ytkecfdeepmhggaa
open Go.RowKit
set_option linter.unusedVariables false
open Classical in
/-- What Deal says is amiss. -/
noncomputable def dlC (S : Nat → Nsl) (n : Nat) (m : Int) : Int := if 1 ≤ n ∧ n ≤ 32 ∧ PlI m then (if ∃ i, i < n ∧ 64 < dl (S i).N then 2 else 0) else 1
/-- A number in new memory. -/
def AnsT9 (N : Int) (w : World) (e : Ending) (w' : World) : Prop := ∃ B m cap, e = .returned (.slice B m cap) ∧ Cn w' B m cap N ∧ (∀ a, B = some a → w.heap.size ≤ a.block) ∧ Below w.heap.size w w'
theorem one_at9d (w : World) (u : Value) (t : TypeId) : (w.alloc (.cells #[u] t)).cell? ⟨w.heap.size, 0, none⟩ = some u := by simp [World.cell?_alloc_at]
theorem infoS9 : (Try.prog.info? 42).map (fun i => (i.zero, i.size, i.bytes)) = some (some (.agg #[.int .i64 0, .slice none 0 0]), 2, 32) := by kernel_rfl
section
variable {w : World} {b k : Nat} {r : Rgd}
def DlR (S : Nat → Nsl) (n : Nat) (w : World) (i : Value) (wr : World) : Prop :=
  ∃ t : Nat, i = .int .i64 t ∧ t ≤ n ∧ (∀ u, u < t → dl (S u).N ≤ 64) ∧ w = wr
/-- The first shares of a polynomial. -/
def ShF (Q : Int) (S : Nat → Nsl) (n : Nat) (T : Nat → Shr) (t : Nat) : Prop := ∀ u, u < t → (T u).I = (u : Int) + 1 ∧ (T u).N = vlN Q (fun i => (S i).N) ((u : Int) + 1) n ∧ (T u).n = dl (T u).N
def DsR (Q : Int) (S : Nat → Nsl) (n m : Nat) (w : World) (v i : Value) (wr : World) : Prop :=
  ∃ (t : Nat) (T : Nat → Shr) (I : Int), i = .int .i64 I ∧ I = (t : Int) + 1 ∧ t ≤ m ∧ Owk kSh 42 wr w.heap.size v t T ∧ ShF Q S n T t ∧ Below w.heap.size w wr
/-- The first commitments. -/
def CmF (P Q G : Int) (S U : Nat → Nsl) (t : Nat) : Prop := ∀ u, u < t → (U u).N = gx P Q G (S u).N ∧ (U u).n = dl (U u).N
def DcR (P Q G : Int) (S : Nat → Nsl) (n : Nat) (w : World) (v i : Value) (wr : World) : Prop :=
  ∃ (t : Nat) (U : Nat → Nsl), i = .int .i64 t ∧ t ≤ n ∧ Owg kNm 25 wr w.heap.size v t U ∧ CmF P Q G S U t ∧ Below w.heap.size w wr
def DealV (P Q G : Int) (S : Nat → Nsl) (n : Nat) (m : Int) (w : World) (e : Ending) (w' : World) : Prop :=
  (dlC S n m ≠ 0 ∧ e = .returned (.tuple #[.slice none 0 0, .slice none 0 0, .int .i64 (dlC S n m)]) ∧ Below w.heap.size w w') ∨
  (dlC S n m = 0 ∧ ∃ (q : Nat) (As : Option Addr) (cs : Nat) (T : Nat → Shr) (Ac : Option Addr) (cc : Nat) (U : Nat → Nsl), m = q ∧ e = .returned (.tuple #[.slice As q cs, .slice Ac n cc, .int .i64 0]) ∧ Shs w' As q cs T ∧ ShF Q S n T q ∧ Ns w' Ac n cc U ∧ CmF P Q G S U n ∧ Below w.heap.size w w')
theorem infoN9 : (Try.prog.info? 25).map (fun i => (i.zero, i.size, i.bytes)) = some (some (.slice none 0 0), 1, 24) := by kernel_rfl
theorem deal_no {P Q G : Int} {S : Nat → Nsl} {n : Nat} {m c : Int} {w w' : World} {e : Ending} (hd : dlC S n m = c) (hc : c ≠ 0) (he : e = .returned (.tuple #[.slice none 0 0, .slice none 0 0, .int .i64 c])) (hb : Below w.heap.size w w') : DealV P Q G S n m w e w' :=
  .inl ⟨by rw [hd]; exact hc, by rw [hd]; exact he, hb⟩
end
end Go.Proofs.Ytkecfdeepmhggaa
