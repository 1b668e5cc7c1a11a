/-
  Several texts in one: R4, R4M, R7a, R7b, R9a, R9b, R9c.
-/
import Derived.Test.YtkecfdeepmhggaaDoc
import Derived.Test.YtkecfdeepmhggaaGro
import Derived.Test.YtkecfdeepmhggaaPkm
import Derived.Deep.RegionHeld3
import Derived.BigQuiet
import Derived.Deep.QuietTactic
import Derived.Test.YtkecfdeepmhggaaMxx
import Derived.Test.YtkecfdeepmhggaaPkf
import Derived.Test.YtkecfdeepmhggaaNin
import Derived.Deep.RegionLaw
import Derived.Test.YtkecfdeepmhggaaOwk
/-
  The document's group in memory; what its One and Is answer.
-/
namespace Go.Proofs.Ytkecfdeepmhggaa
open Go.RowKit
set_option linter.unusedVariables false
/-- Where the document's group has its numbers. -/
structure Rgd where
  AP : Option Addr
  nP : Nat
  cP : Nat
  AQ : Option Addr
  nQ : Nat
  cQ : Nat
  AG : Option Addr
  nG : Nat
  cG : Nat
  P : Int
  Q : Int
  G : Int
def Rgd.cells (r : Rgd) (k : Nat) : Array Value := #[.slice r.AP r.nP r.cP, .slice r.AQ r.nQ r.cQ, .slice r.AG r.nG r.cG, .int .i64 (k : Int)]
section
variable {w w' : World} {b k : Nat} {r : Rgd}
theorem Rn.drewN_ {A : Option Addr} {n c : Nat} {N : Int} (h : Rn w A n c N) (q : Nat) : Rn (w.drewN q) A n c N := ⟨h.rd.drewN q, h.nc, h.n60, h.pos⟩
end
end Go.Proofs.Ytkecfdeepmhggaa
/-
  The document's group: what Mul, Exp and Inverse answer.
-/
namespace Go.Proofs.Ytkecfdeepmhggaa
open Go.RowKit
set_option linter.unusedVariables false
section
variable {w : World} {b k : Nat} {r : Rgd} {A A' : Option Addr} {n c n' c' : Nat} {X Y : Int}
end
end Go.Proofs.Ytkecfdeepmhggaa
/-
  The document's layer 7: what Long, Longs, Fits and Odd answer.
-/
namespace Go.Proofs.Ytkecfdeepmhggaa
open Go.RowKit
set_option linter.unusedVariables false
section
variable {w : World} {A : Option Addr} {n c : Nat} {S : Nat → Nsl} {N : Int}
def LgR (S : Nat → Nsl) (n : Nat) (w : World) (i : Value) (wr : World) : Prop := ∃ k : Nat, k ≤ n ∧ i = .int .i64 k ∧ (∀ j, j < k → dl (S j).N ≤ 64) ∧ w = wr
end
end Go.Proofs.Ytkecfdeepmhggaa
/-
  The document's layer 7: what Odd answers.
-/
namespace Go.Proofs.Ytkecfdeepmhggaa
open Go.RowKit
set_option linter.unusedVariables false
/-- A number that the document's way bears: short, or too long for the program. -/
def Li (n : Nat) (N : Int) : Prop := n ≤ 300 ∧ (dl N ≤ 6 ∨ 64 < dl N)
def LiS (s : Stp) : Prop := Li s.n1 s.P ∧ Li s.n2 s.Q ∧ Li s.n3 s.A
section
variable {w : World} {b k : Nat} {r : Rgd} {A : Option Addr} {n c : Nat} {X : Int}
theorem dr_li {n : Nat} (h : Li n X) (h0 : 0 ≤ X) : dr X ≤ 300 ∨ W ^ 64 ≤ X := by
  rcases h.2 with g | g
  · left
    have h1 := lt_dl h0 g
    refine dg_len_le D_two h0 (Int.lt_of_lt_of_le h1 ?_)
    decide +kernel
  · right
    rcases Int.lt_or_le X (W ^ 64) with q | q
    · have := dl_le h0 q; omega
    · exact q
/-- A number that came in, asked for: Is(Of(..)). -/
theorem rn_len7 {m : Nat} (h0 : 0 ≤ X) (hm : X < W ^ m) (h : m ≤ 1000) : dr X ≤ 10000 := by
  refine Nat.le_trans (dr_le h0 (k := m) (by exact dl_le h0 hm)) (by omega)
/-- Whether it is an element. -/
theorem el_bool (P Q X : Int) : ∃ s : Bool, s = true ↔ El P Q X := by
  by_cases h : El P Q X
  · exact ⟨true, fun _ => h, fun _ => rfl⟩
  · exact ⟨false, fun e => (by cases e), fun e => absurd e h⟩
def OdR (P Q : Int) (S : Nat → Stp) (n : Nat) (w : World) (i : Value) (wr : World) : Prop := ∃ k : Nat, k ≤ n ∧ i = .int .i64 k ∧ (∀ j, j < k → ElT P Q (Trp.of (S j))) ∧ Below w.heap.size w wr
theorem li_dr {m : Nat} (hl : Li m X) {w : World} {A : Option Addr} {c : Nat} (h : Nm w A m c X) : dr X ≤ 10000 := Nat.le_trans (dr_le h.pos (k := m) h.dl_le) (by have := hl.1; omega)
end
end Go.Proofs.Ytkecfdeepmhggaa
/-
  The document's layer 9: what place, small, Long and Value answer.
-/
namespace Go.Proofs.Ytkecfdeepmhggaa
open Go.RowKit
set_option linter.unusedVariables false
/-- A share's place. -/
def PlI (i : Int) : Prop := 1 ≤ i ∧ i ≤ 255
instance (i : Int) : Decidable (PlI i) := inferInstanceAs (Decidable (_ ∧ _))
theorem lit9 (w : World) {x : Int} (h0 : 0 ≤ x) (h1 : x < W) : Nm (w.alloc (.cells #[.int .u64 x] 54)) (some ⟨w.heap.size, 0, none⟩) 1 1 x :=
  Nm.one (Row.new w 54 .u64 [x]) h0 h1 (by omega) (by omega)
section
variable {w : World} {b k : Nat} {r : Rgd}
theorem dr_add9 {N M : Int} (h0 : 0 ≤ N) (h1 : 0 ≤ M) {m : Nat} (a : dr N ≤ m) (b : dr M ≤ m) : dr (N + M) ≤ m + 1 := by
  refine dg_len_le D_two (by omega) ?_
  have h2 := dg_lt_pow D_two h0 a
  have h3 := dg_lt_pow D_two h1 b
  have c : D ^ (m + 1) = D ^ m * D := Int.pow_succ _ _
  rw [c]
  have d : D ^ m * 2 ≤ D ^ m * D := Int.mul_le_mul_of_nonneg_left (by decide) (by omega)
  omega
theorem rn_bel9 {w w' : World} {A : Option Addr} {n c : Nat} {N : Int} (h : Rn w A n c N) (hb : Below w.heap.size w w') : Rn w' A n c N := h.below hb
theorem dl_sm9 {x : Int} (h0 : 0 ≤ x) (h1 : x ≤ 255) : dl x ≤ 64 := by
  have h := dl_le h0 (k := 1) (show x < W ^ 1 by
    have : (W : Int) ^ 1 = 18446744073709551616 := by decide
    omega)
  omega
theorem pwN_le {Q y : Int} (hQ : 1 ≤ Q) : ∀ n, pwN Q y n ≤ Q
  | 0 => by simp only [pwN]; omega
  | n + 1 => Int.le_of_lt (Int.emod_lt_of_pos _ (by omega))
theorem vlN_rng {Q y : Int} {a : Nat → Int} (hQ : 1 ≤ Q) : ∀ n, 0 ≤ vlN Q a y n ∧ vlN Q a y n ≤ Q
  | 0 => by simp only [vlN]; omega
  | n + 1 => ⟨Int.emod_nonneg _ (by omega), Int.le_of_lt (Int.emod_lt_of_pos _ (by omega))⟩
def VlR (Q y : Int) (a : Nat → Int) (m : Nat) (w : World) (s p j : Value) (wr : World) : Prop :=
  ∃ t A1 n1 c1 A2 n2 c2, s = .slice A1 n1 c1 ∧ p = .slice A2 n2 c2 ∧ j = .int .i64 (t : Nat) ∧ t ≤ m ∧ Rn wr A1 n1 c1 (vlN Q a y t) ∧ Rn wr A2 n2 c2 (pwN Q y t) ∧ Below w.heap.size w wr
end
end Go.Proofs.Ytkecfdeepmhggaa
/-
  The document's layer 9: what Public answers.
-/
namespace Go.Proofs.Ytkecfdeepmhggaa
open Go.RowKit
set_option linter.unusedVariables false
open Classical in
/-- What Public says is amiss. -/
noncomputable def pubC (P Q : Int) (N : Nat → Int) (n : Nat) (y : Int) : Int := if 1 ≤ n ∧ n ≤ 32 ∧ PlI y then (if ∀ t, t < n → El P Q (N t) then 0 else 8) else 1
/-- A number and what is amiss. -/
def DocN (code N : Int) (w : World) (e : Ending) (w' : World) : Prop := ∃ B m cap, e = .returned (.tuple #[.slice B m cap, .int .i64 code]) ∧ Rn w' B m cap (if code = 0 then N else 0) ∧ Below w.heap.size w w'
theorem docN_no {code N : Int} (hc : code ≠ 0) {w w' : World} {e : Ending} (he : e = .returned (.tuple #[.slice none 0 0, .int .i64 code])) (hb : Below w.heap.size w w') : DocN code N w e w' :=
  ⟨none, 0, 0, he, by rw [if_neg hc]; exact Rn.nil _, hb⟩
theorem pubI_pw {P Q y : Int} (hQ : 1 ≤ Q) (c : Nat → Int) (n : Nat) : pubI P Q c y (n + 1) = pubI P Q c y n * gx P Q (c n) (pwN Q y n) % P := by
  have h := (pwN_eqm (Q := Q) (y := y) n).emod
  show pubI P Q c y n * gx P Q (c n) (y ^ n) % P = _
  rw [← gx_mod hQ (c n) (pwN Q y n), ← gx_mod hQ (c n) (y ^ n), h]
theorem pubI_le {P Q y : Int} (hP : 2 ≤ P) (c : Nat → Int) : ∀ n, pubI P Q c y n ≤ P
  | 0 => by simp only [pubI]; omega
  | n + 1 => Int.le_of_lt (Int.emod_lt_of_pos _ (by omega))
section
variable {w : World} {b k : Nat} {r : Rgd}
def PbR (P Q y : Int) (a : Nat → Int) (m : Nat) (w : World) (s p j : Value) (wr : World) : Prop :=
  ∃ t A1 n1 c1 A2 n2 c2, s = .slice A1 n1 c1 ∧ p = .slice A2 n2 c2 ∧ j = .int .i64 (t : Nat) ∧ t ≤ m ∧ (∀ u, u < t → El P Q (a u)) ∧ Rn wr A1 n1 c1 (pubI P Q a y t) ∧ Rn wr A2 n2 c2 (pwN Q y t) ∧ Below w.heap.size w wr
end
end Go.Proofs.Ytkecfdeepmhggaa
/-
  The document's layer 9: what Check answers.
-/
namespace Go.Proofs.Ytkecfdeepmhggaa
open Go.RowKit
set_option linter.unusedVariables false
open Classical in
/-- What Check says. -/
noncomputable def chC (P Q G : Int) (N : Nat → Int) (n : Nat) (I V : Int) : Int :=
  if 1 ≤ n ∧ n ≤ 32 ∧ PlI I then (if 64 < dl V then 2 else if ∀ t, t < n → El P Q (N t) then (if gx P Q G V = pubI P Q N I n then 0 else 7) else 8) else 1
theorem sh_box (w : World) (x y : Value) : (w.alloc (.cells #[x, y] 42)).cell? ⟨w.heap.size, 0, none⟩ = some x ∧ (w.alloc (.cells #[x, y] 42)).cell? ⟨w.heap.size, 1, none⟩ = some y := by
  constructor <;> simp [World.cell?_alloc_at]
theorem cmpI_eq9 {N M : Int} : (cmpI N M == 0) = decide (N = M) := by
  unfold cmpI
  split
  · have : decide (N = M) = false := by simp; omega
    rw [this]; rfl
  · split
    · have : decide (N = M) = false := by simp; omega
      rw [this]; rfl
    · have : decide (N = M) = true := by simp; omega
      rw [this]; rfl
section
variable {w : World} {b k : Nat} {r : Rgd}
end
end Go.Proofs.Ytkecfdeepmhggaa
