/-
  The document's layer 7: what Odd answers.
-/
import Derived.Test.YtloibmemlkfkfaaGreatDoorR7a
namespace Go.Proofs.YtloibmemlkfkfaaGreatDoor
open Go.RowKit
set_option linter.unusedVariables false
/-- A number that the document's way bears: short, or too long for the program. -/
def Li (n : Nat) (N : Int) : Prop := n ≤ 300 ∧ (dl N ≤ 6 ∨ 64 < dl N)
def LiS (s : Stp) : Prop := Li s.n1 s.P ∧ Li s.n2 s.Q ∧ Li s.n3 s.A
/-- A group of the document's that is small enough. -/
structure Rg7 (w : World) (b : Nat) (r : Rgd) (k : Nat) : Prop extends Rg w b r k where
  lp : r.nP ≤ 300
  lq : r.nQ ≤ 300
  safe : Safe r.P r.Q
  el : El r.P r.Q r.G
  pW : r.P ≤ W ^ 64
theorem Rg7.below {w w' : World} {b k : Nat} {r : Rgd} (h : Rg7 w b r k) (hb : Below w.heap.size w w') : Rg7 w' b r k := ⟨h.toRg.below hb, h.lp, h.lq, h.safe, h.el, h.pW⟩
section
variable {w : World} {b k : Nat} {r : Rgd} {A : Option Addr} {n c : Nat} {X : Int}
theorem of_nm7 (h : Nm w A n c X) (hn : n ≤ 1000) : Calls Tryz.prog 29 #[.slice A n c] w (AnsNn X w) := by
  obtain ⟨⟨ys, y1, y2, y3⟩, -, -, -⟩ := h
  have := of_new A n c ys w y1 y2 hn
  rwa [y3] at this
theorem dr_li {n : Nat} (h : Li n X) (h0 : 0 ≤ X) : dr X ≤ 300 ∨ W ^ 64 ≤ X := by
  rcases h.2 with g | g
  · left
    have h1 := lt_dl h0 g
    refine dg_len_le D_two h0 (Int.lt_of_lt_of_le h1 ?_)
    decide +kernel
  · right
    rcases Int.lt_or_le X (W ^ 64) with q | q
    · have := dl_le h0 q; omega
    · exact q
theorem is7_any (h : Rg7 w b r k) {m : Nat} (hl : Li m X) (hm : Rn w A n c X) (hn : n ≤ 10000) (s : Bool) (hs : s = true ↔ El r.P r.Q X) :
    Calls Tryz.prog 48 #[.pointer (some ⟨b, 0, none⟩), .slice A n c] w (AnsV (.bool s) w) := by
  rcases dr_li hl hm.pos with g | g
  · exact ris_any h.toRg hm (by rw [hm.len_]; exact g) h.lp h.lq s hs
  · have hx : r.P ≤ X := Int.le_trans h.pW g
    have e : s = false := by
      rcases Bool.eq_false_or_eq_true s with q | q
      · have := (hs.1 q).2.1; omega
      · exact q
    subst e
    have hP := h.safe.p2
    exact ris_great h.toRg hm hn (by have := h.lp; omega) (by omega) hx
/-- A number that came in, asked for: Is(Of(..)). -/
theorem rn_len7 {m : Nat} (h0 : 0 ≤ X) (hm : X < W ^ m) (h : m ≤ 1000) : dr X ≤ 10000 := by
  refine Nat.le_trans (dr_le h0 (k := m) (by exact dl_le h0 hm)) (by omega)
/-- Whether it is an element. -/
theorem el_bool (P Q X : Int) : ∃ s : Bool, s = true ↔ El P Q X := by
  by_cases h : El P Q X
  · exact ⟨true, fun _ => h, fun _ => rfl⟩
  · exact ⟨false, fun e => (by cases e), fun e => absurd e h⟩
def OdR (P Q : Int) (S : Nat → Stp) (n : Nat) (w : World) (i : Value) (wr : World) : Prop := ∃ k : Nat, k ≤ n ∧ i = .int .i64 k ∧ (∀ j, j < k → ElT P Q (Trp.of (S j))) ∧ Below w.heap.size w wr
theorem li_dr {m : Nat} (hl : Li m X) {w : World} {A : Option Addr} {c : Nat} (h : Nm w A m c X) : dr X ≤ 10000 := Nat.le_trans (dr_le h.pos (k := m) h.dl_le) (by have := hl.1; omega)
end
end Go.Proofs.YtloibmemlkfkfaaGreatDoor
