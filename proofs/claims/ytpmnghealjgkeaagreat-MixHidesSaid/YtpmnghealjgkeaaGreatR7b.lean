/-
  The document's layer 7: what Odd answers.
-/
import Derived.Test.YtpmnghealjgkeaaGreatR7a
namespace Go.Proofs.YtpmnghealjgkeaaGreat
open Go.RowKit
set_option linter.unusedVariables false
/-- A number that the document's way bears: short, or too long for the program. -/
def Li (n : Nat) (N : Int) : Prop := n ≤ 300 ∧ (dl N ≤ 6 ∨ 64 < dl N)
def LiS (s : Stp) : Prop := Li s.n1 s.P ∧ Li s.n2 s.Q ∧ Li s.n3 s.A
/-- A group of the document's that is small enough. -/
structure Rg7 (w : World) (b : Nat) (r : Rgd) (k : Nat) : Prop extends Rg w b r k where
  lp : r.nP ≤ 300
  lq : r.nQ ≤ 300
  safe : Safe r.P r.Q
  el : El r.P r.Q r.G
  pW : r.P ≤ W ^ 64
theorem Rg7.below {w w' : World} {b k : Nat} {r : Rgd} (h : Rg7 w b r k) (hb : Below w.heap.size w w') : Rg7 w' b r k := ⟨h.toRg.below hb, h.lp, h.lq, h.safe, h.el, h.pW⟩
section
variable {w : World} {b k : Nat} {r : Rgd} {A : Option Addr} {n c : Nat} {X : Int}
theorem of_nm7 (h : Nm w A n c X) (hn : n ≤ 1000) : Calls Tryz.prog 51 #[.slice A n c] w (AnsNn X w) := by
  obtain ⟨⟨ys, y1, y2, y3⟩, -, -, -⟩ := h
  have := of_new A n c ys w y1 y2 hn
  rwa [y3] at this
theorem dr_li {n : Nat} (h : Li n X) (h0 : 0 ≤ X) : dr X ≤ 300 ∨ W ^ 64 ≤ X := by
  rcases h.2 with g | g
  · left
    have h1 := lt_dl h0 g
    refine dg_len_le D_two h0 (Int.lt_of_lt_of_le h1 ?_)
    decide +kernel
  · right
    rcases Int.lt_or_le X (W ^ 64) with q | q
    · have := dl_le h0 q; omega
    · exact q
theorem is7_any (h : Rg7 w b r k) {m : Nat} (hl : Li m X) (hm : Rn w A n c X) (hn : n ≤ 10000) (s : Bool) (hs : s = true ↔ El r.P r.Q X) :
    Calls Tryz.prog 52 #[.pointer (some ⟨b, 0, none⟩), .slice A n c] w (AnsV (.bool s) w) := by
  rcases dr_li hl hm.pos with g | g
  · exact ris_any h.toRg hm (by rw [hm.len_]; exact g) h.lp h.lq s hs
  · have hx : r.P ≤ X := Int.le_trans h.pW g
    have e : s = false := by
      rcases Bool.eq_false_or_eq_true s with q | q
      · have := (hs.1 q).2.1; omega
      · exact q
    subst e
    have hP := h.safe.p2
    exact ris_great h.toRg hm hn (by have := h.lp; omega) (by omega) hx
/-- A number that came in, asked for: Is(Of(..)). -/
theorem rn_len7 {m : Nat} (h0 : 0 ≤ X) (hm : X < W ^ m) (h : m ≤ 1000) : dr X ≤ 10000 := by
  refine Nat.le_trans (dr_le h0 (k := m) (by exact dl_le h0 hm)) (by omega)
/-- Whether it is an element. -/
theorem el_bool (P Q X : Int) : ∃ s : Bool, s = true ↔ El P Q X := by
  by_cases h : El P Q X
  · exact ⟨true, fun _ => h, fun _ => rfl⟩
  · exact ⟨false, fun e => (by cases e), fun e => absurd e h⟩
def OdR (P Q : Int) (S : Nat → Stp) (n : Nat) (w : World) (i : Value) (wr : World) : Prop := ∃ k : Nat, k ≤ n ∧ i = .int .i64 k ∧ (∀ j, j < k → ElT P Q (Trp.of (S j))) ∧ Below w.heap.size w wr
theorem li_dr {m : Nat} (hl : Li m X) {w : World} {A : Option Addr} {c : Nat} (h : Nm w A m c X) : dr X ≤ 10000 := Nat.le_trans (dr_le h.pos (k := m) h.dl_le) (by have := hl.1; omega)
set_option maxHeartbeats 8000000 in
set_option maxRecDepth 100000 in
theorem odd7_any {S : Nat → Stp} (h : Rg7 w b r k) (hl : Ch w A n c S) (hL : ∀ i, i < n → LiS (S i)) :
    Calls Tryz.prog 57 #[.pointer (some ⟨b, 0, none⟩), .slice A n c] w fun e w' => (∃ s : Bool, e = .returned (.bool s) ∧ (s = true ↔ ¬ ElL r.P r.Q S n)) ∧ Below w.heap.size w w' := by
  have HR := Lib.hid h
  have HL := Lib.hid hl
  have HLI := Lib.hid hL
  have h60 := hl.c60
  clear h hl hL
  go_enter Tryz.func57, Tryz.ntmps57
  go_wp2_with fail
  go_loopw [5] (fun i wr => OdR r.P r.Q S n w i wr) (fun i _ => n - (intOf i).toNat)
  case atStart => exact ⟨0, Nat.zero_le _, rfl, fun j h => absurd h (Nat.not_lt_zero j), Below.refl _ _⟩
  case round =>
    obtain ⟨q, hq, rfl, hz, hbl⟩ := hrel
    have HZ := Lib.hid hz
    have HBL := Lib.hid hbl
    clear hz hbl
    rcases Nat.lt_or_ge q n with hlt | hge
    · --<L
      have hkn : (q : Int) < (n : Int) := by omega
      obtain ⟨b0, off, eA, hb0, hcell⟩ := (HL.out.below HBL.out).ex (by omega)
      subst eA
      obtain ⟨x0, x1, x2⟩ := hcell q hlt
      obtain ⟨p1, p2, p3⟩ := (HL.out.below HBL.out).at_ q hlt
      obtain ⟨l1, l2, l3⟩ := HLI.out q hlt
      have ET := Lib.hid (show ElT r.P r.Q (Trp.of (S q)) ↔ (El r.P r.Q (S q).P ∧ El r.P r.Q (S q).Q ∧ El r.P r.Q (S q).A) from ⟨fun g => ⟨g.a, g.b, g.c⟩, fun g => ⟨g.1, g.2.1, g.2.2⟩⟩)
      obtain ⟨s, hs⟩ : ∃ s, S q = s := ⟨_, rfl⟩
      rw [hs] at x0 x1 x2 p1 p2 p3 l1 l2 l3 ET
      have HSQ := Lib.hid hs
      obtain ⟨A1, n1, c1, A2, n2, c2, A3, n3, c3, X1, X2, X3⟩ := s
      simp only at x0 x1 x2 p1 p2 p3 l1 l2 l3
      obtain ⟨s1, hs1⟩ := el_bool r.P r.Q X1
      obtain ⟨s2, hs2⟩ := el_bool r.P r.Q X2
      obtain ⟨s3, hs3⟩ := el_bool r.P r.Q X3
      have S1 := Lib.hid hs1
      have S2 := Lib.hid hs2
      have S3 := Lib.hid hs3
      have P1 := Lib.hid p1
      have P2 := Lib.hid p2
      have P3 := Lib.hid p3
      have L1 := Lib.hid l1
      have L2 := Lib.hid l2
      have L3 := Lib.hid l3
      have X1' := Lib.hid x1
      have X2' := Lib.hid x2
      clear hcell p1 p2 p3 l1 l2 l3 hs hs1 hs2 hs3 x1 x2
      go_wp2_with fail
      refine (of_nm7 P1.out (by have := L1.out.1; omega)).mono ?_
      rintro e u1 ⟨B1, m1, d1, rfl, k1, b1, -⟩
      have K1 := Lib.hid k1
      have B1' := Lib.hid (HBL.out.trans (b1.mono HBL.out.size))
      have C1 := Lib.hid b1
      clear k1 b1 x0
      go_wp2_with fail
      refine (is7_any (HR.out.below B1'.out) L1.out K1.out (by rw [K1.out.len_]; exact li_dr L1.out P1.out) s1 S1.out).mono ?_
      rintro e u2 ⟨rfl, b2⟩
      have C2 := Lib.hid (C1.out.trans (b2.mono C1.out.size))
      have B2' := Lib.hid (B1'.out.trans (b2.mono B1'.out.size))
      have x1 := (C2.out.cell (p := ⟨b0, off + q * 3 + 1, none⟩) hb0).trans X1'.out
      clear b2 C1 K1 B1'
      go_wp2_with fail
      refine (of_nm7 (P2.out.below C2.out) (by have := L2.out.1; omega)).mono ?_
      rintro e u3 ⟨B3, m3, d3, rfl, k3, b3, -⟩
      have K3 := Lib.hid k3
      have B3' := Lib.hid (B2'.out.trans (b3.mono B2'.out.size))
      have C3 := Lib.hid (C2.out.trans (b3.mono C2.out.size))
      clear k3 b3 x1 C2 B2'
      go_wp2_with fail
      refine (is7_any (HR.out.below B3'.out) L2.out K3.out (by rw [K3.out.len_]; exact li_dr L2.out P2.out) s2 S2.out).mono ?_
      rintro e u4 ⟨rfl, b4⟩
      have C4 := Lib.hid (C3.out.trans (b4.mono C3.out.size))
      have B4' := Lib.hid (B3'.out.trans (b4.mono B3'.out.size))
      have x2 := (C4.out.cell (p := ⟨b0, off + q * 3 + 2, none⟩) hb0).trans X2'.out
      clear b4 C3 K3 B3'
      go_wp2_with fail
      refine (of_nm7 (P3.out.below C4.out) (by have := L3.out.1; omega)).mono ?_
      rintro e u5 ⟨B5, m5, d5, rfl, k5, b5, -⟩
      have K5 := Lib.hid k5
      have B5' := Lib.hid (B4'.out.trans (b5.mono B4'.out.size))
      clear k5 b5 x2 C4 B4'
      go_wp2_with fail
      refine (is7_any (HR.out.below B5'.out) L3.out K5.out (by rw [K5.out.len_]; exact li_dr L3.out P3.out) s3 S3.out).mono ?_
      rintro e u6 ⟨rfl, b6⟩
      have B6' := Lib.hid (B5'.out.trans (b6.mono B5'.out.size))
      clear b6 K5 B5'
      have bad : (s1 = false ∨ s2 = false ∨ s3 = false) → ¬ ElL r.P r.Q S n := fun g e => by
        have h := e q hlt
        rw [HSQ.out] at h
        have h2 := ET.out.1 h
        rcases g with g | g | g
        · have := S1.out.2 h2.1; rw [g] at this; cases this
        · have := S2.out.2 h2.2.1; rw [g] at this; cases this
        · have := S3.out.2 h2.2.2; rw [g] at this; cases this
      have BAD := Lib.hid bad
      clear bad
      cases s1
      · go_wp2_with fail
        go_ret
        exact ⟨⟨true, rfl, fun _ => BAD.out (.inl (by trivial)), fun _ => rfl⟩, B6'.out⟩
      cases s2
      · go_wp2_with fail
        go_ret
        exact ⟨⟨true, rfl, fun _ => BAD.out (.inr (.inl (by trivial))), fun _ => rfl⟩, B6'.out⟩
      cases s3
      · go_wp2_with fail
        go_ret
        exact ⟨⟨true, rfl, fun _ => BAD.out (.inr (.inr (by trivial))), fun _ => rfl⟩, B6'.out⟩
      go_wp2_with fail
      go_roundw
      case rel =>
        refine ⟨q + 1, by omega, by go_num, fun j hj => ?_, B6'.out⟩
        rcases Nat.lt_or_ge j q with g | g
        · exact HZ.out j g
        · obtain rfl : j = q := by omega
          rw [HSQ.out]
          exact ET.out.2 ⟨S1.out.1 (by trivial), S2.out.1 (by trivial), S3.out.1 (by trivial)⟩
      case measure => simp [intOf]; omega
      --L>
    · obtain rfl : q = n := by omega
      have hkn : decide ((q : Int) < (q : Int)) = false := by simp
      go_wp2_with fail
      go_ret
      exact ⟨⟨false, rfl, fun h => (by cases h), fun h => absurd HZ.out h⟩, HBL.out⟩
end
end Go.Proofs.YtpmnghealjgkeaaGreat
