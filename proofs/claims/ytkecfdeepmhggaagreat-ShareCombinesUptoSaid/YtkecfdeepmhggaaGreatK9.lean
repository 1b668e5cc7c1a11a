/-
  Layer 9's known: one of the groups, by the program and by the document.
-/
import Derived.Test.YtkecfdeepmhggaaGreatRft
import Derived.Test.YtkecfdeepmhggaaGreatRfo
namespace Go.Proofs.YtkecfdeepmhggaaGreat
open Go.RowKit
set_option linter.unusedVariables false
/-- One of the groups, by the program and by the document. -/
def KnP9 (w : World) (e : Ending) (w' : World) : Prop :=
  ∃ b d b' r, e = .returned (.tuple #[.pointer (some ⟨b, 0, none⟩), .pointer (some ⟨b', 0, none⟩)]) ∧ Gr w' b d ∧ Rg7 w' b' r (sz d.Q) ∧ r.P = d.P ∧ r.Q = d.Q ∧ r.G = d.G ∧ Below w.heap.size w w'
set_option maxHeartbeats 4000000 in
theorem known9_any (i : Int) (hi : -9223372036854775808 ≤ i ∧ i ≤ 9223372036854775807) (w : World) :
    Calls Tryz.prog 7 #[.int .i64 i] w (KnP9 w) := by
  obtain ⟨z, hz⟩ : ∃ z : Int, (if i < 0 then -(i + 1) else i) = z := ⟨_, rfl⟩
  have z0 : 0 ≤ z ∧ z ≤ 9223372036854775807 := by rw [← hz]; split <;> omega
  have HZ := Lib.hid hz
  have Z0 := Lib.hid z0
  have HI := Lib.hid hi
  clear hz z0 hi
  go_enter Tryz.func7, Tryz.ntmps7
  go_upto_if 11 with fail
  go_cut [0] (fun v wx => v = .int .i64 z ∧ w = wx)
  case first =>
    rcases Int.lt_or_le i 0 with g3 | g3
    · have e3 : decide (i < 0) = true := by simp; omega
      have e4 : IntKind.i64.wrap (i + 1) = i + 1 := IntWalk.i64_in _ (by have := HI.out; omega)
      have e5 : IntKind.i64.wrap (-(i + 1)) = -(i + 1) := IntWalk.i64_in _ (by have := HI.out; omega)
      have E6 := Lib.hid (show -(i + 1) = z by rw [← HZ.out, if_pos g3])
      go_wp2_with fail
      go_meet
      exact ⟨by rw [E6.out], rfl⟩
    · have e3 : decide (i < 0) = false := by simp; omega
      have E6 := Lib.hid (show i = z by rw [← HZ.out, if_neg (by omega)])
      go_wp2_with fail
      go_meet
      exact ⟨by rw [E6.out], rfl⟩
  case rest =>
  obtain ⟨rfl, rfl⟩ := hcut
  obtain ⟨y, hy⟩ : ∃ y : Int, z % 6 = y := ⟨_, rfl⟩
  have y0 : 0 ≤ y ∧ y < 6 := by omega
  have z0 := Z0.out.1
  have e7 : z.tmod 6 = y := by rw [Int.tmod_eq_emod_of_nonneg z0]; exact hy
  have e8 : IntKind.i64.wrap y = y := IntWalk.i64_in _ (by omega)
  clear HZ Z0
  go_wp2_with fail
  clear e7 e8 hy z0
  with_reducible refine (known_any y (by omega) w).mono ?_
  rintro e w1 ⟨A, n, c, A', n', c', rfl, kg, b1⟩
  have bl := below_al w1 (.cells #[.slice A n c, .slice A' n' c'] 63)
  have bx := Bx.new w1 A n c A' n' c'
  have b2 := b1.trans (bl.mono b1.size)
  have KG2 := Lib.hid (kg.below bl)
  have BX := Lib.hid bx
  have B2 := Lib.hid b2
  clear b1 kg bl bx b2
  go_wp2_with fail
  refine (kg_new (kix_lt y) KG2.out).mono ?_
  rintro e w3 ⟨b, d, rfl, gr, hP, hQ, hG, b3, -, -⟩
  have bx3 := BX.out.below b3
  have x0 := bx3.c0
  have x1 := bx3.c1_
  have KG3 := Lib.hid (KG2.out.below b3)
  have B3 := Lib.hid (B2.out.trans (b3.mono B2.out.size))
  have GR := Lib.hid gr
  have HPQ := Lib.hid (And.intro hP (And.intro hQ hG))
  clear b3 bx3 KG2 B2 BX gr hP hQ hG
  go_wp2_with fail
  refine (kg_rnew (kix_lt y) KG3.out).mono ?_
  rintro e w4 ⟨b', r, rfl, rg, hP', hQ', hG', b4⟩
  have gr4 := GR.out.below b4
  have eP : r.P = d.P := hP'.trans HPQ.out.1.symm
  have eQ : r.Q = d.Q := hQ'.trans HPQ.out.2.1.symm
  have eG : r.G = d.G := hG'.trans HPQ.out.2.2.symm
  have rg4 : Rg w4 b' r (sz d.Q) := by rw [HPQ.out.2.1]; exact rg
  have l1 : r.nP ≤ 300 := by
    have h1 := rg4.p.len_
    have h2 := dr_le (N := d.P) (by have := gr4.safe.p2; omega) gr4.lp
    rw [eP] at h1; omega
  have l2 : r.nQ ≤ 300 := by
    have h1 := rg4.q.len_
    have h2 := dr_le (N := d.Q) (by have := gr4.safe.q3; omega) gr4.lq
    rw [eQ] at h1; omega
  have pw : r.P ≤ W ^ 64 := by
    rw [eP]
    exact Int.le_of_lt (lt_dl (by have := gr4.safe.p2; omega) (Nat.le_trans gr4.lp (by decide)))
  have FIN : Hid (Gr w4 b d ∧ Rg7 w4 b' r (sz d.Q) ∧ r.P = d.P ∧ r.Q = d.Q ∧ r.G = d.G ∧ Below w.heap.size w w4) :=
    Lib.hid ⟨gr4, ⟨rg4, l1, l2, by rw [eP, eQ]; exact gr4.safe, by rw [eP, eQ, eG]; exact gr4.el, pw⟩, eP, eQ, eG, B3.out.trans (b4.mono B3.out.size)⟩
  clear gr4 eP eQ eG rg4 l1 l2 pw b4 rg hP' hQ' hG' KG3 B3 GR HPQ x0 x1
  go_wp2
  go_ret2
  exact ⟨b, d, b', r, rfl, FIN.out⟩
end Go.Proofs.YtkecfdeepmhggaaGreat
