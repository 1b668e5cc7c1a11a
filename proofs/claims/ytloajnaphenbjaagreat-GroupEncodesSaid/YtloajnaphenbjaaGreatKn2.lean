/-
  The document's New of a known group; known: one of the groups, by the program and by the document; short.
-/
import Derived.Test.YtloajnaphenbjaaGreatGru
import Derived.Test.YtloajnaphenbjaaGreatRfo
namespace Go.Proofs.YtloajnaphenbjaaGreat
open Go.RowKit
set_option linter.unusedVariables false
theorem kg_rnew {k m : Nat} {w : World} {A : Option Addr} {n c : Nat} {A' : Option Addr} {n' c' : Nat} (hk : k < 11) (h : KG k m w A n c A' n' c') :
    Calls Tryz.prog 23 #[.agg #[.slice A n c, .slice A' n' c']] w (RNewP (kP k) (kQ k) 4 w) := by
  obtain ⟨⟨g, rfl, -, rfl, rfl, hr⟩, S, hch, hn, hS, -, -⟩ := h
  obtain ⟨sf, el, l1, l64⟩ := k_safe hk
  obtain ⟨bc, off, rfl, -, -⟩ := hch.ex (by omega)
  have e0 := hS 0 (by omega)
  have eP : (S 0).P = kP k := e0.1
  have eQ : (S 0).Q = kQ k := e0.2.1
  have good : ∀ i, i < n' → bdS S n' i = 0 := fun i hi => by
    have h1 := known_all k hk i (by omega)
    rw [← hn] at h1
    exact bd_move hi (fun j hj => ⟨(hS j hj).1, (hS j hj).2.1, (hS j hj).2.2.1⟩) h1
  have := rnew_any (S := S) (G := 4) (Nm.one hr (by decide) (by decide) (Nat.le_refl _) (by omega)) (by omega) hch (by omega) (by omega) (fun i hi => by have := hS i hi; omega) good (by rw [eP, eQ]; exact sf) (by rw [eP, eQ]; exact el) (by decide) (by rw [eQ]; exact (kq_big hk).1)
  rw [eP, eQ] at this
  exact this
/-- One of the groups, by the program and by the document. -/
def KnP2 (w : World) (e : Ending) (w' : World) : Prop :=
  ∃ b d b' r, e = .returned (.tuple #[.pointer (some ⟨b, 0, none⟩), .pointer (some ⟨b', 0, none⟩)]) ∧ Gr w' b d ∧ Rg w' b' r (sz d.Q) ∧ r.P = d.P ∧ r.Q = d.Q ∧ r.nP ≤ 300 ∧ r.nQ ≤ 300 ∧ Below w.heap.size w w'
set_option maxHeartbeats 2000000 in
theorem known2_any (i : Int) (hi : -9223372036854775808 ≤ i ∧ i ≤ 9223372036854775807) (w : World) :
    Calls Tryz.prog 5 #[.int .i64 i] w (KnP2 w) := by
  have HI := Lib.hid hi
  clear hi
  go_enter Tryz.func5, Tryz.ntmps5
  go_wp2_with fail
  refine (known_any i HI.out w).mono ?_
  rintro e w1 ⟨A, n, c, A', n', c', rfl, kg, b1⟩
  have bl := below_al w1 (.cells #[.slice A n c, .slice A' n' c'] 58)
  have bx := Bx.new w1 A n c A' n' c'
  have b2 := b1.trans (bl.mono b1.size)
  have KG2 := Lib.hid (kg.below bl)
  have BX := Lib.hid bx
  have B2 := Lib.hid b2
  clear b1 kg bl bx b2
  go_wp2_with fail
  refine (kg_new (kix_lt i) KG2.out).mono ?_
  rintro e w3 ⟨b, d, rfl, gr, hP, hQ, -, b3, -, -⟩
  have bx3 := BX.out.below b3
  have x0 := bx3.c0
  have x1 := bx3.c1_
  have KG3 := Lib.hid (KG2.out.below b3)
  have B3 := Lib.hid (B2.out.trans (b3.mono B2.out.size))
  have GR := Lib.hid gr
  have HPQ := Lib.hid (And.intro hP hQ)
  clear b3 bx3 KG2 B2 BX gr hP hQ
  go_wp2_with fail
  refine (kg_rnew (kix_lt i) KG3.out).mono ?_
  rintro e w4 ⟨b', r, rfl, rg, hP', hQ', -, b4⟩
  have gr4 := GR.out.below b4
  have eP : r.P = d.P := hP'.trans HPQ.out.1.symm
  have eQ : r.Q = d.Q := hQ'.trans HPQ.out.2.symm
  have rg4 : Rg w4 b' r (sz d.Q) := by rw [HPQ.out.2]; exact rg
  have l1 : r.nP ≤ 300 := by
    have h1 := rg4.p.len_
    have h2 := dr_le (N := d.P) (by have := gr4.safe.p2; omega) gr4.lp
    rw [eP] at h1; omega
  have l2 : r.nQ ≤ 300 := by
    have h1 := rg4.q.len_
    have h2 := dr_le (N := d.Q) (by have := gr4.safe.q3; omega) gr4.lq
    rw [eQ] at h1; omega
  have FIN : Hid (Gr w4 b d ∧ Rg w4 b' r (sz d.Q) ∧ r.P = d.P ∧ r.Q = d.Q ∧ r.nP ≤ 300 ∧ r.nQ ≤ 300 ∧ Below w.heap.size w w4) :=
    Lib.hid ⟨gr4, rg4, eP, eQ, l1, l2, B3.out.trans (b4.mono B3.out.size)⟩
  clear gr4 eP eQ rg4 l1 l2 b4 rg hP' hQ' KG3 B3 GR HPQ x0 x1
  go_wp2
  go_ret2
  exact ⟨b, d, b', r, rfl, FIN.out⟩
theorem Told.take {w : World} {A : Option Addr} {n c : Nat} {xs : List Int} (h : Told w A n c xs) {m : Nat} (hm : m ≤ n) : Told w A m c (xs.take m) :=
  ⟨h.rd.take hm, fun x hx => h.dig_ x (List.mem_of_mem_take hx), by have := h.nc; omega, by have := h.c60; omega⟩
/-- short, of six digits. -/
theorem short_any {w : World} {A : Option Addr} {n c : Nat} {xs : List Int} (h : Told w A n c xs) :
    Calls Tryz.prog 12 #[.slice A n c, .int .i64 6] w fun e w' => ∃ m ys, e = .returned (.slice A m c) ∧ Told w A m c ys ∧ m ≤ 6 ∧ w = w' := by
  have n60 := h.c60
  have nc := h.nc
  rcases Nat.lt_or_ge 6 n with g | g
  · have t1 : decide ((6 : Int) < (n : Int)) = true := by simp; omega
    have hc : (6 : Int) ≤ (c : Int) := by omega
    have T := Lib.hid (h.take (m := 6) (by omega))
    clear h
    go_enter Tryz.func12, Tryz.ntmps12
    go_wp2
    go_ret
    exact ⟨6, _, rfl, T.out, Nat.le_refl _, rfl⟩
  · have t1 : decide ((6 : Int) < (n : Int)) = false := by simp; omega
    go_enter Tryz.func12, Tryz.ntmps12
    go_wp2
    go_ret
    exact ⟨n, _, rfl, h, g, rfl⟩
end Go.Proofs.YtloajnaphenbjaaGreat
