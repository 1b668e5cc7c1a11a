/-
  A number with the group's Q more, as a law makes it; what changes with it; same of two proofs.
-/
import Derived.Test.YtloibmemlkfkfaaGreatDoorSgb
import Derived.Test.YtloibmemlkfkfaaGreatDoorDoc
import Derived.Test.YtloibmemlkfkfaaGreatDoorPkf
namespace Go.Proofs.YtloibmemlkfkfaaGreatDoor
open Go.RowKit
set_option linter.unusedVariables false
theorem of_nm8 {w : World} {A : Option Addr} {n c : Nat} {X : Int} (h : Nm w A n c X) (hn : n ≤ 1000) : Calls Tryz.prog 29 #[.slice A n c] w (AnsN X w) := by
  obtain ⟨⟨ys, y1, y2, y3⟩, -, -, -⟩ := h
  have := of_any A n c ys w y1 y2 hn
  rwa [y3] at this
/-- A number in new memory. -/
def AnsT8 (N : Int) (w : World) (e : Ending) (w' : World) : Prop := ∃ B m cap, e = .returned (.slice B m cap) ∧ Cn w' B m cap N ∧ (∀ a, B = some a → w.heap.size ≤ a.block) ∧ B8 w w'
theorem to_new8 {A : Option Addr} {n c : Nat} {N : Int} {w : World} (h : Rn w A n c N) (hn : n ≤ 100000) : Calls Tryz.prog 27 #[.slice A n c] w (AnsT8 N w) :=
  (to_own h hn).mono fun e w' ⟨v, m, he, ho, hb⟩ => by
    obtain ⟨B, cap, rfl, h1, h2, h3⟩ := own_rd ho
    have hl := h1.len
    have hd : (dg W N).length = dl N := rfl
    have h4 := dl_dr h.pos
    have h5 := h.len_
    exact ⟨B, _, cap, he, ⟨h1, h2, by omega, h.pos⟩, h3, hb⟩
theorem dr_nm {N : Int} (h0 : 0 ≤ N) (h : dl N ≤ 64) : dr N ≤ 256 := by have := dr_le h0 h; omega
theorem dr_sum {N M : Int} (h0 : 0 ≤ N) (h1 : 0 ≤ M) (h : dl N ≤ 64) (h' : dl M ≤ 64) : dr (N + M) ≤ 1000 := by
  have e : N + M < W ^ 65 := by
    have a := lt_dl h0 h
    have b := lt_dl h1 h'
    have c : W ^ 65 = W ^ 64 * W := Int.pow_succ _ _
    rw [c]
    have d : W ^ 64 * 2 ≤ W ^ 64 * W := Int.mul_le_mul_of_nonneg_left (by decide) (by omega)
    omega
  have h2 := dl_le (N := N + M) (by omega) e
  have h3 := dr_le (N := N + M) (by omega) h2
  omega
theorem dl_sum {N M : Int} (h0 : 0 ≤ N) (h1 : 0 ≤ M) (h : dl N ≤ 63) (h' : dl M ≤ 63) : dl (N + M) ≤ 64 := by
  refine dl_le (by omega) ?_
  have a := lt_dl h0 h
  have b := lt_dl h1 h'
  have c : W ^ 64 = W ^ 63 * W := Int.pow_succ _ _
  rw [c]
  have d : W ^ 63 * 2 ≤ W ^ 63 * W := Int.mul_le_mul_of_nonneg_left (by decide) (by omega)
  omega
/-! ### With a Q more -/
theorem knE_more {P Q G : Int} {lab ctx : List Int} {S K : Int} (hQ : 1 ≤ Q) : knE P Q G lab ctx (S + Q) K = knE P Q G lab ctx S K := by
  unfold knE
  rw [gx_more hQ]
theorem resp_more {Q E S K : Int} : respN Q E (S + Q) K = respN Q E S K := by
  unfold respN
  rw [Int.mul_add, ← Int.add_assoc, Int.add_mul_emod_self_right]
theorem ce_more {P Q G : Int} {ctx : List Int} {y a x Z E : Int} (hQ : 1 ≤ Q) : ceE P Q G ctx y a x (Z + Q) E = ceE P Q G ctx y a x Z E := by
  unfold ceE
  rw [back_more hQ, back_more hQ]
/-! ### same -/
theorem psame8 {w : World} {A1 A2 A3 A4 : Option Addr} {n1 c1 n2 c2 n3 c3 n4 c4 : Nat} {E Z E' Z' : Int} (h1 : Cn w A1 n1 c1 E) (h2 : Cn w A2 n2 c2 Z) (h3 : Cn w A3 n3 c3 E') (h4 : Cn w A4 n4 c4 Z') (e1 : E = E') (e2 : Z = Z') :
    Calls Tryz.prog 16 #[.agg #[.slice A1 n1 c1, .slice A2 n2 c2], .agg #[.slice A3 n3 c3, .slice A4 n4 c4]] w (fun e w' => e = .returned (.bool true) ∧ B8 w w') := by
  have H1 := Lib.hid h1
  have H2 := Lib.hid h2
  have H3 := Lib.hid h3
  have H4 := Lib.hid h4
  have X1 := Lib.hid e1
  have X2 := Lib.hid e2
  have a1 := pf_box w (.slice A1 n1 c1) (.slice A2 n2 c2)
  have b1 := B8.alloc w (.cells #[.slice A1 n1 c1, .slice A2 n2 c2] 33)
  obtain ⟨u, hu⟩ : ∃ u, w.alloc (.cells #[.slice A1 n1 c1, .slice A2 n2 c2] 33) = u := ⟨_, rfl⟩
  rw [hu] at a1 b1
  have su : u.heap.size = w.heap.size + 1 := by rw [← hu]; simp
  have a2 := pf_box u (.slice A3 n3 c3) (.slice A4 n4 c4)
  have b2 := B8.alloc u (.cells #[.slice A3 n3 c3, .slice A4 n4 c4] 33)
  obtain ⟨v, hv⟩ : ∃ v, u.alloc (.cells #[.slice A3 n3 c3, .slice A4 n4 c4] 33) = v := ⟨_, rfl⟩
  rw [hv] at a2 b2
  rw [su] at a2
  have x0 := (b2.cell (o := 0) (show w.heap.size < u.heap.size by omega)).trans a1.1
  have x1 := (b2.cell (o := 1) (show w.heap.size < u.heap.size by omega)).trans a1.2
  have x2 := a2.1
  have x3 := a2.2
  have A2h := Lib.hid a2
  have XX := Lib.hid (And.intro x0 x1)
  have BV := Lib.hid (b1.trans b2)
  have sv : v.heap.size = w.heap.size + 2 := by rw [← hv]; simp [su]
  have l0 : w.heap.size < v.heap.size := by omega
  have l1 : w.heap.size + 1 < v.heap.size := by omega
  have L01 := Lib.hid (And.intro l0 l1)
  clear h1 h2 h3 h4 e1 e2 a1 b1 a2 b2 sv l0 l1
  go_enter Tryz.func16, Tryz.ntmps16
  go_wp2_with fail
  refine (same8 (BV.out.cn H1.out) (BV.out.cn H3.out) X1.out).mono ?_
  rintro e w1 ⟨rfl, q, rfl⟩
  go_wp2_with fail
  refine (same8 ((B8.drewN v q).cn (BV.out.cn H2.out)) ((B8.drewN v q).cn (BV.out.cn H4.out)) X2.out).mono ?_
  rintro e w1 ⟨rfl, q2, rfl⟩
  go_wp2_with fail
  go_ret
  exact ⟨rfl, BV.out.trans (B8.drewN _ _)⟩
end Go.Proofs.YtloibmemlkfkfaaGreatDoor
