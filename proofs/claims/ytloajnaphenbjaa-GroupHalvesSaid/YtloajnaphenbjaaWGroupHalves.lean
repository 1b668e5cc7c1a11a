/-
  GroupHalves: walked through.
-/
import Derived.Test.YtloajnaphenbjaaGru
import Derived.Test.YtloajnaphenbjaaAr0
import Derived.Test.YtloajnaphenbjaaRpk
namespace Go.Proofs.Ytloajnaphenbjaa
open Go.RowKit
set_option linter.unusedVariables false
section
variable {w : World} {aA : Option Addr} {na ca : Nat} {za : List Int}
set_option maxHeartbeats 8000000 in
set_option maxRecDepth 100000 in
theorem groupHalves_over (i : Int) (hi : -9223372036854775808 ≤ i ∧ i ≤ 9223372036854775807) (ha : Told w aA na ca za) (hl : 60 < na) :
    Calls Try.prog 4 #[.int .i64 i, .slice aA na ca] w fun e w' => e = .returned (.bool true) ∧ Below w.heap.size w w' := by
  have da := ha.c60
  have t1 : decide ((60 : Int) < (na : Int)) = true := by simp; omega
  have HI := Lib.hid hi
  clear hi
  go_enter Try.func4, Try.ntmps4
  go_wp2_with fail
  refine (up_any w).mono ?_
  rintro e w1 ⟨rfl, b1⟩
  go_wp2_with fail
  refine (known_any i HI.out w1).mono ?_
  rintro e w2 ⟨A, n, c, A', n', c', rfl, kg, b2⟩
  have g2 := b1.trans (b2.mono b1.size)
  clear b1 b2
  go_wp2_with fail
  refine (kg_new (kix_lt i) kg).mono ?_
  rintro e w3 ⟨b, d, rfl, gr, -, -, -, b3, -, -⟩
  have G := Lib.hid (g2.trans (b3.mono g2.size))
  clear g2 b3 kg gr
  go_wp2
  go_ret
  exact ⟨rfl, G.out⟩
set_option maxHeartbeats 8000000 in
set_option maxRecDepth 100000 in
theorem groupHalves_ok (i : Int) (hi : -9223372036854775808 ≤ i ∧ i ≤ 9223372036854775807) {X : Int} (ha : Nm w aA na ca X) (la : na ≤ 60) :
    Calls Try.prog 4 #[.int .i64 i, .slice aA na ca] w fun e w' => e = .returned (.bool true) ∧ Below w.heap.size w w' := by
  have t1 : decide ((60 : Int) < (na : Int)) = false := by simp; omega
  have dx : dl X ≤ 60 := by have := ha.dl_le; omega
  have x0 := ha.pos
  have HI := Lib.hid hi
  clear hi
  go_enter Try.func4, Try.ntmps4
  go_wp2_with fail
  refine (up_any w).mono ?_
  rintro e w1 ⟨rfl, b1⟩
  go_wp2_with fail
  refine (known_any i HI.out w1).mono ?_
  rintro e w2 ⟨A, n, c, A', n', c', rfl, kg, b2⟩
  have g2 := b1.trans (b2.mono b1.size)
  clear b1 b2
  go_wp2_with fail
  refine (kg_new (kix_lt i) kg).mono ?_
  rintro e w3 ⟨b, d, rfl, gr, -, -, -, b3, -, -⟩
  have g3 := g2.trans (b3.mono g2.size)
  clear g2 b3 kg
  have p0 : 0 < d.P := by have := gr.safe.p2; omega
  have lp := gr.lp
  have drp := dr_le (N := d.P) (by omega) lp
  have drx := dr_le x0 dx
  have u0 := Int.emod_nonneg X (show d.P ≠ 0 by omega)
  have u1 := Int.emod_lt_of_pos X p0
  have dru : dr (X % d.P) ≤ dr d.P := dr_rest p0
  obtain ⟨u, hu⟩ : ∃ u, X % d.P = u := ⟨_, rfl⟩
  rw [hu] at u0 u1 dru
  have HU := Lib.hid hu
  clear hu lp
  go_wp2_with fail
  refine (gp_any gr.toGr0).mono ?_
  rintro e w4 ⟨B4, n4, c4, rfl, k4, b4, -⟩
  have g4 := g3.trans (b4.mono g3.size)
  have gr := gr.below b4
  have n4l : n4 ≤ 1000 := by have := k4.len_; have := gr.lp; omega
  clear g3 b4
  go_wp2_with fail
  refine (of_nm k4.nm n4l).mono ?_
  rintro e w5 ⟨B5, n5, c5, rfl, k5, b5⟩
  have g5 := g4.trans (b5.mono g4.size)
  have gr := gr.below b5
  have n5l : n5 ≤ 1000 := by have := k5.len_; omega
  clear g4 b5 k4
  go_wp2_with fail
  refine (of_nm (ha.below g5) (by omega)).mono ?_
  rintro e w6 ⟨B6, n6, c6, rfl, k6, b6⟩
  have g6 := g5.trans (b6.mono g5.size)
  have gr := gr.below b6
  have k5 := k5.below b6
  have n6l : n6 ≤ 1000 := by have := k6.len_; omega
  clear g5 b6
  go_wp2_with fail
  refine (rrest_any k6 k5 n6l n5l p0).mono ?_
  rintro e w7 ⟨B7, n7, c7, rfl, k7, b7⟩
  rw [HU.out] at k7
  have g7 := g6.trans (b7.mono g6.size)
  have gr := gr.below b7
  have k5 := k5.below b7
  have n7l : n7 ≤ 1000 := by have := k7.len_; omega
  have hlen := k7.len_
  clear g6 b7 k6
  have PN := Lib.hid (show ¬ El d.P d.Q d.P from fun h => by have := h.2.1; omega)
  rcases Int.lt_or_eq_of_le u0 with up | up
  · have n7p : 0 < n7 := by
      have := (dg_nil_iff D_two u0)
      have h2 : dr u ≠ 0 := fun e => by have := this.1 e; omega
      omega
    have z0 : ((n7 : Int) == 0) = false := by simp; omega
    have z0' : (n7 == 0) = false := by simp; omega
    have HALF := Lib.hid (el_halves gr.safe gr.el gr.g1 (show 1 ≤ u by omega) u1)
    have HL := Lib.hid hlen
    clear hlen
    go_wp2_with fail
    refine (to_cn k7 (by omega)).mono ?_
    rintro e w8 ⟨B8, n8, c8, rfl, k8, b8⟩
    have g8 := g7.trans (b8.mono g7.size)
    have gr := gr.below b8
    have k5 := k5.below b8
    have k7 := k7.below b8
    clear g7 b8
    rcases HALF.out with ⟨y1, y2⟩ | ⟨y1, y2⟩
    · have Y1 := Lib.hid y1
      have Y2 := Lib.hid y2
      clear y1 y2
      go_wp2_with fail
      refine (gis_yes gr.toGr0 k8.nm Y1.out).mono ?_
      rintro e w9 ⟨rfl, b9⟩
      have g9 := g8.trans (b9.mono g8.size)
      have gr := gr.below b9
      have k5 := k5.below b9
      have k7 := k7.below b9
      clear g8 b9 k8
      go_wp2_with fail
      refine (rsub_any k5 k7 (by omega) (by omega)).mono ?_
      rintro e w10 ⟨B10, n10, c10, rfl, k10, b10⟩
      have g10 := g9.trans (b10.mono g9.size)
      have gr := gr.below b10
      have n10l : n10 ≤ 100000 := by have := k10.len_; have := dr_mono (N := d.P - u) (M := d.P) (by omega) (by omega); omega
      clear g9 b10 k5 k7
      go_wp2_with fail
      refine (to_cn k10 n10l).mono ?_
      rintro e w11 ⟨B11, n11, c11, rfl, k11, b11⟩
      have g11 := g10.trans (b11.mono g10.size)
      have gr := gr.below b11
      clear g10 b11 k10
      go_wp2_with fail
      refine (gis_no gr.toGr0 k11.nm Y2.out).mono ?_
      rintro e w12 ⟨rfl, b12⟩
      have G := Lib.hid (g11.trans (b12.mono g11.size))
      clear g11 b12 k11 gr
      go_wp2
      go_ret
      exact ⟨rfl, G.out⟩
    · have Y1 := Lib.hid y1
      have Y2 := Lib.hid y2
      clear y1 y2
      go_wp2_with fail
      refine (gis_no gr.toGr0 k8.nm Y1.out).mono ?_
      rintro e w9 ⟨rfl, b9⟩
      have g9 := g8.trans (b9.mono g8.size)
      have gr := gr.below b9
      have k5 := k5.below b9
      have k7 := k7.below b9
      clear g8 b9 k8
      go_wp2_with fail
      refine (rsub_any k5 k7 (by omega) (by omega)).mono ?_
      rintro e w10 ⟨B10, n10, c10, rfl, k10, b10⟩
      have g10 := g9.trans (b10.mono g9.size)
      have gr := gr.below b10
      have n10l : n10 ≤ 100000 := by have := k10.len_; have := dr_mono (N := d.P - u) (M := d.P) (by omega) (by omega); omega
      clear g9 b10 k5 k7
      go_wp2_with fail
      refine (to_cn k10 n10l).mono ?_
      rintro e w11 ⟨B11, n11, c11, rfl, k11, b11⟩
      have g11 := g10.trans (b11.mono g10.size)
      have gr := gr.below b11
      clear g10 b11 k10
      go_wp2_with fail
      refine (gis_yes gr.toGr0 k11.nm Y2.out).mono ?_
      rintro e w12 ⟨rfl, b12⟩
      have G := Lib.hid (g11.trans (b12.mono g11.size))
      clear g11 b12 k11 gr
      go_wp2
      go_ret
      exact ⟨rfl, G.out⟩
  · have n70 : n7 = 0 := by
      have := (dg_nil_iff D_two u0).2 up.symm
      have h2 : dr u = 0 := this
      omega
    have HL := Lib.hid hlen
    clear hlen
    subst n70
    clear up
    go_wp2_with fail
    refine (gis_zero gr.toGr0 (Cn.nil _).nm).mono ?_
    rintro e w8 ⟨rfl, b8⟩
    have g8 := g7.trans (b8.mono g7.size)
    have gr := gr.below b8
    clear g7 b8 k7 k5
    go_wp2_with fail
    refine (gp_any gr.toGr0).mono ?_
    rintro e w9 ⟨B9, n9, c9, rfl, k9, b9, -⟩
    have g9 := g8.trans (b9.mono g8.size)
    have gr := gr.below b9
    clear g8 b9
    go_wp2_with fail
    refine (gis_no gr.toGr0 k9.nm PN.out).mono ?_
    rintro e w10 ⟨rfl, b10⟩
    have G := Lib.hid (g9.trans (b10.mono g9.size))
    clear g9 b10 k9 gr
    go_wp2
    go_ret
    exact ⟨rfl, G.out⟩
theorem groupHalves_walk (i : Int) (hi : -9223372036854775808 ≤ i ∧ i ≤ 9223372036854775807) (ha : Told w aA na ca za) :
    Calls Try.prog 4 #[.int .i64 i, .slice aA na ca] w fun e w' => e = .returned (.bool true) ∧ Below w.heap.size w w' := by
  by_cases h : 60 < na
  · exact groupHalves_over i hi ha h
  · exact groupHalves_ok i hi ha.nm (by omega)
end
end Go.Proofs.Ytloajnaphenbjaa
