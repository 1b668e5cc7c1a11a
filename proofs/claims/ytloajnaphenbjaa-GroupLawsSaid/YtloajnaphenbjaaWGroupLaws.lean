/-
  GroupLaws: walked through.
-/
import Derived.Test.YtloajnaphenbjaaGru
import Derived.Test.YtloajnaphenbjaaRedA
import Derived.Test.YtloajnaphenbjaaAr0
namespace Go.Proofs.Ytloajnaphenbjaa
open Go.RowKit
set_option linter.unusedVariables false
section
variable {w : World} {sA : Option Addr} {ns cs : Nat} {zs : List Int} {tA : Option Addr} {nt ct : Nat} {zt : List Int}
set_option maxHeartbeats 8000000 in
set_option maxRecDepth 100000 in
theorem groupLaws_over (i : Int) (hi : -9223372036854775808 ≤ i ∧ i ≤ 9223372036854775807) (hs : Told w sA ns cs zs) (ht : Told w tA nt ct zt) (hl : 64 < ns ∨ 64 < nt) :
    Calls Try.prog 3 #[.int .i64 i, .slice sA ns cs, .slice tA nt ct] w fun e w' => e = .returned (.bool true) ∧ Below w.heap.size w w' := by
  have ds := hs.c60
  have dt := ht.c60
  have hcase : (64 < ns) ∨ (ns ≤ 64 ∧ 64 < nt) := by omega
  have HI := Lib.hid hi
  clear hl hi
  go_enter Try.func3, Try.ntmps3
  go_wp2_with fail
  refine (up_any w).mono ?_
  rintro e w1 ⟨rfl, b1⟩
  go_wp2_with fail
  refine (known_any i HI.out w1).mono ?_
  rintro e w2 ⟨A, n, c, A', n', c', rfl, kg, b2⟩
  have g2 := b1.trans (b2.mono b1.size)
  clear b1 b2
  go_wp2_with fail
  refine (kg_new (kix_lt i) kg).mono ?_
  rintro e w3 ⟨b, d, rfl, gr, -, -, -, b3, -, -⟩
  have G := Lib.hid (g2.trans (b3.mono g2.size))
  clear g2 b3 kg gr
  rcases hcase with h | ⟨h, h'⟩
  · have t1 : decide ((64 : Int) < (ns : Int)) = true := by simp; omega
    go_wp2
    go_ret
    exact ⟨rfl, G.out⟩
  · have t1 : decide ((64 : Int) < (ns : Int)) = false := by simp; omega
    have t2 : decide ((64 : Int) < (nt : Int)) = true := by simp; omega
    go_wp2
    go_ret
    exact ⟨rfl, G.out⟩
set_option maxHeartbeats 8000000 in
set_option maxRecDepth 100000 in
theorem groupLaws_ok (i : Int) (hi : -9223372036854775808 ≤ i ∧ i ≤ 9223372036854775807) {X Y : Int} (hs : Nm w sA ns cs X) (ht : Nm w tA nt ct Y) (ls : ns ≤ 64) (lt : nt ≤ 64) :
    Calls Try.prog 3 #[.int .i64 i, .slice sA ns cs, .slice tA nt ct] w fun e w' => e = .returned (.bool true) ∧ Below w.heap.size w w' := by
  have t1 : decide ((64 : Int) < (ns : Int)) = false := by simp; omega
  have t2 : decide ((64 : Int) < (nt : Int)) = false := by simp; omega
  have dx : dl X ≤ 64 := by have := hs.dl_le; omega
  have dy : dl Y ≤ 64 := by have := ht.dl_le; omega
  have x0 := hs.pos
  have y0 := ht.pos
  have HI := Lib.hid hi
  clear hi
  go_enter Try.func3, Try.ntmps3
  go_wp2_with fail
  refine (up_any w).mono ?_
  rintro e w1 ⟨rfl, b1⟩
  go_wp2_with fail
  refine (known_any i HI.out w1).mono ?_
  rintro e w2 ⟨A, n, c, A', n', c', rfl, kg, b2⟩
  have g2 := b1.trans (b2.mono b1.size)
  clear b1 b2
  go_wp2_with fail
  refine (kg_new (kix_lt i) kg).mono ?_
  rintro e w3 ⟨b, d, rfl, gr, -, -, -, b3, -, -⟩
  have g3 := g2.trans (b3.mono g2.size)
  clear g2 b3 kg
  have p2 := gr.safe.p2
  have q1 := gr.safe.q1
  have EA := gr.el.pow p2 q1 X.toNat
  have EB := gr.el.pow p2 q1 Y.toNat
  have HEA := Lib.hid EA
  have HEB := Lib.hid EB
  have HEP := Lib.hid (EA.mul p2 q1 EB)
  have SUM := Lib.hid (gr.el.sum p2 q1 x0 y0)
  have BACK := Lib.hid (EA.back p2 q1 EB)
  have TOQ := Lib.hid EA.2.2
  have lq : dl d.Q ≤ 64 := by have := gr.lq; omega
  clear EA EB p2 q1
  go_wp2_with fail
  refine (gbase_any gr (hs.below g3) dx).mono ?_
  rintro e w4 ⟨Ba, na, ca, rfl, ka, b4, -⟩
  have g4 := g3.trans (b4.mono g3.size)
  have gr := gr.below b4
  clear g3 b4
  go_wp2_with fail
  refine (gbase_any gr (ht.below g4) dy).mono ?_
  rintro e w5 ⟨Bb, nb', cb, rfl, kb, b5, -⟩
  have g5 := g4.trans (b5.mono g4.size)
  have gr := gr.below b5
  have ka := ka.below b5
  clear g4 b5
  go_wp2_with fail
  refine (gscalars_any gr.toGr0).mono ?_
  rintro e w6 ⟨bs, As, cs', lows, Bs, cBs, Ss, cSs, rfl, md, b6, -⟩
  have g6 := g5.trans (b6.mono g5.size)
  have gr := gr.below b6
  have ka := ka.below b6
  have kb := kb.below b6
  clear g5 b6
  have rs := (md.rest (X + Y)).2.2.2
  go_wp2_with fail
  refine (madd_any md (hs.below g6) (ht.below g6) dx dy).mono ?_
  rintro e w7 ⟨Bt, nt', ct', rfl, kt, b7, -⟩
  have g7 := g6.trans (b7.mono g6.size)
  have gr := gr.below b7
  have ka := ka.below b7
  have kb := kb.below b7
  clear g6 b7 md
  go_wp2_with fail
  refine (gbase_any gr kt.nm rs).mono ?_
  rintro e w8 ⟨Bc, nc, cc, rfl, kc, b8, -⟩
  rw [SUM.out] at kc
  have g8 := g7.trans (b8.mono g7.size)
  have gr := gr.below b8
  have ka := ka.below b8
  have kb := kb.below b8
  clear g7 b8 kt
  go_wp2_with fail
  refine (gmul_any gr.toGr0 ka.nm kb.nm HEA.out HEB.out).mono ?_
  rintro e w9 ⟨Bp, np, cp, rfl, kp, b9, -⟩
  have g9 := g8.trans (b9.mono g8.size)
  have gr := gr.below b9
  have ka := ka.below b9
  have kb := kb.below b9
  have kc := kc.below b9
  clear g8 b9
  go_wp2_with fail
  refine (gover_any gr.toGr0 kp.nm kb.nm HEP.out HEB.out).mono ?_
  rintro e w10 ⟨Bo, no, co, rfl, ko, b10, -⟩
  rw [BACK.out] at ko
  have g10 := g9.trans (b10.mono g9.size)
  have gr := gr.below b10
  have ka := ka.below b10
  have kc := kc.below b10
  have kp := kp.below b10
  clear g9 b10 kb
  go_wp2_with fail
  refine (gq_any gr.toGr0).mono ?_
  rintro e w11 ⟨Bq, nq, cq, rfl, kq, b11, -⟩
  have g11 := g10.trans (b11.mono g10.size)
  have gr := gr.below b11
  have ka := ka.below b11
  have kc := kc.below b11
  have kp := kp.below b11
  have ko := ko.below b11
  clear g10 b11
  go_wp2_with fail
  refine (gexp_any gr.toGr0 ka.nm kq.nm HEA.out lq).mono ?_
  rintro e w12 ⟨Br, nr, cr, rfl, kr, b12, -⟩
  rw [TOQ.out] at kr
  have g12 := g11.trans (b12.mono g11.size)
  have gr := gr.below b12
  have ka := ka.below b12
  have kc := kc.below b12
  have kp := kp.below b12
  have ko := ko.below b12
  clear g11 b12 kq
  go_wp2_with fail
  refine (same_cn kc kp).mono ?_
  rintro e w13 ⟨rfl, b13⟩
  have g13 := g12.trans (b13.mono g12.size)
  have gr := gr.below b13
  have ka := ka.below b13
  have kc := kc.below b13
  have ko := ko.below b13
  have kr := kr.below b13
  clear g12 b13 kp
  go_wp2_with fail
  refine (same_cn ko ka).mono ?_
  rintro e w14 ⟨rfl, b14⟩
  have g14 := g13.trans (b14.mono g13.size)
  have gr := gr.below b14
  have ka := ka.below b14
  have kc := kc.below b14
  have kr := kr.below b14
  clear g13 b14 ko
  go_wp2_with fail
  refine (one_is kr).mono ?_
  rintro e w15 ⟨rfl, rfl⟩
  go_wp2_with fail
  refine (gis_yes gr.toGr0 ka.nm HEA.out).mono ?_
  rintro e w15 ⟨rfl, b15⟩
  have g15 := g14.trans (b15.mono g14.size)
  have gr := gr.below b15
  have kc := kc.below b15
  clear g14 b15 ka kr
  go_wp2_with fail
  refine (gis_yes gr.toGr0 kc.nm HEP.out).mono ?_
  rintro e w16 ⟨rfl, b16⟩
  have G := Lib.hid (g15.trans (b16.mono g15.size))
  clear g15 b16 kc gr
  go_wp2
  go_ret
  exact ⟨rfl, G.out⟩
theorem groupLaws_walk (i : Int) (hi : -9223372036854775808 ≤ i ∧ i ≤ 9223372036854775807) (hs : Told w sA ns cs zs) (ht : Told w tA nt ct zt) :
    Calls Try.prog 3 #[.int .i64 i, .slice sA ns cs, .slice tA nt ct] w fun e w' => e = .returned (.bool true) ∧ Below w.heap.size w w' := by
  by_cases h : 64 < ns ∨ 64 < nt
  · exact groupLaws_over i hi hs ht h
  · exact groupLaws_ok i hi hs.nm ht.nm (by omega) (by omega)
end
end Go.Proofs.Ytloajnaphenbjaa
