/-
  Small calls of layer 2's statements: one, long, num, up (the document's examples hold), made.
-/
import Derived.Test.YtelhkmgbpcojiaaDoorExp
import Derived.Test.YtelhkmgbpcojiaaDoorInv
import Derived.Test.YtelhkmgbpcojiaaDoorKit
import Derived.Test.YtelhkmgbpcojiaaDoorOfAr
namespace Go.Proofs.YtelhkmgbpcojiaaDoor
open Go.RowKit
set_option linter.unusedVariables false
theorem num_any {A : Option Addr} {n c : Nat} {N : Int} {w : World} (h : Rn w A n c N) (hn : n ≤ 100000) :
    Calls Tryd.prog 9 #[.slice A n c] w (AnsL N w) := by
  go_enter Tryd.func9, Tryd.ntmps9
  go_wp2_with fail
  refine (to_any h hn).mono ?_
  rintro e w1 ⟨B1, n1, c1, rfl, k1, b1⟩
  go_wp2
  go_ret
  exact ⟨_, _, _, rfl, k1, b1⟩
theorem one_yes {A : Option Addr} {n c : Nat} {x : Int} {w : World} (h : Cn w A n c x) (h0 : 1 ≤ x) (h1 : x < 18446744073709551616) :
    Calls Tryd.prog 17 #[.slice A n c, .int .u64 x] w (AnsV (.bool true) w) := by
  obtain ⟨rfl, b, off, rfl, hb, hc⟩ := cn_one h h0 h1
  have hq : ((x : Int) == x) = true := by simp
  clear h
  go_enter Tryd.func17, Tryd.ntmps17
  go_wp2
  go_ret
  exact ⟨rfl, Below.refl _ _⟩
theorem dl23 {x : Int} (h0 : 0 ≤ x) (h1 : x < W) : dl x ≤ 32 := by
  have := dl_le h0 (k := 1) (by simpa [Int.pow_succ] using h1)
  omega
theorem five {U : Int} (h0 : 1 ≤ U) (h1 : U < 23) (h : Eqm 23 (5 * U) 1) : U = 14 := by
  have := h.emod
  omega
set_option maxHeartbeats 8000000 in
set_option maxRecDepth 100000 in
theorem up_any (w : World) : Calls Tryd.prog 4 #[] w (AnsV (.bool true) w) := by
  have l23 := lit_one w 23 (by decide) (by decide)
  have L23 := Lib.hid l23
  clear l23
  go_enter Tryd.func4, Tryd.ntmps4
  go_wp2_with fail
  refine (new_any L23.out (dl23 (by decide) (by decide)) (by decide) (by decide)).mono ?_
  rintro e w1 ⟨b, A, c, low, B, cB, S, cS, rfl, md, b1, -, -, -, -⟩
  have g1 := below_one b1
  clear b1 L23
  obtain ⟨l1, l2⟩ := lit_two w1 2 11 (by decide) (by decide) (by decide) (by decide)
  have L1 := Lib.hid l1
  have L2 := Lib.hid l2
  clear l1 l2
  go_wp2_with fail
  refine (exp_any ((md.below (below_al _ _)).below (below_al _ _)) L1.out L2.out (dl_small (by decide) (by decide)) (dl_small (by decide) (by decide))).mono ?_
  rintro e w2 ⟨Ba, na, ca, rfl, ka, b2, -⟩
  have g12 := below_two b2
  have g2 := g1.trans (g12.mono g1.size)
  have ka : Cn w2 Ba na ca 1 := ka
  have md2 := md.below g12
  clear b2 L1 L2 g1 md
  go_wp2_with fail
  refine (exp_any md2 (Cn.nil _).nm (Cn.nil _).nm (dl_small (by decide) (by decide)) (dl_small (by decide) (by decide))).mono ?_
  rintro e w3 ⟨Bb, nb', cb, rfl, kb, b3, -⟩
  have g3 := g2.trans (b3.mono g2.size)
  have kb : Cn w3 Bb nb' cb 1 := kb
  have ka := ka.below b3
  have md3 := md2.below b3
  clear b3 g2 md2
  have L1 := Lib.hid (lit_one w3 5 (by decide) (by decide))
  go_wp2_with fail
  refine (inverse_any (md3.below (below_al _ _)) L1.out (dl_small (by decide) (by decide)) (by decide)).mono ?_
  rintro e w4 ⟨U, u0, u1, hu, Bc, nc, cc, rfl, kc, b4, -⟩
  obtain rfl := five u0 u1 hu
  have g34 := below_one b4
  have g4 := g3.trans (g34.mono g3.size)
  have ka := ka.below g34
  have kb := kb.below g34
  have md4 := md3.below g34
  clear b4 g3 md3 L1 u0 u1 hu
  obtain ⟨l1, l2⟩ := lit_two w4 1 2 (by decide) (by decide) (by decide) (by decide)
  have L1 := Lib.hid l1
  have L2 := Lib.hid l2
  clear l1 l2
  go_wp2_with fail
  refine (msub_any ((md4.below (below_al _ _)).below (below_al _ _)) L1.out L2.out (dl_small (by decide) (by decide)) (dl_small (by decide) (by decide))).mono ?_
  rintro e w5 ⟨Bd, nd, cd, rfl, kd, b5, -⟩
  have g45 := below_two b5
  have g5 := g4.trans (g45.mono g4.size)
  have kd : Cn w5 Bd nd cd 22 := kd
  have ka := ka.below g45
  have kb := kb.below g45
  have kc := kc.below g45
  have md5 := md4.below g45
  clear b5 g4 md4 L1 L2
  go_wp2_with fail
  refine (inverse_none md5 (Cn.nil _).nm (dl_small (by decide) (by decide)) (by decide)).mono ?_
  rintro e w6 ⟨rfl, b6⟩
  have g6 := g5.trans (b6.mono g5.size)
  have ka := ka.below b6
  have kb := kb.below b6
  have kc := kc.below b6
  have kd := kd.below b6
  clear b6 g5 md5
  have L1 := Lib.hid (lit_one w6 4 (by decide) (by decide))
  go_wp2_with fail
  refine (new_even L1.out (dl23 (by decide) (by decide)) (.inl (by decide))).mono ?_
  rintro e w7 ⟨rfl, b7⟩
  have g67 := below_one b7
  have g7 := g6.trans (g67.mono g6.size)
  have ka := ka.below g67
  have kb := kb.below g67
  have kc := kc.below g67
  have kd := kd.below g67
  clear b7 g6 L1
  have q1 := eql_code 6 6
  have q2 := eql_code 5 5
  go_wp2_with fail
  refine (one_yes ka (by decide) (by decide)).mono ?_
  rintro e w8 ⟨rfl, b8⟩
  have g8 := g7.trans (b8.mono g7.size)
  have kb := kb.below b8
  have kc := kc.below b8
  have kd := kd.below b8
  clear b8 g7 ka
  go_wp2_with fail
  refine (one_yes kb (by decide) (by decide)).mono ?_
  rintro e w9 ⟨rfl, b9⟩
  have g9 := g8.trans (b9.mono g8.size)
  have kc := kc.below b9
  have kd := kd.below b9
  clear b9 g8 kb
  go_wp2_with fail
  refine (one_yes kc (by decide) (by decide)).mono ?_
  rintro e w10 ⟨rfl, b10⟩
  have g10 := g9.trans (b10.mono g9.size)
  have kd := kd.below b10
  clear b10 g9 kc
  go_wp2_with fail
  refine (one_yes kd (by decide) (by decide)).mono ?_
  rintro e w11 ⟨rfl, b11⟩
  have g11 := g10.trans (b11.mono g10.size)
  have G := Lib.hid g11
  clear b11 g10 kd g11
  go_wp2
  go_ret
  exact ⟨rfl, G.out⟩
end Go.Proofs.YtelhkmgbpcojiaaDoor
