/-
  The walk of MontPowers: any power modulo any number.
-/
import Derived.Test.YtelhkmgbpcojiaaMade
import Derived.Test.YtelhkmgbpcojiaaRExp
namespace Go.Proofs.Ytelhkmgbpcojiaa
open Go.RowKit
set_option linter.unusedVariables false
set_option maxHeartbeats 8000000 in
set_option maxRecDepth 100000 in
theorem montPowers_over0 {w : World} {mA : Option Addr} {nm cm : Nat} {zm : List Int} {M : Int} {aA : Option Addr} {na ca : Nat} {za : List Int} {A : Int} {kA : Option Addr} {nk ck : Nat} {zk : List Int} {K : Int} (hm : Ar w mA nm cm zm M) (ha : Ar w aA na ca za A) (hk : Ar w kA nk ck zk K)  (lm : 300 < nm) :
    Calls Try.prog 4 #[.slice mA nm cm, .slice aA na ca, .slice kA nk ck] w fun e w' => e = .returned (.bool true) ∧ Below w.heap.size w w' := by
  have dm := hm.told.c60
  have da := ha.told.c60
  have dk := hk.told.c60
  go_enter Try.func4, Try.ntmps4
  go_wp2_with fail
  refine (up_any _).mono ?_
  rintro e w1 ⟨rfl, b1⟩
  have G := Lib.hid b1
  clear b1
  go_wp2
  go_ret
  exact ⟨rfl, G.out⟩
set_option maxHeartbeats 8000000 in
set_option maxRecDepth 100000 in
theorem montPowers_over1 {w : World} {mA : Option Addr} {nm cm : Nat} {zm : List Int} {M : Int} {aA : Option Addr} {na ca : Nat} {za : List Int} {A : Int} {kA : Option Addr} {nk ck : Nat} {zk : List Int} {K : Int} (hm : Ar w mA nm cm zm M) (ha : Ar w aA na ca za A) (hk : Ar w kA nk ck zk K) (lm : nm ≤ 300) (la : 300 < na) :
    Calls Try.prog 4 #[.slice mA nm cm, .slice aA na ca, .slice kA nk ck] w fun e w' => e = .returned (.bool true) ∧ Below w.heap.size w w' := by
  have dm := hm.told.c60
  have da := ha.told.c60
  have dk := hk.told.c60
  go_enter Try.func4, Try.ntmps4
  go_wp2_with fail
  refine (up_any _).mono ?_
  rintro e w1 ⟨rfl, b1⟩
  have G := Lib.hid b1
  clear b1
  go_wp2
  go_ret
  exact ⟨rfl, G.out⟩
set_option maxHeartbeats 8000000 in
set_option maxRecDepth 100000 in
theorem montPowers_over2 {w : World} {mA : Option Addr} {nm cm : Nat} {zm : List Int} {M : Int} {aA : Option Addr} {na ca : Nat} {za : List Int} {A : Int} {kA : Option Addr} {nk ck : Nat} {zk : List Int} {K : Int} (hm : Ar w mA nm cm zm M) (ha : Ar w aA na ca za A) (hk : Ar w kA nk ck zk K) (lm : nm ≤ 300) (la : na ≤ 300) (lk : 300 < nk) :
    Calls Try.prog 4 #[.slice mA nm cm, .slice aA na ca, .slice kA nk ck] w fun e w' => e = .returned (.bool true) ∧ Below w.heap.size w w' := by
  have dm := hm.told.c60
  have da := ha.told.c60
  have dk := hk.told.c60
  go_enter Try.func4, Try.ntmps4
  go_wp2_with fail
  refine (up_any _).mono ?_
  rintro e w1 ⟨rfl, b1⟩
  have G := Lib.hid b1
  clear b1
  go_wp2
  go_ret
  exact ⟨rfl, G.out⟩
set_option maxHeartbeats 8000000 in
set_option maxRecDepth 100000 in
theorem montPowers_long {w : World} {mA : Option Addr} {nm cm : Nat} {zm : List Int} {M : Int} {aA : Option Addr} {na ca : Nat} {za : List Int} {A : Int} {kA : Option Addr} {nk ck : Nat} {zk : List Int} {K : Int} (hm : Ar w mA nm cm zm M) (ha : Ar w aA na ca za A) (hk : Ar w kA nk ck zk K) (lm : nm ≤ 300) (la : na ≤ 300) (lk : nk ≤ 300) (hl : 32 < dl M) :
    Calls Try.prog 4 #[.slice mA nm cm, .slice aA na ca, .slice kA nk ck] w fun e w' => e = .returned (.bool true) ∧ Below w.heap.size w w' := by
  go_enter Try.func4, Try.ntmps4
  go_wp2_with fail
  refine (up_any _).mono ?_
  rintro e w1 ⟨rfl, b1⟩
  have hm := hm.below b1
  go_wp2_with fail
  refine (made_long hm (by omega) hl).mono ?_
  rintro e w2 ⟨rfl, bn⟩
  have b2 := b1.trans (bn.mono b1.size)
  have hm := hm.below bn
  clear b1 bn
  have G := Lib.hid b2
  clear b2
  go_wp2
  go_ret
  exact ⟨rfl, G.out⟩
set_option maxHeartbeats 8000000 in
set_option maxRecDepth 100000 in
theorem montPowers_even {w : World} {mA : Option Addr} {nm cm : Nat} {zm : List Int} {M : Int} {aA : Option Addr} {na ca : Nat} {za : List Int} {A : Int} {kA : Option Addr} {nk ck : Nat} {zk : List Int} {K : Int} (hm : Ar w mA nm cm zm M) (ha : Ar w aA na ca za A) (hk : Ar w kA nk ck zk K) (lm : nm ≤ 300) (la : na ≤ 300) (lk : nk ≤ 300) (hl : dl M ≤ 32) (he : M % 2 = 0 ∨ M < 3) :
    Calls Try.prog 4 #[.slice mA nm cm, .slice aA na ca, .slice kA nk ck] w fun e w' => e = .returned (.bool true) ∧ Below w.heap.size w w' := by
  have HE := Lib.hid he
  clear he
  go_enter Try.func4, Try.ntmps4
  go_wp2_with fail
  refine (up_any _).mono ?_
  rintro e w1 ⟨rfl, b1⟩
  have hm := hm.below b1
  go_wp2_with fail
  refine (made_even hm (by omega) hl HE.out).mono ?_
  rintro e w2 ⟨rfl, bn⟩
  have b2 := b1.trans (bn.mono b1.size)
  have hm := hm.below bn
  clear b1 bn
  have G := Lib.hid b2
  clear b2
  go_wp2
  go_ret
  exact ⟨rfl, G.out⟩
set_option maxHeartbeats 8000000 in
set_option maxRecDepth 100000 in
theorem montPowers_la {w : World} {mA : Option Addr} {nm cm : Nat} {zm : List Int} {M : Int} {aA : Option Addr} {na ca : Nat} {za : List Int} {A : Int} {kA : Option Addr} {nk ck : Nat} {zk : List Int} {K : Int} (hm : Ar w mA nm cm zm M) (ha : Ar w aA na ca za A) (hk : Ar w kA nk ck zk K) (lm : nm ≤ 300) (la : na ≤ 300) (lk : nk ≤ 300) (hl : dl M ≤ 32) (ho : M % 2 = 1) (h3 : 3 ≤ M) (g : 64 < dl A) :
    Calls Try.prog 4 #[.slice mA nm cm, .slice aA na ca, .slice kA nk ck] w fun e w' => e = .returned (.bool true) ∧ Below w.heap.size w w' := by
  have HO := Lib.hid ho
  clear ho
  have q1 := eql_code 2 2
  go_enter Try.func4, Try.ntmps4
  go_wp2_with fail
  refine (up_any _).mono ?_
  rintro e w1 ⟨rfl, b1⟩
  have hm := hm.below b1
  have ha := ha.below b1
  have hk := hk.below b1
  go_wp2_with fail
  refine (made_any hm (by omega) hl HO.out h3).mono ?_
  rintro e w2 ⟨b, MA, mc, low, OB, cB, SS, cS, rfl, md, bn⟩
  have b2 := b1.trans (bn.mono b1.size)
  have hm := hm.below bn
  have ha := ha.below bn
  have hk := hk.below bn
  clear b1 bn
  go_wp2_with fail
  refine (long_yes ha.nm g).mono ?_
  rintro e w3 ⟨rfl, rfl⟩
  have b3 := b2
  clear b2
  go_wp2_with fail
  refine (exp_long md ha.nm hk.nm (.inl g)).mono ?_
  rintro e w4 ⟨rfl, bn⟩
  have b4 := b3.trans (bn.mono b3.size)
  have hm := hm.below bn
  have ha := ha.below bn
  have hk := hk.below bn
  have md := md.below bn
  clear b3 bn
  have G := Lib.hid b4
  clear b4
  go_wp2
  go_ret
  exact ⟨rfl, G.out⟩
set_option maxHeartbeats 8000000 in
set_option maxRecDepth 100000 in
theorem montPowers_lk {w : World} {mA : Option Addr} {nm cm : Nat} {zm : List Int} {M : Int} {aA : Option Addr} {na ca : Nat} {za : List Int} {A : Int} {kA : Option Addr} {nk ck : Nat} {zk : List Int} {K : Int} (hm : Ar w mA nm cm zm M) (ha : Ar w aA na ca za A) (hk : Ar w kA nk ck zk K) (lm : nm ≤ 300) (la : na ≤ 300) (lk : nk ≤ 300) (hl : dl M ≤ 32) (ho : M % 2 = 1) (h3 : 3 ≤ M) (g0 : dl A ≤ 64) (g : 64 < dl K) :
    Calls Try.prog 4 #[.slice mA nm cm, .slice aA na ca, .slice kA nk ck] w fun e w' => e = .returned (.bool true) ∧ Below w.heap.size w w' := by
  have HO := Lib.hid ho
  clear ho
  have q1 := eql_code 2 2
  go_enter Try.func4, Try.ntmps4
  go_wp2_with fail
  refine (up_any _).mono ?_
  rintro e w1 ⟨rfl, b1⟩
  have hm := hm.below b1
  have ha := ha.below b1
  have hk := hk.below b1
  go_wp2_with fail
  refine (made_any hm (by omega) hl HO.out h3).mono ?_
  rintro e w2 ⟨b, MA, mc, low, OB, cB, SS, cS, rfl, md, bn⟩
  have b2 := b1.trans (bn.mono b1.size)
  have hm := hm.below bn
  have ha := ha.below bn
  have hk := hk.below bn
  clear b1 bn
  go_wp2_with fail
  refine (long_no ha.nm g0).mono ?_
  rintro e w3 ⟨rfl, rfl⟩
  have b3 := b2
  clear b2
  go_wp2_with fail
  refine (long_yes hk.nm g).mono ?_
  rintro e w4 ⟨rfl, rfl⟩
  have b4 := b3
  clear b3
  go_wp2_with fail
  refine (exp_long md ha.nm hk.nm (.inr g)).mono ?_
  rintro e w5 ⟨rfl, bn⟩
  have b5 := b4.trans (bn.mono b4.size)
  have hm := hm.below bn
  have ha := ha.below bn
  have hk := hk.below bn
  have md := md.below bn
  clear b4 bn
  have G := Lib.hid b5
  clear b5
  go_wp2
  go_ret
  exact ⟨rfl, G.out⟩
set_option maxHeartbeats 8000000 in
set_option maxRecDepth 100000 in
theorem montPowers_few0 {w : World} {mA : Option Addr} {nm cm : Nat} {zm : List Int} {M : Int} {aA : Option Addr} {na ca : Nat} {za : List Int} {A : Int} {kA : Option Addr} {nk ck : Nat} {zk : List Int} {K : Int} (hm : Ar w mA nm cm zm M) (ha : Ar w aA na ca za A) (hk : Ar w kA nk ck zk K) (lm : nm ≤ 300) (la : na ≤ 300) (lk : nk ≤ 300) (hl : dl M ≤ 32) (ho : M % 2 = 1) (h3 : 3 ≤ M) (ga : dl A ≤ 64) (gk : dl K ≤ 64)  (sm : 6 < dl M) :
    Calls Try.prog 4 #[.slice mA nm cm, .slice aA na ca, .slice kA nk ck] w fun e w' => e = .returned (.bool true) ∧ Below w.heap.size w w' := by
  have HO := Lib.hid ho
  clear ho
  have t0 : decide ((6 : Int) < (dl M : Int)) = true := by simp; omega
  go_enter Try.func4, Try.ntmps4
  go_wp2_with fail
  refine (up_any _).mono ?_
  rintro e w1 ⟨rfl, b1⟩
  have hm := hm.below b1
  have ha := ha.below b1
  have hk := hk.below b1
  go_wp2_with fail
  refine (made_any hm (by omega) hl HO.out h3).mono ?_
  rintro e w2 ⟨b, MA, mc, low, OB, cB, SS, cS, rfl, md, bn⟩
  have b2 := b1.trans (bn.mono b1.size)
  have hm := hm.below bn
  have ha := ha.below bn
  have hk := hk.below bn
  clear b1 bn
  go_wp2_with fail
  refine (long_no ha.nm ga).mono ?_
  rintro e w3 ⟨rfl, rfl⟩
  have b3 := b2
  clear b2
  go_wp2_with fail
  refine (long_no hk.nm gk).mono ?_
  rintro e w4 ⟨rfl, rfl⟩
  have b4 := b3
  clear b3
  go_wp2_with fail
  refine (Limbs_nm hm.nm).mono ?_
  rintro e w5 ⟨rfl, rfl⟩
  have b5 := b4
  clear b4
  have G := Lib.hid b5
  clear b5
  go_wp2
  go_ret
  exact ⟨rfl, G.out⟩
set_option maxHeartbeats 8000000 in
set_option maxRecDepth 100000 in
theorem montPowers_few1 {w : World} {mA : Option Addr} {nm cm : Nat} {zm : List Int} {M : Int} {aA : Option Addr} {na ca : Nat} {za : List Int} {A : Int} {kA : Option Addr} {nk ck : Nat} {zk : List Int} {K : Int} (hm : Ar w mA nm cm zm M) (ha : Ar w aA na ca za A) (hk : Ar w kA nk ck zk K) (lm : nm ≤ 300) (la : na ≤ 300) (lk : nk ≤ 300) (hl : dl M ≤ 32) (ho : M % 2 = 1) (h3 : 3 ≤ M) (ga : dl A ≤ 64) (gk : dl K ≤ 64) (sm : dl M ≤ 6) (sk : 3 < dl K) :
    Calls Try.prog 4 #[.slice mA nm cm, .slice aA na ca, .slice kA nk ck] w fun e w' => e = .returned (.bool true) ∧ Below w.heap.size w w' := by
  have HO := Lib.hid ho
  clear ho
  have t0 : decide ((6 : Int) < (dl M : Int)) = false := by simp; omega
  have t1 : decide ((3 : Int) < (dl K : Int)) = true := by simp; omega
  go_enter Try.func4, Try.ntmps4
  go_wp2_with fail
  refine (up_any _).mono ?_
  rintro e w1 ⟨rfl, b1⟩
  have hm := hm.below b1
  have ha := ha.below b1
  have hk := hk.below b1
  go_wp2_with fail
  refine (made_any hm (by omega) hl HO.out h3).mono ?_
  rintro e w2 ⟨b, MA, mc, low, OB, cB, SS, cS, rfl, md, bn⟩
  have b2 := b1.trans (bn.mono b1.size)
  have hm := hm.below bn
  have ha := ha.below bn
  have hk := hk.below bn
  clear b1 bn
  go_wp2_with fail
  refine (long_no ha.nm ga).mono ?_
  rintro e w3 ⟨rfl, rfl⟩
  have b3 := b2
  clear b2
  go_wp2_with fail
  refine (long_no hk.nm gk).mono ?_
  rintro e w4 ⟨rfl, rfl⟩
  have b4 := b3
  clear b3
  go_wp2_with fail
  refine (Limbs_nm hm.nm).mono ?_
  rintro e w5 ⟨rfl, rfl⟩
  have b5 := b4
  clear b4
  go_wp2_with fail
  refine (Limbs_nm hk.nm).mono ?_
  rintro e w6 ⟨rfl, rfl⟩
  have b6 := b5
  clear b5
  have G := Lib.hid b6
  clear b6
  go_wp2
  go_ret
  exact ⟨rfl, G.out⟩
set_option maxHeartbeats 8000000 in
set_option maxRecDepth 100000 in
theorem montPowers_few2 {w : World} {mA : Option Addr} {nm cm : Nat} {zm : List Int} {M : Int} {aA : Option Addr} {na ca : Nat} {za : List Int} {A : Int} {kA : Option Addr} {nk ck : Nat} {zk : List Int} {K : Int} (hm : Ar w mA nm cm zm M) (ha : Ar w aA na ca za A) (hk : Ar w kA nk ck zk K) (lm : nm ≤ 300) (la : na ≤ 300) (lk : nk ≤ 300) (hl : dl M ≤ 32) (ho : M % 2 = 1) (h3 : 3 ≤ M) (ga : dl A ≤ 64) (gk : dl K ≤ 64) (sm : dl M ≤ 6) (sk : dl K ≤ 3) (sa : 12 < dl A) :
    Calls Try.prog 4 #[.slice mA nm cm, .slice aA na ca, .slice kA nk ck] w fun e w' => e = .returned (.bool true) ∧ Below w.heap.size w w' := by
  have HO := Lib.hid ho
  clear ho
  have t0 : decide ((6 : Int) < (dl M : Int)) = false := by simp; omega
  have t1 : decide ((3 : Int) < (dl K : Int)) = false := by simp; omega
  have t2 : decide ((12 : Int) < (dl A : Int)) = true := by simp; omega
  go_enter Try.func4, Try.ntmps4
  go_wp2_with fail
  refine (up_any _).mono ?_
  rintro e w1 ⟨rfl, b1⟩
  have hm := hm.below b1
  have ha := ha.below b1
  have hk := hk.below b1
  go_wp2_with fail
  refine (made_any hm (by omega) hl HO.out h3).mono ?_
  rintro e w2 ⟨b, MA, mc, low, OB, cB, SS, cS, rfl, md, bn⟩
  have b2 := b1.trans (bn.mono b1.size)
  have hm := hm.below bn
  have ha := ha.below bn
  have hk := hk.below bn
  clear b1 bn
  go_wp2_with fail
  refine (long_no ha.nm ga).mono ?_
  rintro e w3 ⟨rfl, rfl⟩
  have b3 := b2
  clear b2
  go_wp2_with fail
  refine (long_no hk.nm gk).mono ?_
  rintro e w4 ⟨rfl, rfl⟩
  have b4 := b3
  clear b3
  go_wp2_with fail
  refine (Limbs_nm hm.nm).mono ?_
  rintro e w5 ⟨rfl, rfl⟩
  have b5 := b4
  clear b4
  go_wp2_with fail
  refine (Limbs_nm hk.nm).mono ?_
  rintro e w6 ⟨rfl, rfl⟩
  have b6 := b5
  clear b5
  go_wp2_with fail
  refine (Limbs_nm ha.nm).mono ?_
  rintro e w7 ⟨rfl, rfl⟩
  have b7 := b6
  clear b6
  have G := Lib.hid b7
  clear b7
  go_wp2
  go_ret
  exact ⟨rfl, G.out⟩
set_option maxHeartbeats 8000000 in
set_option maxRecDepth 100000 in
theorem montPowers_ok {w : World} {mA : Option Addr} {nm cm : Nat} {zm : List Int} {M : Int} {aA : Option Addr} {na ca : Nat} {za : List Int} {A : Int} {kA : Option Addr} {nk ck : Nat} {zk : List Int} {K : Int} (hm : Ar w mA nm cm zm M) (ha : Ar w aA na ca za A) (hk : Ar w kA nk ck zk K) (lm : nm ≤ 300) (la : na ≤ 300) (lk : nk ≤ 300) (hl : dl M ≤ 32) (ho : M % 2 = 1) (h3 : 3 ≤ M) (sm : dl M ≤ 6) (sk : dl K ≤ 3) (sa : dl A ≤ 12) :
    Calls Try.prog 4 #[.slice mA nm cm, .slice aA na ca, .slice kA nk ck] w fun e w' => e = .returned (.bool true) ∧ Below w.heap.size w w' := by
  have HO := Lib.hid ho
  clear ho
  have ga : dl A ≤ 64 := by omega
  have gk : dl K ≤ 64 := by omega
  have t0 : decide ((6 : Int) < (dl M : Int)) = false := by simp; omega
  have rm := dr_le hm.nm.pos sm
  have t1 : decide ((3 : Int) < (dl K : Int)) = false := by simp; omega
  have rk := dr_le hk.nm.pos sk
  have t2 : decide ((12 : Int) < (dl A : Int)) = false := by simp; omega
  have ra := dr_le ha.nm.pos sa
  go_enter Try.func4, Try.ntmps4
  go_wp2_with fail
  refine (up_any _).mono ?_
  rintro e w1 ⟨rfl, b1⟩
  have hm := hm.below b1
  have ha := ha.below b1
  have hk := hk.below b1
  go_wp2_with fail
  refine (made_any hm (by omega) hl HO.out h3).mono ?_
  rintro e w2 ⟨b, MA, mc, low, OB, cB, SS, cS, rfl, md, bn⟩
  have b2 := b1.trans (bn.mono b1.size)
  have hm := hm.below bn
  have ha := ha.below bn
  have hk := hk.below bn
  clear b1 bn
  go_wp2_with fail
  refine (long_no ha.nm ga).mono ?_
  rintro e w3 ⟨rfl, rfl⟩
  have b3 := b2
  clear b2
  go_wp2_with fail
  refine (long_no hk.nm gk).mono ?_
  rintro e w4 ⟨rfl, rfl⟩
  have b4 := b3
  clear b3
  go_wp2_with fail
  refine (Limbs_nm hm.nm).mono ?_
  rintro e w5 ⟨rfl, rfl⟩
  have b5 := b4
  clear b4
  go_wp2_with fail
  refine (Limbs_nm hk.nm).mono ?_
  rintro e w6 ⟨rfl, rfl⟩
  have b6 := b5
  clear b5
  go_wp2_with fail
  refine (Limbs_nm ha.nm).mono ?_
  rintro e w7 ⟨rfl, rfl⟩
  have b7 := b6
  clear b6
  have rx := md.rest (A ^ K.toNat)
  go_wp2_with fail
  refine (exp_any md ha.nm hk.nm ga gk).mono ?_
  rintro e w8 ⟨Bx, nx, cx, rfl, x, bn, -⟩
  have b8 := b7.trans (bn.mono b7.size)
  clear md
  have hm := hm.below bn
  have ha := ha.below bn
  have hk := hk.below bn
  clear b7 bn
  go_wp2_with fail
  refine (of_ar ha (by omega)).mono ?_
  rintro e w9 ⟨Ba, na2, ca2, rfl, oa, bn⟩
  have b9 := b8.trans (bn.mono b8.size)
  clear ha
  have hm := hm.below bn
  have hk := hk.below bn
  have x := x.below bn
  clear b8 bn
  go_wp2_with fail
  refine (of_ar hk (by omega)).mono ?_
  rintro e w10 ⟨Bk, nk2, ck2, rfl, ok, bn⟩
  have b10 := b9.trans (bn.mono b9.size)
  clear hk
  have hm := hm.below bn
  have x := x.below bn
  have oa := oa.below bn
  clear b9 bn
  go_wp2_with fail
  refine (of_ar hm (by omega)).mono ?_
  rintro e w11 ⟨Bm, nm2, cm2, rfl, om, bn⟩
  have b11 := b10.trans (bn.mono b10.size)
  clear hm
  have x := x.below bn
  have oa := oa.below bn
  have ok := ok.below bn
  clear b10 bn
  go_wp2_with fail
  refine (rexp_any oa ok om (by have := oa.len_; omega) (by have := ok.len_; omega) (by have := om.len_; omega) (by omega)).mono ?_
  rintro e w12 ⟨Bz, nz, cz, rfl, oz, bn⟩
  have b12 := b11.trans (bn.mono b11.size)
  clear oa
  clear ok
  clear om
  have x := x.below bn
  clear b11 bn
  have dz := dr_rest (N := A ^ K.toNat) (show 0 < M by omega)
  go_wp2_with fail
  refine (num_any oz (by have := oz.len_; omega)).mono ?_
  rintro e w13 ⟨Bw, nw, cw, rfl, want, bn⟩
  have b13 := b12.trans (bn.mono b12.size)
  clear oz
  have x := x.below bn
  clear b12 bn
  go_wp2_with fail
  refine (same_rd x.rd want (by have := x.c60; omega)).mono ?_
  rintro e w14 ⟨rfl, bn⟩
  have b14 := b13.trans (bn.mono b13.size)
  clear x
  clear want
  clear b13 bn
  have G := Lib.hid b14
  clear b14
  go_wp2
  go_ret
  exact ⟨rfl, G.out⟩
theorem montPowers_walk {w : World} {mA : Option Addr} {nm cm : Nat} {zm : List Int} {aA : Option Addr} {na ca : Nat} {za : List Int} {kA : Option Addr} {nk ck : Nat} {zk : List Int} (tm : Told w mA nm cm zm) (ta : Told w aA na ca za) (tk : Told w kA nk ck zk) :
    Calls Try.prog 4 #[.slice mA nm cm, .slice aA na ca, .slice kA nk ck] w fun e w' => e = .returned (.bool true) ∧ Below w.heap.size w w' := by
  have hm : Ar w mA nm cm zm (val W zm) := ⟨tm, rfl⟩
  have ha : Ar w aA na ca za (val W za) := ⟨ta, rfl⟩
  have hk : Ar w kA nk ck zk (val W zk) := ⟨tk, rfl⟩
  rcases Nat.lt_or_ge 300 nm with lm | lm
  · exact montPowers_over0 hm ha hk  lm
  rcases Nat.lt_or_ge 300 na with la | la
  · exact montPowers_over1 hm ha hk  lm la
  rcases Nat.lt_or_ge 300 nk with lk | lk
  · exact montPowers_over2 hm ha hk  lm la lk
  rcases Nat.lt_or_ge 32 (dl (val W zm)) with hl | hl
  · exact montPowers_long hm ha hk  lm la lk hl
  by_cases he : val W zm % 2 = 0 ∨ val W zm < 3
  · exact montPowers_even hm ha hk  lm la lk hl he
  have ho : val W zm % 2 = 1 := by omega
  have h3 : 3 ≤ val W zm := by omega
  rcases Nat.lt_or_ge 64 (dl (val W za)) with ga | ga
  · exact montPowers_la hm ha hk  lm la lk hl ho h3 ga
  rcases Nat.lt_or_ge 64 (dl (val W zk)) with gk | gk
  · exact montPowers_lk hm ha hk  lm la lk hl ho h3 ga gk
  rcases Nat.lt_or_ge 6 (dl (val W zm)) with sm | sm
  · exact montPowers_few0 hm ha hk  lm la lk hl ho h3 ga gk sm
  rcases Nat.lt_or_ge 3 (dl (val W zk)) with sk | sk
  · exact montPowers_few1 hm ha hk  lm la lk hl ho h3 ga gk sm sk
  rcases Nat.lt_or_ge 12 (dl (val W za)) with sa | sa
  · exact montPowers_few2 hm ha hk  lm la lk hl ho h3 ga gk sm sk sa
  exact montPowers_ok hm ha hk  lm la lk hl ho h3 sm sk sa
end Go.Proofs.Ytelhkmgbpcojiaa
