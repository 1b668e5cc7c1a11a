/-
  The walk of MontWhole: a product modulo a number of any length is the rest of the whole product.
-/
import Derived.Test.YtelhkmgbpcojiaaMade
namespace Go.Proofs.Ytelhkmgbpcojiaa
open Go.RowKit
set_option linter.unusedVariables false
set_option maxHeartbeats 8000000 in
set_option maxRecDepth 100000 in
theorem montWhole_over0 {w : World} {mA : Option Addr} {nm cm : Nat} {zm : List Int} {M : Int} {aA : Option Addr} {na ca : Nat} {za : List Int} {A : Int} {bA : Option Addr} {nb cb : Nat} {zb : List Int} {B : Int} (hm : Ar w mA nm cm zm M) (ha : Ar w aA na ca za A) (hb : Ar w bA nb cb zb B)  (lm : 40 < nm) :
    Calls Try.prog 7 #[.slice mA nm cm, .slice aA na ca, .slice bA nb cb] w fun e w' => e = .returned (.bool true) ∧ Below w.heap.size w w' := by
  have dm := hm.told.c60
  have da := ha.told.c60
  have db := hb.told.c60
  go_enter Try.func7, Try.ntmps7
  go_wp2_with fail
  refine (up_any _).mono ?_
  rintro e w1 ⟨rfl, b1⟩
  have G := Lib.hid b1
  clear b1
  go_wp2
  go_ret
  exact ⟨rfl, G.out⟩
set_option maxHeartbeats 8000000 in
set_option maxRecDepth 100000 in
theorem montWhole_over1 {w : World} {mA : Option Addr} {nm cm : Nat} {zm : List Int} {M : Int} {aA : Option Addr} {na ca : Nat} {za : List Int} {A : Int} {bA : Option Addr} {nb cb : Nat} {zb : List Int} {B : Int} (hm : Ar w mA nm cm zm M) (ha : Ar w aA na ca za A) (hb : Ar w bA nb cb zb B) (lm : nm ≤ 40) (la : 32 < na) :
    Calls Try.prog 7 #[.slice mA nm cm, .slice aA na ca, .slice bA nb cb] w fun e w' => e = .returned (.bool true) ∧ Below w.heap.size w w' := by
  have dm := hm.told.c60
  have da := ha.told.c60
  have db := hb.told.c60
  go_enter Try.func7, Try.ntmps7
  go_wp2_with fail
  refine (up_any _).mono ?_
  rintro e w1 ⟨rfl, b1⟩
  have G := Lib.hid b1
  clear b1
  go_wp2
  go_ret
  exact ⟨rfl, G.out⟩
set_option maxHeartbeats 8000000 in
set_option maxRecDepth 100000 in
theorem montWhole_over2 {w : World} {mA : Option Addr} {nm cm : Nat} {zm : List Int} {M : Int} {aA : Option Addr} {na ca : Nat} {za : List Int} {A : Int} {bA : Option Addr} {nb cb : Nat} {zb : List Int} {B : Int} (hm : Ar w mA nm cm zm M) (ha : Ar w aA na ca za A) (hb : Ar w bA nb cb zb B) (lm : nm ≤ 40) (la : na ≤ 32) (lb : 32 < nb) :
    Calls Try.prog 7 #[.slice mA nm cm, .slice aA na ca, .slice bA nb cb] w fun e w' => e = .returned (.bool true) ∧ Below w.heap.size w w' := by
  have dm := hm.told.c60
  have da := ha.told.c60
  have db := hb.told.c60
  go_enter Try.func7, Try.ntmps7
  go_wp2_with fail
  refine (up_any _).mono ?_
  rintro e w1 ⟨rfl, b1⟩
  have G := Lib.hid b1
  clear b1
  go_wp2
  go_ret
  exact ⟨rfl, G.out⟩
set_option maxHeartbeats 8000000 in
set_option maxRecDepth 100000 in
theorem montWhole_long {w : World} {mA : Option Addr} {nm cm : Nat} {zm : List Int} {M : Int} {aA : Option Addr} {na ca : Nat} {za : List Int} {A : Int} {bA : Option Addr} {nb cb : Nat} {zb : List Int} {B : Int} (hm : Ar w mA nm cm zm M) (ha : Ar w aA na ca za A) (hb : Ar w bA nb cb zb B) (lm : nm ≤ 40) (la : na ≤ 32) (lb : nb ≤ 32) (hl : 32 < dl M) :
    Calls Try.prog 7 #[.slice mA nm cm, .slice aA na ca, .slice bA nb cb] w fun e w' => e = .returned (.bool true) ∧ Below w.heap.size w w' := by
  go_enter Try.func7, Try.ntmps7
  go_wp2_with fail
  refine (up_any _).mono ?_
  rintro e w1 ⟨rfl, b1⟩
  have hm := hm.below b1
  go_wp2_with fail
  refine (made_long hm (by omega) hl).mono ?_
  rintro e w2 ⟨rfl, bn⟩
  have b2 := b1.trans (bn.mono b1.size)
  have hm := hm.below bn
  clear b1 bn
  have G := Lib.hid b2
  clear b2
  go_wp2
  go_ret
  exact ⟨rfl, G.out⟩
set_option maxHeartbeats 8000000 in
set_option maxRecDepth 100000 in
theorem montWhole_even {w : World} {mA : Option Addr} {nm cm : Nat} {zm : List Int} {M : Int} {aA : Option Addr} {na ca : Nat} {za : List Int} {A : Int} {bA : Option Addr} {nb cb : Nat} {zb : List Int} {B : Int} (hm : Ar w mA nm cm zm M) (ha : Ar w aA na ca za A) (hb : Ar w bA nb cb zb B) (lm : nm ≤ 40) (la : na ≤ 32) (lb : nb ≤ 32) (hl : dl M ≤ 32) (he : M % 2 = 0 ∨ M < 3) :
    Calls Try.prog 7 #[.slice mA nm cm, .slice aA na ca, .slice bA nb cb] w fun e w' => e = .returned (.bool true) ∧ Below w.heap.size w w' := by
  have HE := Lib.hid he
  clear he
  go_enter Try.func7, Try.ntmps7
  go_wp2_with fail
  refine (up_any _).mono ?_
  rintro e w1 ⟨rfl, b1⟩
  have hm := hm.below b1
  go_wp2_with fail
  refine (made_even hm (by omega) hl HE.out).mono ?_
  rintro e w2 ⟨rfl, bn⟩
  have b2 := b1.trans (bn.mono b1.size)
  have hm := hm.below bn
  clear b1 bn
  have G := Lib.hid b2
  clear b2
  go_wp2
  go_ret
  exact ⟨rfl, G.out⟩
set_option maxHeartbeats 8000000 in
set_option maxRecDepth 100000 in
theorem montWhole_ok {w : World} {mA : Option Addr} {nm cm : Nat} {zm : List Int} {M : Int} {aA : Option Addr} {na ca : Nat} {za : List Int} {A : Int} {bA : Option Addr} {nb cb : Nat} {zb : List Int} {B : Int} (hm : Ar w mA nm cm zm M) (ha : Ar w aA na ca za A) (hb : Ar w bA nb cb zb B) (lm : nm ≤ 40) (la : na ≤ 32) (lb : nb ≤ 32) (hl : dl M ≤ 32) (ho : M % 2 = 1) (h3 : 3 ≤ M) :
    Calls Try.prog 7 #[.slice mA nm cm, .slice aA na ca, .slice bA nb cb] w fun e w' => e = .returned (.bool true) ∧ Below w.heap.size w w' := by
  have HO := Lib.hid ho
  clear ho
  have da := ha.nm.dl_le
  have db := hb.nm.dl_le
  have da64 : dl A ≤ 64 := by omega
  have db64 : dl B ≤ 64 := by omega
  have dab : dl (A * B) ≤ 64 := by have := dl_mul ha.nm.pos hb.nm.pos (show dl A ≤ 32 by omega) (show dl B ≤ 32 by omega); omega
  have dm : dl M ≤ 64 := by omega
  have d2 : dl 2 ≤ 64 := dl_small (by decide) (by decide)
  go_enter Try.func7, Try.ntmps7
  go_wp2_with fail
  refine (up_any _).mono ?_
  rintro e w1 ⟨rfl, b1⟩
  have hm := hm.below b1
  have ha := ha.below b1
  have hb := hb.below b1
  go_wp2_with fail
  refine (made_any hm (by omega) hl HO.out h3).mono ?_
  rintro e w2 ⟨b, MA, mc, low, OB, cB, SS, cS, rfl, md, bn⟩
  have b2 := b1.trans (bn.mono b1.size)
  have hm := hm.below bn
  have ha := ha.below bn
  have hb := hb.below bn
  clear b1 bn
  go_wp2_with fail
  refine (mmul_any md ha.nm hb.nm da64 db64).mono ?_
  rintro e w3 ⟨Bp, np, cp, rfl, p, bn, -⟩
  have b3 := b2.trans (bn.mono b2.size)
  have hm := hm.below bn
  have ha := ha.below bn
  have hb := hb.below bn
  have md := md.below bn
  clear b2 bn
  go_wp2_with fail
  refine (mul_any ha.nm hb.nm da64 db64).mono ?_
  rintro e w4 ⟨Bwhole, nwhole, cwhole, rfl, whole, bn, -⟩
  have b4 := b3.trans (bn.mono b3.size)
  clear hb
  have hm := hm.below bn
  have ha := ha.below bn
  have md := md.below bn
  have p := p.below bn
  clear b3 bn
  go_wp2_with fail
  refine (div_any whole.nm hm.nm dab dm (by omega)).mono ?_
  rintro e w5 ⟨Bq, nq, cq, Br, nr, cr, rfl, -, rest, bn, -, -⟩
  have b5 := b4.trans (bn.mono b4.size)
  clear whole
  clear hm
  have ha := ha.below bn
  have md := md.below bn
  have p := p.below bn
  clear b4 bn
  go_wp2_with fail
  refine (same_cn p rest).mono ?_
  rintro e w6 ⟨rfl, bn⟩
  have b6 := b5.trans (bn.mono b5.size)
  clear p
  clear rest
  have ha := ha.below bn
  have md := md.below bn
  clear b5 bn
  have L2 := Lib.hid (lit_one w6 2 (by decide) (by decide))
  go_wp2_with fail
  refine (exp_any (md.below (below_al _ _)) (ha.below (below_al _ _)).nm L2.out da64 d2).mono ?_
  rintro e w7 ⟨Bx, nx, cx, rfl, x, bn, -⟩
  have bn := below_one bn
  have b7 := b6.trans (bn.mono b6.size)
  have md := md.below bn
  have ha := ha.below bn
  clear b6 bn L2
  go_wp2_with fail
  refine (mmul_any md ha.nm ha.nm da64 da64).mono ?_
  rintro e w8 ⟨By, ny, cy, rfl, y, bn, -⟩
  have b8 := b7.trans (bn.mono b7.size)
  clear md
  clear ha
  have x := x.below bn
  clear b7 bn
  have e2 : A ^ (2 : Int).toNat = A * A := by show A ^ 2 = A * A; rw [Int.pow_succ, Int.pow_succ, Int.pow_zero, Int.one_mul]
  rw [e2] at x
  clear e2
  go_wp2_with fail
  refine (same_cn x y).mono ?_
  rintro e w9 ⟨rfl, bn⟩
  have b9 := b8.trans (bn.mono b8.size)
  clear x
  clear y
  clear b8 bn
  have G := Lib.hid b9
  clear b9
  go_wp2
  go_ret
  exact ⟨rfl, G.out⟩
theorem montWhole_walk {w : World} {mA : Option Addr} {nm cm : Nat} {zm : List Int} {aA : Option Addr} {na ca : Nat} {za : List Int} {bA : Option Addr} {nb cb : Nat} {zb : List Int} (tm : Told w mA nm cm zm) (ta : Told w aA na ca za) (tb : Told w bA nb cb zb) :
    Calls Try.prog 7 #[.slice mA nm cm, .slice aA na ca, .slice bA nb cb] w fun e w' => e = .returned (.bool true) ∧ Below w.heap.size w w' := by
  have hm : Ar w mA nm cm zm (val W zm) := ⟨tm, rfl⟩
  have ha : Ar w aA na ca za (val W za) := ⟨ta, rfl⟩
  have hb : Ar w bA nb cb zb (val W zb) := ⟨tb, rfl⟩
  rcases Nat.lt_or_ge 40 nm with lm | lm
  · exact montWhole_over0 hm ha hb  lm
  rcases Nat.lt_or_ge 32 na with la | la
  · exact montWhole_over1 hm ha hb  lm la
  rcases Nat.lt_or_ge 32 nb with lb | lb
  · exact montWhole_over2 hm ha hb  lm la lb
  rcases Nat.lt_or_ge 32 (dl (val W zm)) with hl | hl
  · exact montWhole_long hm ha hb  lm la lb hl
  by_cases he : val W zm % 2 = 0 ∨ val W zm < 3
  · exact montWhole_even hm ha hb  lm la lb hl he
  have ho : val W zm % 2 = 1 := by omega
  have h3 : 3 ≤ val W zm := by omega
  exact montWhole_ok hm ha hb  lm la lb hl ho h3
end Go.Proofs.Ytelhkmgbpcojiaa
