/-
  The walk of MontReckons: rests, sums, differences and products modulo any number, of any two numbers.
-/
import Derived.Test.YtelhkmgbpcojiaaMade
import Derived.Test.YtelhkmgbpcojiaaRExp
namespace Go.Proofs.Ytelhkmgbpcojiaa
open Go.RowKit
set_option linter.unusedVariables false
set_option maxHeartbeats 8000000 in
set_option maxRecDepth 100000 in
theorem montReckons_over0 {w : World} {mA : Option Addr} {nm cm : Nat} {zm : List Int} {M : Int} {aA : Option Addr} {na ca : Nat} {za : List Int} {A : Int} {bA : Option Addr} {nb cb : Nat} {zb : List Int} {B : Int} (hm : Ar w mA nm cm zm M) (ha : Ar w aA na ca za A) (hb : Ar w bA nb cb zb B)  (lm : 300 < nm) :
    Calls Try.prog 3 #[.slice mA nm cm, .slice aA na ca, .slice bA nb cb] w fun e w' => e = .returned (.bool true) ∧ Below w.heap.size w w' := by
  have dm := hm.told.c60
  have da := ha.told.c60
  have db := hb.told.c60
  go_enter Try.func3, Try.ntmps3
  go_wp2_with fail
  refine (up_any _).mono ?_
  rintro e w1 ⟨rfl, b1⟩
  have G := Lib.hid b1
  clear b1
  go_wp2
  go_ret
  exact ⟨rfl, G.out⟩
set_option maxHeartbeats 8000000 in
set_option maxRecDepth 100000 in
theorem montReckons_over1 {w : World} {mA : Option Addr} {nm cm : Nat} {zm : List Int} {M : Int} {aA : Option Addr} {na ca : Nat} {za : List Int} {A : Int} {bA : Option Addr} {nb cb : Nat} {zb : List Int} {B : Int} (hm : Ar w mA nm cm zm M) (ha : Ar w aA na ca za A) (hb : Ar w bA nb cb zb B) (lm : nm ≤ 300) (la : 300 < na) :
    Calls Try.prog 3 #[.slice mA nm cm, .slice aA na ca, .slice bA nb cb] w fun e w' => e = .returned (.bool true) ∧ Below w.heap.size w w' := by
  have dm := hm.told.c60
  have da := ha.told.c60
  have db := hb.told.c60
  go_enter Try.func3, Try.ntmps3
  go_wp2_with fail
  refine (up_any _).mono ?_
  rintro e w1 ⟨rfl, b1⟩
  have G := Lib.hid b1
  clear b1
  go_wp2
  go_ret
  exact ⟨rfl, G.out⟩
set_option maxHeartbeats 8000000 in
set_option maxRecDepth 100000 in
theorem montReckons_over2 {w : World} {mA : Option Addr} {nm cm : Nat} {zm : List Int} {M : Int} {aA : Option Addr} {na ca : Nat} {za : List Int} {A : Int} {bA : Option Addr} {nb cb : Nat} {zb : List Int} {B : Int} (hm : Ar w mA nm cm zm M) (ha : Ar w aA na ca za A) (hb : Ar w bA nb cb zb B) (lm : nm ≤ 300) (la : na ≤ 300) (lb : 300 < nb) :
    Calls Try.prog 3 #[.slice mA nm cm, .slice aA na ca, .slice bA nb cb] w fun e w' => e = .returned (.bool true) ∧ Below w.heap.size w w' := by
  have dm := hm.told.c60
  have da := ha.told.c60
  have db := hb.told.c60
  go_enter Try.func3, Try.ntmps3
  go_wp2_with fail
  refine (up_any _).mono ?_
  rintro e w1 ⟨rfl, b1⟩
  have G := Lib.hid b1
  clear b1
  go_wp2
  go_ret
  exact ⟨rfl, G.out⟩
set_option maxHeartbeats 8000000 in
set_option maxRecDepth 100000 in
theorem montReckons_long {w : World} {mA : Option Addr} {nm cm : Nat} {zm : List Int} {M : Int} {aA : Option Addr} {na ca : Nat} {za : List Int} {A : Int} {bA : Option Addr} {nb cb : Nat} {zb : List Int} {B : Int} (hm : Ar w mA nm cm zm M) (ha : Ar w aA na ca za A) (hb : Ar w bA nb cb zb B) (lm : nm ≤ 300) (la : na ≤ 300) (lb : nb ≤ 300) (hl : 32 < dl M) :
    Calls Try.prog 3 #[.slice mA nm cm, .slice aA na ca, .slice bA nb cb] w fun e w' => e = .returned (.bool true) ∧ Below w.heap.size w w' := by
  go_enter Try.func3, Try.ntmps3
  go_wp2_with fail
  refine (up_any _).mono ?_
  rintro e w1 ⟨rfl, b1⟩
  have hm := hm.below b1
  go_wp2_with fail
  refine (made_long hm (by omega) hl).mono ?_
  rintro e w2 ⟨rfl, bn⟩
  have b2 := b1.trans (bn.mono b1.size)
  have hm := hm.below bn
  clear b1 bn
  have G := Lib.hid b2
  clear b2
  go_wp2
  go_ret
  exact ⟨rfl, G.out⟩
set_option maxHeartbeats 8000000 in
set_option maxRecDepth 100000 in
theorem montReckons_even {w : World} {mA : Option Addr} {nm cm : Nat} {zm : List Int} {M : Int} {aA : Option Addr} {na ca : Nat} {za : List Int} {A : Int} {bA : Option Addr} {nb cb : Nat} {zb : List Int} {B : Int} (hm : Ar w mA nm cm zm M) (ha : Ar w aA na ca za A) (hb : Ar w bA nb cb zb B) (lm : nm ≤ 300) (la : na ≤ 300) (lb : nb ≤ 300) (hl : dl M ≤ 32) (he : M % 2 = 0 ∨ M < 3) :
    Calls Try.prog 3 #[.slice mA nm cm, .slice aA na ca, .slice bA nb cb] w fun e w' => e = .returned (.bool true) ∧ Below w.heap.size w w' := by
  have HE := Lib.hid he
  clear he
  go_enter Try.func3, Try.ntmps3
  go_wp2_with fail
  refine (up_any _).mono ?_
  rintro e w1 ⟨rfl, b1⟩
  have hm := hm.below b1
  go_wp2_with fail
  refine (made_even hm (by omega) hl HE.out).mono ?_
  rintro e w2 ⟨rfl, bn⟩
  have b2 := b1.trans (bn.mono b1.size)
  have hm := hm.below bn
  clear b1 bn
  have G := Lib.hid b2
  clear b2
  go_wp2
  go_ret
  exact ⟨rfl, G.out⟩
theorem run_equalIn_nil_iface {P : Program} (w : World) (d : Nat) {ti tn : TypeId} {ms : Array (String × TypeId)} {v : Value} (hi : P.underlying ti = some (.interface ms)) :
    (Op.equalIn (d + 1) ti .nilIface (.iface tn v)).run P w = .ok false w := by
  simp [Op.equalIn, run_underlying hi]
theorem eql_nil_code (a : Int) (w : World) : (binOp .eql 29 .nilIface (.iface 40 (.int .i64 a))).run Try.prog w = .ok (.bool false) w := by
  simp only [binOp]
  simp [Op.equal, Op.maxDepth, run_equalIn_nil_iface w 9999 Try.underlying29]
theorem reck_sub {M A B : Int} (hM : 0 < M) : (A % M + M - B % M) % M = (A - B) % M := by
  rw [← Eqm.iff]
  obtain ⟨q, h1⟩ := Eqm.mod M A
  obtain ⟨r, h2⟩ := Eqm.mod M B
  exact ⟨q + 1 - r, by rw [h1, h2]; grind⟩
set_option maxHeartbeats 8000000 in
set_option maxRecDepth 100000 in
theorem montReckons_la {w : World} {mA : Option Addr} {nm cm : Nat} {zm : List Int} {M : Int} {aA : Option Addr} {na ca : Nat} {za : List Int} {A : Int} {bA : Option Addr} {nb cb : Nat} {zb : List Int} {B : Int} (hm : Ar w mA nm cm zm M) (ha : Ar w aA na ca za A) (hb : Ar w bA nb cb zb B) (lm : nm ≤ 300) (la : na ≤ 300) (lb : nb ≤ 300) (hl : dl M ≤ 32) (ho : M % 2 = 1) (h3 : 3 ≤ M) (g : 64 < dl A) :
    Calls Try.prog 3 #[.slice mA nm cm, .slice aA na ca, .slice bA nb cb] w fun e w' => e = .returned (.bool true) ∧ Below w.heap.size w w' := by
  have HO := Lib.hid ho
  clear ho
  have q1 := eql_code 2 2
  have q2 := eql_nil_code 2
  have rm := dr_le hm.nm.pos hl
  go_enter Try.func3, Try.ntmps3
  go_wp2_with fail
  refine (up_any _).mono ?_
  rintro e w1 ⟨rfl, b1⟩
  have hm := hm.below b1
  have ha := ha.below b1
  have hb := hb.below b1
  go_wp2_with fail
  refine (made_any hm (by omega) hl HO.out h3).mono ?_
  rintro e w2 ⟨b, MA, mc, low, OB, cB, SS, cS, rfl, md, bn⟩
  have b2 := b1.trans (bn.mono b1.size)
  have hm := hm.below bn
  have ha := ha.below bn
  have hb := hb.below bn
  clear b1 bn
  go_wp2_with fail
  refine (reduce_long md ha.nm g).mono ?_
  rintro e w3 ⟨rfl, bn⟩
  have b3 := b2.trans (bn.mono b2.size)
  have hm := hm.below bn
  have ha := ha.below bn
  have hb := hb.below bn
  have md := md.below bn
  clear b2 bn
  go_wp2_with fail
  refine (madd_long md ha.nm hb.nm (.inl g)).mono ?_
  rintro e w4 ⟨rfl, bn⟩
  have b4 := b3.trans (bn.mono b3.size)
  have hm := hm.below bn
  have ha := ha.below bn
  have hb := hb.below bn
  have md := md.below bn
  clear b3 bn
  go_wp2_with fail
  refine (msub_long md ha.nm hb.nm (.inl g)).mono ?_
  rintro e w5 ⟨rfl, bn⟩
  have b5 := b4.trans (bn.mono b4.size)
  have hm := hm.below bn
  have ha := ha.below bn
  have hb := hb.below bn
  have md := md.below bn
  clear b4 bn
  go_wp2_with fail
  refine (mmul_long md ha.nm hb.nm (.inl g)).mono ?_
  rintro e w6 ⟨rfl, bn⟩
  have b6 := b5.trans (bn.mono b5.size)
  have hm := hm.below bn
  have ha := ha.below bn
  have hb := hb.below bn
  have md := md.below bn
  clear b5 bn
  go_wp2_with fail
  refine (modulus_any md).mono ?_
  rintro e w7 ⟨Bo, no, co, rfl, mo, bn, -⟩
  have b7 := b6.trans (bn.mono b6.size)
  have hm := hm.below bn
  have ha := ha.below bn
  have hb := hb.below bn
  have md := md.below bn
  clear b6 bn
  go_wp2_with fail
  refine (of_ar hm (by omega)).mono ?_
  rintro e w8 ⟨Bm, nm2, cm2, rfl, om, bn⟩
  have b8 := b7.trans (bn.mono b7.size)
  have hm := hm.below bn
  have ha := ha.below bn
  have hb := hb.below bn
  have md := md.below bn
  have mo := mo.below bn
  clear b7 bn
  go_wp2_with fail
  refine (num_any om (by have := om.len_; omega)).mono ?_
  rintro e w9 ⟨Bn, nn, cn, rfl, mw, bn⟩
  have b9 := b8.trans (bn.mono b8.size)
  clear om
  have hm := hm.below bn
  have ha := ha.below bn
  have hb := hb.below bn
  have md := md.below bn
  have mo := mo.below bn
  clear b8 bn
  go_wp2_with fail
  refine (same_rd mo.rd mw (by have := mo.c60; omega)).mono ?_
  rintro e w10 ⟨rfl, bn⟩
  have b10 := b9.trans (bn.mono b9.size)
  clear mo
  clear mw
  have hm := hm.below bn
  have ha := ha.below bn
  have hb := hb.below bn
  have md := md.below bn
  clear b9 bn
  go_wp2_with fail
  refine (long_yes ha.nm g).mono ?_
  rintro e w11 ⟨rfl, rfl⟩
  have b11 := b10
  clear b10
  have G := Lib.hid b11
  clear b11
  go_wp2_with fail
  go_quiet ((go_at_call 19; exact quiet_one (long_yes (ha.nm.drewN _) g)))
  go_wp2
  go_ret
  exact ⟨rfl, below_drewN G.out _⟩
set_option maxHeartbeats 8000000 in
set_option maxRecDepth 100000 in
theorem montReckons_lb {w : World} {mA : Option Addr} {nm cm : Nat} {zm : List Int} {M : Int} {aA : Option Addr} {na ca : Nat} {za : List Int} {A : Int} {bA : Option Addr} {nb cb : Nat} {zb : List Int} {B : Int} (hm : Ar w mA nm cm zm M) (ha : Ar w aA na ca za A) (hb : Ar w bA nb cb zb B) (lm : nm ≤ 300) (la : na ≤ 300) (lb : nb ≤ 300) (hl : dl M ≤ 32) (ho : M % 2 = 1) (h3 : 3 ≤ M) (g0 : dl A ≤ 64) (g : 64 < dl B) :
    Calls Try.prog 3 #[.slice mA nm cm, .slice aA na ca, .slice bA nb cb] w fun e w' => e = .returned (.bool true) ∧ Below w.heap.size w w' := by
  have HO := Lib.hid ho
  clear ho
  have q1 := eql_code 2 2
  have q2 := eql_nil_code 2
  have rm := dr_le hm.nm.pos hl
  go_enter Try.func3, Try.ntmps3
  go_wp2_with fail
  refine (up_any _).mono ?_
  rintro e w1 ⟨rfl, b1⟩
  have hm := hm.below b1
  have ha := ha.below b1
  have hb := hb.below b1
  go_wp2_with fail
  refine (made_any hm (by omega) hl HO.out h3).mono ?_
  rintro e w2 ⟨b, MA, mc, low, OB, cB, SS, cS, rfl, md, bn⟩
  have b2 := b1.trans (bn.mono b1.size)
  have hm := hm.below bn
  have ha := ha.below bn
  have hb := hb.below bn
  clear b1 bn
  go_wp2_with fail
  refine (reduce_any md ha.nm g0).mono ?_
  rintro e w3 ⟨Bx, nx, cx, rfl, x, bn, -⟩
  have b3 := b2.trans (bn.mono b2.size)
  have hm := hm.below bn
  have ha := ha.below bn
  have hb := hb.below bn
  have md := md.below bn
  clear b2 bn
  go_wp2_with fail
  refine (madd_long md ha.nm hb.nm (.inr g)).mono ?_
  rintro e w4 ⟨rfl, bn⟩
  have b4 := b3.trans (bn.mono b3.size)
  have hm := hm.below bn
  have ha := ha.below bn
  have hb := hb.below bn
  have md := md.below bn
  have x := x.below bn
  clear b3 bn
  go_wp2_with fail
  refine (msub_long md ha.nm hb.nm (.inr g)).mono ?_
  rintro e w5 ⟨rfl, bn⟩
  have b5 := b4.trans (bn.mono b4.size)
  have hm := hm.below bn
  have ha := ha.below bn
  have hb := hb.below bn
  have md := md.below bn
  have x := x.below bn
  clear b4 bn
  go_wp2_with fail
  refine (mmul_long md ha.nm hb.nm (.inr g)).mono ?_
  rintro e w6 ⟨rfl, bn⟩
  have b6 := b5.trans (bn.mono b5.size)
  have hm := hm.below bn
  have ha := ha.below bn
  have hb := hb.below bn
  have md := md.below bn
  have x := x.below bn
  clear b5 bn
  go_wp2_with fail
  refine (modulus_any md).mono ?_
  rintro e w7 ⟨Bo, no, co, rfl, mo, bn, -⟩
  have b7 := b6.trans (bn.mono b6.size)
  have hm := hm.below bn
  have ha := ha.below bn
  have hb := hb.below bn
  have md := md.below bn
  have x := x.below bn
  clear b6 bn
  go_wp2_with fail
  refine (of_ar hm (by omega)).mono ?_
  rintro e w8 ⟨Bm, nm2, cm2, rfl, om, bn⟩
  have b8 := b7.trans (bn.mono b7.size)
  have hm := hm.below bn
  have ha := ha.below bn
  have hb := hb.below bn
  have md := md.below bn
  have x := x.below bn
  have mo := mo.below bn
  clear b7 bn
  go_wp2_with fail
  refine (num_any om (by have := om.len_; omega)).mono ?_
  rintro e w9 ⟨Bn, nn, cn, rfl, mw, bn⟩
  have b9 := b8.trans (bn.mono b8.size)
  clear om
  have hm := hm.below bn
  have ha := ha.below bn
  have hb := hb.below bn
  have md := md.below bn
  have x := x.below bn
  have mo := mo.below bn
  clear b8 bn
  go_wp2_with fail
  refine (same_rd mo.rd mw (by have := mo.c60; omega)).mono ?_
  rintro e w10 ⟨rfl, bn⟩
  have b10 := b9.trans (bn.mono b9.size)
  clear mo
  clear mw
  have hm := hm.below bn
  have ha := ha.below bn
  have hb := hb.below bn
  have md := md.below bn
  have x := x.below bn
  clear b9 bn
  go_wp2_with fail
  refine (long_no ha.nm g0).mono ?_
  rintro e w11 ⟨rfl, rfl⟩
  have b11 := b10
  clear b10
  go_wp2_with fail
  refine (long_yes hb.nm g).mono ?_
  rintro e w12 ⟨rfl, rfl⟩
  have b12 := b11
  clear b11
  have G := Lib.hid b12
  clear b12
  go_wp2_with fail
  go_quiet ((go_at_call 19; exact quiet_one (long_no (ha.nm.drewN _) g0)))
  go_wp2
  go_ret
  exact ⟨rfl, below_drewN G.out _⟩
set_option maxHeartbeats 8000000 in
set_option maxRecDepth 100000 in
theorem montReckons_many {w : World} {mA : Option Addr} {nm cm : Nat} {zm : List Int} {M : Int} {aA : Option Addr} {na ca : Nat} {za : List Int} {A : Int} {bA : Option Addr} {nb cb : Nat} {zb : List Int} {B : Int} (hm : Ar w mA nm cm zm M) (ha : Ar w aA na ca za A) (hb : Ar w bA nb cb zb B) (lm : nm ≤ 300) (la : na ≤ 300) (lb : nb ≤ 300) (hl : dl M ≤ 32) (ho : M % 2 = 1) (h3 : 3 ≤ M) (ga : dl A ≤ 64) (gb : dl B ≤ 64) (gs : 40 < dl M + dl A + dl B) :
    Calls Try.prog 3 #[.slice mA nm cm, .slice aA na ca, .slice bA nb cb] w fun e w' => e = .returned (.bool true) ∧ Below w.heap.size w w' := by
  have HO := Lib.hid ho
  clear ho
  have rm := dr_le hm.nm.pos hl
  have t0 : decide ((40 : Int) < (dl M : Int) + (dl A : Int) + (dl B : Int)) = true := by simp; omega
  go_enter Try.func3, Try.ntmps3
  go_wp2_with fail
  refine (up_any _).mono ?_
  rintro e w1 ⟨rfl, b1⟩
  have hm := hm.below b1
  have ha := ha.below b1
  have hb := hb.below b1
  go_wp2_with fail
  refine (made_any hm (by omega) hl HO.out h3).mono ?_
  rintro e w2 ⟨b, MA, mc, low, OB, cB, SS, cS, rfl, md, bn⟩
  have b2 := b1.trans (bn.mono b1.size)
  have hm := hm.below bn
  have ha := ha.below bn
  have hb := hb.below bn
  clear b1 bn
  go_wp2_with fail
  refine (reduce_any md ha.nm ga).mono ?_
  rintro e w3 ⟨Bx, nx, cx, rfl, x, bn, -⟩
  have b3 := b2.trans (bn.mono b2.size)
  have hm := hm.below bn
  have ha := ha.below bn
  have hb := hb.below bn
  have md := md.below bn
  clear b2 bn
  go_wp2_with fail
  refine (madd_any md ha.nm hb.nm ga gb).mono ?_
  rintro e w4 ⟨Bs, ns, cs, rfl, s, bn, -⟩
  have b4 := b3.trans (bn.mono b3.size)
  have hm := hm.below bn
  have ha := ha.below bn
  have hb := hb.below bn
  have md := md.below bn
  have x := x.below bn
  clear b3 bn
  go_wp2_with fail
  refine (msub_any md ha.nm hb.nm ga gb).mono ?_
  rintro e w5 ⟨Bd, nd, cd, rfl, d, bn, -⟩
  have b5 := b4.trans (bn.mono b4.size)
  have hm := hm.below bn
  have ha := ha.below bn
  have hb := hb.below bn
  have md := md.below bn
  have x := x.below bn
  have s := s.below bn
  clear b4 bn
  go_wp2_with fail
  refine (mmul_any md ha.nm hb.nm ga gb).mono ?_
  rintro e w6 ⟨Bp, np, cp, rfl, p, bn, -⟩
  have b6 := b5.trans (bn.mono b5.size)
  have hm := hm.below bn
  have ha := ha.below bn
  have hb := hb.below bn
  have md := md.below bn
  have x := x.below bn
  have s := s.below bn
  have d := d.below bn
  clear b5 bn
  go_wp2_with fail
  refine (modulus_any md).mono ?_
  rintro e w7 ⟨Bo, no, co, rfl, mo, bn, -⟩
  have b7 := b6.trans (bn.mono b6.size)
  have hm := hm.below bn
  have ha := ha.below bn
  have hb := hb.below bn
  have md := md.below bn
  have x := x.below bn
  have s := s.below bn
  have d := d.below bn
  have p := p.below bn
  clear b6 bn
  go_wp2_with fail
  refine (of_ar hm (by omega)).mono ?_
  rintro e w8 ⟨Bm, nm2, cm2, rfl, om, bn⟩
  have b8 := b7.trans (bn.mono b7.size)
  have hm := hm.below bn
  have ha := ha.below bn
  have hb := hb.below bn
  have md := md.below bn
  have x := x.below bn
  have s := s.below bn
  have d := d.below bn
  have p := p.below bn
  have mo := mo.below bn
  clear b7 bn
  go_wp2_with fail
  refine (num_any om (by have := om.len_; omega)).mono ?_
  rintro e w9 ⟨Bn, nn, cn, rfl, mw, bn⟩
  have b9 := b8.trans (bn.mono b8.size)
  clear om
  have hm := hm.below bn
  have ha := ha.below bn
  have hb := hb.below bn
  have md := md.below bn
  have x := x.below bn
  have s := s.below bn
  have d := d.below bn
  have p := p.below bn
  have mo := mo.below bn
  clear b8 bn
  go_wp2_with fail
  refine (same_rd mo.rd mw (by have := mo.c60; omega)).mono ?_
  rintro e w10 ⟨rfl, bn⟩
  have b10 := b9.trans (bn.mono b9.size)
  clear mo
  clear mw
  have hm := hm.below bn
  have ha := ha.below bn
  have hb := hb.below bn
  have md := md.below bn
  have x := x.below bn
  have s := s.below bn
  have d := d.below bn
  have p := p.below bn
  clear b9 bn
  go_wp2_with fail
  refine (long_no ha.nm ga).mono ?_
  rintro e w11 ⟨rfl, rfl⟩
  have b11 := b10
  clear b10
  go_wp2_with fail
  refine (long_no hb.nm gb).mono ?_
  rintro e w12 ⟨rfl, rfl⟩
  have b12 := b11
  clear b11
  go_wp2_with fail
  refine (Limbs_nm hm.nm).mono ?_
  rintro e w13 ⟨rfl, rfl⟩
  have b13 := b12
  clear b12
  go_wp2_with fail
  refine (Limbs_nm ha.nm).mono ?_
  rintro e w14 ⟨rfl, rfl⟩
  have b14 := b13
  clear b13
  go_wp2_with fail
  refine (Limbs_nm hb.nm).mono ?_
  rintro e w15 ⟨rfl, rfl⟩
  have b15 := b14
  clear b14
  have G := Lib.hid b15
  clear b15
  go_wp2
  go_ret
  exact ⟨rfl, G.out⟩
set_option maxHeartbeats 8000000 in
set_option maxRecDepth 100000 in
theorem montReckons_ok {w : World} {mA : Option Addr} {nm cm : Nat} {zm : List Int} {M : Int} {aA : Option Addr} {na ca : Nat} {za : List Int} {A : Int} {bA : Option Addr} {nb cb : Nat} {zb : List Int} {B : Int} (hm : Ar w mA nm cm zm M) (ha : Ar w aA na ca za A) (hb : Ar w bA nb cb zb B) (lm : nm ≤ 300) (la : na ≤ 300) (lb : nb ≤ 300) (hl : dl M ≤ 32) (ho : M % 2 = 1) (h3 : 3 ≤ M) (gs : dl M + dl A + dl B ≤ 40) :
    Calls Try.prog 3 #[.slice mA nm cm, .slice aA na ca, .slice bA nb cb] w fun e w' => e = .returned (.bool true) ∧ Below w.heap.size w w' := by
  have HO := Lib.hid ho
  clear ho
  have rm := dr_le hm.nm.pos hl
  have ga : dl A ≤ 64 := by omega
  have gb : dl B ≤ 64 := by omega
  have ra := dr_le (k := 40) ha.nm.pos (by omega)
  have rb := dr_le (k := 40) hb.nm.pos (by omega)
  have t0 : decide ((40 : Int) < (dl M : Int) + (dl A : Int) + (dl B : Int)) = false := by simp; omega
  have M0 : 0 < M := by omega
  have a0 := Int.emod_nonneg A (show M ≠ 0 by omega)
  have b0 := Int.emod_nonneg B (show M ≠ 0 by omega)
  have a1 := Int.emod_lt_of_pos A M0
  have b1' := Int.emod_lt_of_pos B M0
  have d1 := dr_rest (N := A) M0
  have d2 := dr_rest (N := B) M0
  have d3 := dr_rest (N := A - B) M0
  have d4 := dr_rest (N := A + B) M0
  have d5 := dr_rest (N := A * B) M0
  have d6 := dr_mul a0 b0
  have d7 : dr (A % M + M) ≤ 4 * 33 := dr_le (by omega) (dl_add a0 (by omega) (show dl (A % M) ≤ 32 by have := dl_mono a0 (show A % M ≤ M by omega); omega) hl)
  have d8 : dr (A % M + M - B % M) ≤ 4 * 33 := by have := dr_mono (N := A % M + M - B % M) (M := A % M + M) (by omega) (by omega); omega
  have d9 : dr (A % M + B % M) ≤ 4 * 33 := dr_le (by omega) (dl_add a0 b0 (show dl (A % M) ≤ 32 by have := dl_mono a0 (show A % M ≤ M by omega); omega) (show dl (B % M) ≤ 32 by have := dl_mono b0 (show B % M ≤ M by omega); omega))
  go_enter Try.func3, Try.ntmps3
  go_wp2_with fail
  refine (up_any _).mono ?_
  rintro e w1 ⟨rfl, b1⟩
  have hm := hm.below b1
  have ha := ha.below b1
  have hb := hb.below b1
  go_wp2_with fail
  refine (made_any hm (by omega) hl HO.out h3).mono ?_
  rintro e w2 ⟨b, MA, mc, low, OB, cB, SS, cS, rfl, md, bn⟩
  have b2 := b1.trans (bn.mono b1.size)
  have hm := hm.below bn
  have ha := ha.below bn
  have hb := hb.below bn
  clear b1 bn
  go_wp2_with fail
  refine (reduce_any md ha.nm ga).mono ?_
  rintro e w3 ⟨Bx, nx, cx, rfl, x, bn, -⟩
  have b3 := b2.trans (bn.mono b2.size)
  have hm := hm.below bn
  have ha := ha.below bn
  have hb := hb.below bn
  have md := md.below bn
  clear b2 bn
  go_wp2_with fail
  refine (madd_any md ha.nm hb.nm ga gb).mono ?_
  rintro e w4 ⟨Bs, ns, cs, rfl, s, bn, -⟩
  have b4 := b3.trans (bn.mono b3.size)
  have hm := hm.below bn
  have ha := ha.below bn
  have hb := hb.below bn
  have md := md.below bn
  have x := x.below bn
  clear b3 bn
  go_wp2_with fail
  refine (msub_any md ha.nm hb.nm ga gb).mono ?_
  rintro e w5 ⟨Bd, nd, cd, rfl, d, bn, -⟩
  have b5 := b4.trans (bn.mono b4.size)
  have hm := hm.below bn
  have ha := ha.below bn
  have hb := hb.below bn
  have md := md.below bn
  have x := x.below bn
  have s := s.below bn
  clear b4 bn
  go_wp2_with fail
  refine (mmul_any md ha.nm hb.nm ga gb).mono ?_
  rintro e w6 ⟨Bp, np, cp, rfl, p, bn, -⟩
  have b6 := b5.trans (bn.mono b5.size)
  have hm := hm.below bn
  have ha := ha.below bn
  have hb := hb.below bn
  have md := md.below bn
  have x := x.below bn
  have s := s.below bn
  have d := d.below bn
  clear b5 bn
  go_wp2_with fail
  refine (modulus_any md).mono ?_
  rintro e w7 ⟨Bo, no, co, rfl, mo, bn, -⟩
  have b7 := b6.trans (bn.mono b6.size)
  have hm := hm.below bn
  have ha := ha.below bn
  have hb := hb.below bn
  have md := md.below bn
  have x := x.below bn
  have s := s.below bn
  have d := d.below bn
  have p := p.below bn
  clear b6 bn
  go_wp2_with fail
  refine (of_ar hm (by omega)).mono ?_
  rintro e w8 ⟨Bm, nm2, cm2, rfl, om, bn⟩
  have b8 := b7.trans (bn.mono b7.size)
  have hm := hm.below bn
  have ha := ha.below bn
  have hb := hb.below bn
  have md := md.below bn
  have x := x.below bn
  have s := s.below bn
  have d := d.below bn
  have p := p.below bn
  have mo := mo.below bn
  clear b7 bn
  go_wp2_with fail
  refine (num_any om (by have := om.len_; omega)).mono ?_
  rintro e w9 ⟨Bn, nn, cn, rfl, mw, bn⟩
  have b9 := b8.trans (bn.mono b8.size)
  clear om
  have hm := hm.below bn
  have ha := ha.below bn
  have hb := hb.below bn
  have md := md.below bn
  have x := x.below bn
  have s := s.below bn
  have d := d.below bn
  have p := p.below bn
  have mo := mo.below bn
  clear b8 bn
  go_wp2_with fail
  refine (same_rd mo.rd mw (by have := mo.c60; omega)).mono ?_
  rintro e w10 ⟨rfl, bn⟩
  have b10 := b9.trans (bn.mono b9.size)
  clear mo
  clear mw
  have hm := hm.below bn
  have ha := ha.below bn
  have hb := hb.below bn
  have md := md.below bn
  have x := x.below bn
  have s := s.below bn
  have d := d.below bn
  have p := p.below bn
  clear b9 bn
  go_wp2_with fail
  refine (long_no ha.nm ga).mono ?_
  rintro e w11 ⟨rfl, rfl⟩
  have b11 := b10
  clear b10
  go_wp2_with fail
  refine (long_no hb.nm gb).mono ?_
  rintro e w12 ⟨rfl, rfl⟩
  have b12 := b11
  clear b11
  go_wp2_with fail
  refine (Limbs_nm hm.nm).mono ?_
  rintro e w13 ⟨rfl, rfl⟩
  have b13 := b12
  clear b12
  go_wp2_with fail
  refine (Limbs_nm ha.nm).mono ?_
  rintro e w14 ⟨rfl, rfl⟩
  have b14 := b13
  clear b13
  go_wp2_with fail
  refine (Limbs_nm hb.nm).mono ?_
  rintro e w15 ⟨rfl, rfl⟩
  have b15 := b14
  clear b14
  go_wp2_with fail
  refine (of_ar hm (by omega)).mono ?_
  rintro e w16 ⟨Bm, nm2, cm2, rfl, om, bn⟩
  have b16 := b15.trans (bn.mono b15.size)
  clear hm
  clear md
  have ha := ha.below bn
  have hb := hb.below bn
  have x := x.below bn
  have s := s.below bn
  have d := d.below bn
  have p := p.below bn
  clear b15 bn
  go_wp2_with fail
  refine (of_ar ha (by omega)).mono ?_
  rintro e w17 ⟨Ba, na2, ca2, rfl, oa, bn⟩
  have b17 := b16.trans (bn.mono b16.size)
  clear ha
  have hb := hb.below bn
  have x := x.below bn
  have s := s.below bn
  have d := d.below bn
  have p := p.below bn
  have om := om.below bn
  clear b16 bn
  go_wp2_with fail
  refine (rrest_any oa om (by have := oa.len_; omega) (by have := om.len_; omega) M0).mono ?_
  rintro e w18 ⟨Bu, nu, cu, rfl, ou, bn⟩
  have b18 := b17.trans (bn.mono b17.size)
  clear oa
  have hb := hb.below bn
  have x := x.below bn
  have s := s.below bn
  have d := d.below bn
  have p := p.below bn
  have om := om.below bn
  clear b17 bn
  go_wp2_with fail
  refine (of_ar hb (by omega)).mono ?_
  rintro e w19 ⟨Bb, nb2, cb2, rfl, ob, bn⟩
  have b19 := b18.trans (bn.mono b18.size)
  clear hb
  have x := x.below bn
  have s := s.below bn
  have d := d.below bn
  have p := p.below bn
  have om := om.below bn
  have ou := ou.below bn
  clear b18 bn
  go_wp2_with fail
  refine (rrest_any ob om (by have := ob.len_; omega) (by have := om.len_; omega) M0).mono ?_
  rintro e w20 ⟨Bv, nv, cv, rfl, ov, bn⟩
  have b20 := b19.trans (bn.mono b19.size)
  clear ob
  have x := x.below bn
  have s := s.below bn
  have d := d.below bn
  have p := p.below bn
  have om := om.below bn
  have ou := ou.below bn
  clear b19 bn
  go_wp2_with fail
  refine (radd_any ou om (by have := ou.len_; omega) (by have := om.len_; omega)).mono ?_
  rintro e w21 ⟨Bt, nt, ct, rfl, ot, bn⟩
  have b21 := b20.trans (bn.mono b20.size)
  have x := x.below bn
  have s := s.below bn
  have d := d.below bn
  have p := p.below bn
  have om := om.below bn
  have ou := ou.below bn
  have ov := ov.below bn
  clear b20 bn
  go_wp2_with fail
  refine (rsub_any ot ov (by have := ot.len_; omega) (by omega)).mono ?_
  rintro e w22 ⟨Bt2, nt2, ct2, rfl, ot2, bn⟩
  have b22 := b21.trans (bn.mono b21.size)
  clear ot
  have x := x.below bn
  have s := s.below bn
  have d := d.below bn
  have p := p.below bn
  have om := om.below bn
  have ou := ou.below bn
  have ov := ov.below bn
  clear b21 bn
  go_wp2_with fail
  refine (rrest_any ot2 om (by have := ot2.len_; omega) (by have := om.len_; omega) M0).mono ?_
  rintro e w23 ⟨Bw, nw, cw, rfl, ow, bn⟩
  have b23 := b22.trans (bn.mono b22.size)
  clear ot2
  have x := x.below bn
  have s := s.below bn
  have d := d.below bn
  have p := p.below bn
  have om := om.below bn
  have ou := ou.below bn
  have ov := ov.below bn
  clear b22 bn
  rw [reck_sub M0] at ow
  go_wp2_with fail
  refine (num_any ou (by have := ou.len_; omega)).mono ?_
  rintro e w24 ⟨B1, n1, c1, rfl, k1, bn⟩
  have b24 := b23.trans (bn.mono b23.size)
  have x := x.below bn
  have s := s.below bn
  have d := d.below bn
  have p := p.below bn
  have om := om.below bn
  have ou := ou.below bn
  have ov := ov.below bn
  have ow := ow.below bn
  clear b23 bn
  go_wp2_with fail
  refine (same_rd x.rd k1 (by have := x.c60; omega)).mono ?_
  rintro e w25 ⟨rfl, bn⟩
  have b25 := b24.trans (bn.mono b24.size)
  clear x
  clear k1
  have s := s.below bn
  have d := d.below bn
  have p := p.below bn
  have om := om.below bn
  have ou := ou.below bn
  have ov := ov.below bn
  have ow := ow.below bn
  clear b24 bn
  go_wp2_with fail
  refine (radd_any ou ov (by have := ou.len_; omega) (by have := ov.len_; omega)).mono ?_
  rintro e w26 ⟨Bt, nt, ct, rfl, ot, bn⟩
  have b26 := b25.trans (bn.mono b25.size)
  have s := s.below bn
  have d := d.below bn
  have p := p.below bn
  have om := om.below bn
  have ou := ou.below bn
  have ov := ov.below bn
  have ow := ow.below bn
  clear b25 bn
  go_wp2_with fail
  refine (rrest_any ot om (by have := ot.len_; omega) (by have := om.len_; omega) M0).mono ?_
  rintro e w27 ⟨Bt2, nt2, ct2, rfl, ot2, bn⟩
  have b27 := b26.trans (bn.mono b26.size)
  clear ot
  have s := s.below bn
  have d := d.below bn
  have p := p.below bn
  have om := om.below bn
  have ou := ou.below bn
  have ov := ov.below bn
  have ow := ow.below bn
  clear b26 bn
  rw [← Int.add_emod] at ot2
  go_wp2_with fail
  refine (num_any ot2 (by have := ot2.len_; omega)).mono ?_
  rintro e w28 ⟨B2, n2, c2, rfl, k2, bn⟩
  have b28 := b27.trans (bn.mono b27.size)
  clear ot2
  have s := s.below bn
  have d := d.below bn
  have p := p.below bn
  have om := om.below bn
  have ou := ou.below bn
  have ov := ov.below bn
  have ow := ow.below bn
  clear b27 bn
  go_wp2_with fail
  refine (same_rd s.rd k2 (by have := s.c60; omega)).mono ?_
  rintro e w29 ⟨rfl, bn⟩
  have b29 := b28.trans (bn.mono b28.size)
  clear s
  clear k2
  have d := d.below bn
  have p := p.below bn
  have om := om.below bn
  have ou := ou.below bn
  have ov := ov.below bn
  have ow := ow.below bn
  clear b28 bn
  go_wp2_with fail
  refine (num_any ow (by have := ow.len_; omega)).mono ?_
  rintro e w30 ⟨B3, n3, c3, rfl, k3, bn⟩
  have b30 := b29.trans (bn.mono b29.size)
  clear ow
  have d := d.below bn
  have p := p.below bn
  have om := om.below bn
  have ou := ou.below bn
  have ov := ov.below bn
  clear b29 bn
  go_wp2_with fail
  refine (same_rd d.rd k3 (by have := d.c60; omega)).mono ?_
  rintro e w31 ⟨rfl, bn⟩
  have b31 := b30.trans (bn.mono b30.size)
  clear d
  clear k3
  have p := p.below bn
  have om := om.below bn
  have ou := ou.below bn
  have ov := ov.below bn
  clear b30 bn
  go_wp2_with fail
  refine (rmul_any ou ov (by have := ou.len_; omega) (by have := ov.len_; omega)).mono ?_
  rintro e w32 ⟨Bt, nt, ct, rfl, ot, bn⟩
  have b32 := b31.trans (bn.mono b31.size)
  clear ou
  clear ov
  have p := p.below bn
  have om := om.below bn
  clear b31 bn
  go_wp2_with fail
  refine (rrest_any ot om (by have := ot.len_; omega) (by have := om.len_; omega) M0).mono ?_
  rintro e w33 ⟨Bt2, nt2, ct2, rfl, ot2, bn⟩
  have b33 := b32.trans (bn.mono b32.size)
  clear ot
  clear om
  have p := p.below bn
  clear b32 bn
  rw [← Int.mul_emod] at ot2
  go_wp2_with fail
  refine (num_any ot2 (by have := ot2.len_; omega)).mono ?_
  rintro e w34 ⟨B4, n4, c4, rfl, k4, bn⟩
  have b34 := b33.trans (bn.mono b33.size)
  clear ot2
  have p := p.below bn
  clear b33 bn
  go_wp2_with fail
  refine (same_rd p.rd k4 (by have := p.c60; omega)).mono ?_
  rintro e w35 ⟨rfl, bn⟩
  have b35 := b34.trans (bn.mono b34.size)
  clear p
  clear k4
  clear b34 bn
  have G := Lib.hid b35
  clear b35
  go_wp2
  go_ret
  exact ⟨rfl, G.out⟩
theorem montReckons_walk {w : World} {mA : Option Addr} {nm cm : Nat} {zm : List Int} {aA : Option Addr} {na ca : Nat} {za : List Int} {bA : Option Addr} {nb cb : Nat} {zb : List Int} (tm : Told w mA nm cm zm) (ta : Told w aA na ca za) (tb : Told w bA nb cb zb) :
    Calls Try.prog 3 #[.slice mA nm cm, .slice aA na ca, .slice bA nb cb] w fun e w' => e = .returned (.bool true) ∧ Below w.heap.size w w' := by
  have hm : Ar w mA nm cm zm (val W zm) := ⟨tm, rfl⟩
  have ha : Ar w aA na ca za (val W za) := ⟨ta, rfl⟩
  have hb : Ar w bA nb cb zb (val W zb) := ⟨tb, rfl⟩
  rcases Nat.lt_or_ge 300 nm with lm | lm
  · exact montReckons_over0 hm ha hb  lm
  rcases Nat.lt_or_ge 300 na with la | la
  · exact montReckons_over1 hm ha hb  lm la
  rcases Nat.lt_or_ge 300 nb with lb | lb
  · exact montReckons_over2 hm ha hb  lm la lb
  rcases Nat.lt_or_ge 32 (dl (val W zm)) with hl | hl
  · exact montReckons_long hm ha hb  lm la lb hl
  by_cases he : val W zm % 2 = 0 ∨ val W zm < 3
  · exact montReckons_even hm ha hb  lm la lb hl he
  have ho : val W zm % 2 = 1 := by omega
  have h3 : 3 ≤ val W zm := by omega
  rcases Nat.lt_or_ge 64 (dl (val W za)) with ga | ga
  · exact montReckons_la hm ha hb  lm la lb hl ho h3 ga
  rcases Nat.lt_or_ge 64 (dl (val W zb)) with gb | gb
  · exact montReckons_lb hm ha hb  lm la lb hl ho h3 ga gb
  rcases Nat.lt_or_ge 40 (dl (val W zm) + dl (val W za) + dl (val W zb)) with gs | gs
  · exact montReckons_many hm ha hb  lm la lb hl ho h3 ga gb gs
  exact montReckons_ok hm ha hb  lm la lb hl ho h3 gs
end Go.Proofs.Ytelhkmgbpcojiaa
