/-
  The walk of MontLaws: sums of exponents are products, products of bases are products, differences go back.
-/
import Derived.Test.YtelhkmgbpcojiaaMade
import Derived.Test.YtelhkmgbpcojiaaRExp
namespace Go.Proofs.Ytelhkmgbpcojiaa
open Go.RowKit
set_option linter.unusedVariables false
set_option maxHeartbeats 8000000 in
set_option maxRecDepth 100000 in
theorem montLaws_over0 {w : World} {mA : Option Addr} {nm cm : Nat} {zm : List Int} {M : Int} {aA : Option Addr} {na ca : Nat} {za : List Int} {A : Int} {bA : Option Addr} {nb cb : Nat} {zb : List Int} {B : Int} {kA : Option Addr} {nk ck : Nat} {zk : List Int} {K : Int} {lA : Option Addr} {nl cl : Nat} {zl : List Int} {L : Int} (hm : Ar w mA nm cm zm M) (ha : Ar w aA na ca za A) (hb : Ar w bA nb cb zb B) (hk : Ar w kA nk ck zk K) (hl_ : Ar w lA nl cl zl L)  (lm : 40 < nm) :
    Calls Try.prog 6 #[.slice mA nm cm, .slice aA na ca, .slice bA nb cb, .slice kA nk ck, .slice lA nl cl] w fun e w' => e = .returned (.bool true) ∧ Below w.heap.size w w' := by
  have dm := hm.told.c60
  have da := ha.told.c60
  have db := hb.told.c60
  have dk := hk.told.c60
  have dl := hl_.told.c60
  go_enter Try.func6, Try.ntmps6
  go_wp2_with fail
  refine (up_any _).mono ?_
  rintro e w1 ⟨rfl, b1⟩
  have G := Lib.hid b1
  clear b1
  go_wp2
  go_ret
  exact ⟨rfl, G.out⟩
set_option maxHeartbeats 8000000 in
set_option maxRecDepth 100000 in
theorem montLaws_over1 {w : World} {mA : Option Addr} {nm cm : Nat} {zm : List Int} {M : Int} {aA : Option Addr} {na ca : Nat} {za : List Int} {A : Int} {bA : Option Addr} {nb cb : Nat} {zb : List Int} {B : Int} {kA : Option Addr} {nk ck : Nat} {zk : List Int} {K : Int} {lA : Option Addr} {nl cl : Nat} {zl : List Int} {L : Int} (hm : Ar w mA nm cm zm M) (ha : Ar w aA na ca za A) (hb : Ar w bA nb cb zb B) (hk : Ar w kA nk ck zk K) (hl_ : Ar w lA nl cl zl L) (lm : nm ≤ 40) (la : 60 < na) :
    Calls Try.prog 6 #[.slice mA nm cm, .slice aA na ca, .slice bA nb cb, .slice kA nk ck, .slice lA nl cl] w fun e w' => e = .returned (.bool true) ∧ Below w.heap.size w w' := by
  have dm := hm.told.c60
  have da := ha.told.c60
  have db := hb.told.c60
  have dk := hk.told.c60
  have dl := hl_.told.c60
  go_enter Try.func6, Try.ntmps6
  go_wp2_with fail
  refine (up_any _).mono ?_
  rintro e w1 ⟨rfl, b1⟩
  have G := Lib.hid b1
  clear b1
  go_wp2
  go_ret
  exact ⟨rfl, G.out⟩
set_option maxHeartbeats 8000000 in
set_option maxRecDepth 100000 in
theorem montLaws_over2 {w : World} {mA : Option Addr} {nm cm : Nat} {zm : List Int} {M : Int} {aA : Option Addr} {na ca : Nat} {za : List Int} {A : Int} {bA : Option Addr} {nb cb : Nat} {zb : List Int} {B : Int} {kA : Option Addr} {nk ck : Nat} {zk : List Int} {K : Int} {lA : Option Addr} {nl cl : Nat} {zl : List Int} {L : Int} (hm : Ar w mA nm cm zm M) (ha : Ar w aA na ca za A) (hb : Ar w bA nb cb zb B) (hk : Ar w kA nk ck zk K) (hl_ : Ar w lA nl cl zl L) (lm : nm ≤ 40) (la : na ≤ 60) (lb : 60 < nb) :
    Calls Try.prog 6 #[.slice mA nm cm, .slice aA na ca, .slice bA nb cb, .slice kA nk ck, .slice lA nl cl] w fun e w' => e = .returned (.bool true) ∧ Below w.heap.size w w' := by
  have dm := hm.told.c60
  have da := ha.told.c60
  have db := hb.told.c60
  have dk := hk.told.c60
  have dl := hl_.told.c60
  go_enter Try.func6, Try.ntmps6
  go_wp2_with fail
  refine (up_any _).mono ?_
  rintro e w1 ⟨rfl, b1⟩
  have G := Lib.hid b1
  clear b1
  go_wp2
  go_ret
  exact ⟨rfl, G.out⟩
set_option maxHeartbeats 8000000 in
set_option maxRecDepth 100000 in
theorem montLaws_over3 {w : World} {mA : Option Addr} {nm cm : Nat} {zm : List Int} {M : Int} {aA : Option Addr} {na ca : Nat} {za : List Int} {A : Int} {bA : Option Addr} {nb cb : Nat} {zb : List Int} {B : Int} {kA : Option Addr} {nk ck : Nat} {zk : List Int} {K : Int} {lA : Option Addr} {nl cl : Nat} {zl : List Int} {L : Int} (hm : Ar w mA nm cm zm M) (ha : Ar w aA na ca za A) (hb : Ar w bA nb cb zb B) (hk : Ar w kA nk ck zk K) (hl_ : Ar w lA nl cl zl L) (lm : nm ≤ 40) (la : na ≤ 60) (lb : nb ≤ 60) (lk : 8 < nk) :
    Calls Try.prog 6 #[.slice mA nm cm, .slice aA na ca, .slice bA nb cb, .slice kA nk ck, .slice lA nl cl] w fun e w' => e = .returned (.bool true) ∧ Below w.heap.size w w' := by
  have dm := hm.told.c60
  have da := ha.told.c60
  have db := hb.told.c60
  have dk := hk.told.c60
  have dl := hl_.told.c60
  go_enter Try.func6, Try.ntmps6
  go_wp2_with fail
  refine (up_any _).mono ?_
  rintro e w1 ⟨rfl, b1⟩
  have G := Lib.hid b1
  clear b1
  go_wp2
  go_ret
  exact ⟨rfl, G.out⟩
set_option maxHeartbeats 8000000 in
set_option maxRecDepth 100000 in
theorem montLaws_over4 {w : World} {mA : Option Addr} {nm cm : Nat} {zm : List Int} {M : Int} {aA : Option Addr} {na ca : Nat} {za : List Int} {A : Int} {bA : Option Addr} {nb cb : Nat} {zb : List Int} {B : Int} {kA : Option Addr} {nk ck : Nat} {zk : List Int} {K : Int} {lA : Option Addr} {nl cl : Nat} {zl : List Int} {L : Int} (hm : Ar w mA nm cm zm M) (ha : Ar w aA na ca za A) (hb : Ar w bA nb cb zb B) (hk : Ar w kA nk ck zk K) (hl_ : Ar w lA nl cl zl L) (lm : nm ≤ 40) (la : na ≤ 60) (lb : nb ≤ 60) (lk : nk ≤ 8) (ll : 8 < nl) :
    Calls Try.prog 6 #[.slice mA nm cm, .slice aA na ca, .slice bA nb cb, .slice kA nk ck, .slice lA nl cl] w fun e w' => e = .returned (.bool true) ∧ Below w.heap.size w w' := by
  have dm := hm.told.c60
  have da := ha.told.c60
  have db := hb.told.c60
  have dk := hk.told.c60
  have dl := hl_.told.c60
  go_enter Try.func6, Try.ntmps6
  go_wp2_with fail
  refine (up_any _).mono ?_
  rintro e w1 ⟨rfl, b1⟩
  have G := Lib.hid b1
  clear b1
  go_wp2
  go_ret
  exact ⟨rfl, G.out⟩
set_option maxHeartbeats 8000000 in
set_option maxRecDepth 100000 in
theorem montLaws_long {w : World} {mA : Option Addr} {nm cm : Nat} {zm : List Int} {M : Int} {aA : Option Addr} {na ca : Nat} {za : List Int} {A : Int} {bA : Option Addr} {nb cb : Nat} {zb : List Int} {B : Int} {kA : Option Addr} {nk ck : Nat} {zk : List Int} {K : Int} {lA : Option Addr} {nl cl : Nat} {zl : List Int} {L : Int} (hm : Ar w mA nm cm zm M) (ha : Ar w aA na ca za A) (hb : Ar w bA nb cb zb B) (hk : Ar w kA nk ck zk K) (hl_ : Ar w lA nl cl zl L) (lm : nm ≤ 40) (la : na ≤ 60) (lb : nb ≤ 60) (lk : nk ≤ 8) (ll : nl ≤ 8) (hl : 32 < dl M) :
    Calls Try.prog 6 #[.slice mA nm cm, .slice aA na ca, .slice bA nb cb, .slice kA nk ck, .slice lA nl cl] w fun e w' => e = .returned (.bool true) ∧ Below w.heap.size w w' := by
  go_enter Try.func6, Try.ntmps6
  go_wp2_with fail
  refine (up_any _).mono ?_
  rintro e w1 ⟨rfl, b1⟩
  have hm := hm.below b1
  go_wp2_with fail
  refine (made_long hm (by omega) hl).mono ?_
  rintro e w2 ⟨rfl, bn⟩
  have b2 := b1.trans (bn.mono b1.size)
  have hm := hm.below bn
  clear b1 bn
  have G := Lib.hid b2
  clear b2
  go_wp2
  go_ret
  exact ⟨rfl, G.out⟩
set_option maxHeartbeats 8000000 in
set_option maxRecDepth 100000 in
theorem montLaws_even {w : World} {mA : Option Addr} {nm cm : Nat} {zm : List Int} {M : Int} {aA : Option Addr} {na ca : Nat} {za : List Int} {A : Int} {bA : Option Addr} {nb cb : Nat} {zb : List Int} {B : Int} {kA : Option Addr} {nk ck : Nat} {zk : List Int} {K : Int} {lA : Option Addr} {nl cl : Nat} {zl : List Int} {L : Int} (hm : Ar w mA nm cm zm M) (ha : Ar w aA na ca za A) (hb : Ar w bA nb cb zb B) (hk : Ar w kA nk ck zk K) (hl_ : Ar w lA nl cl zl L) (lm : nm ≤ 40) (la : na ≤ 60) (lb : nb ≤ 60) (lk : nk ≤ 8) (ll : nl ≤ 8) (hl : dl M ≤ 32) (he : M % 2 = 0 ∨ M < 3) :
    Calls Try.prog 6 #[.slice mA nm cm, .slice aA na ca, .slice bA nb cb, .slice kA nk ck, .slice lA nl cl] w fun e w' => e = .returned (.bool true) ∧ Below w.heap.size w w' := by
  have HE := Lib.hid he
  clear he
  go_enter Try.func6, Try.ntmps6
  go_wp2_with fail
  refine (up_any _).mono ?_
  rintro e w1 ⟨rfl, b1⟩
  have hm := hm.below b1
  go_wp2_with fail
  refine (made_even hm (by omega) hl HE.out).mono ?_
  rintro e w2 ⟨rfl, bn⟩
  have b2 := b1.trans (bn.mono b1.size)
  have hm := hm.below bn
  clear b1 bn
  have G := Lib.hid b2
  clear b2
  go_wp2
  go_ret
  exact ⟨rfl, G.out⟩
theorem laws_one {M A K L : Int} (hk : 0 ≤ K) (hl : 0 ≤ L) : A ^ K.toNat % M * (A ^ L.toNat % M) % M = A ^ (K + L).toNat % M := by
  rw [← Int.mul_emod, ← Int.pow_add, Int.toNat_add hk hl]
theorem laws_two {M A B : Int} (k : Nat) : A ^ k % M * (B ^ k % M) % M = (A * B % M) ^ k % M := by
  rw [← Int.mul_emod, ← Int.mul_pow]
  exact ((Eqm.mod M (A * B)).symm.pow k).emod
theorem laws_three {M A B : Int} : ((A - B) % M + B) % M = A % M := by
  rw [← Eqm.iff]
  exact ((Eqm.mod M (A - B)).add (Eqm.refl M B)).trans (Eqm.of_eq (by omega))
set_option maxHeartbeats 8000000 in
set_option maxRecDepth 100000 in
theorem montLaws_ok {w : World} {mA : Option Addr} {nm cm : Nat} {zm : List Int} {M : Int} {aA : Option Addr} {na ca : Nat} {za : List Int} {A : Int} {bA : Option Addr} {nb cb : Nat} {zb : List Int} {B : Int} {kA : Option Addr} {nk ck : Nat} {zk : List Int} {K : Int} {lA : Option Addr} {nl cl : Nat} {zl : List Int} {L : Int} (hm : Ar w mA nm cm zm M) (ha : Ar w aA na ca za A) (hb : Ar w bA nb cb zb B) (hk : Ar w kA nk ck zk K) (hl_ : Ar w lA nl cl zl L) (lm : nm ≤ 40) (la : na ≤ 60) (lb : nb ≤ 60) (lk : nk ≤ 8) (ll : nl ≤ 8) (hl : dl M ≤ 32) (ho : M % 2 = 1) (h3 : 3 ≤ M) :
    Calls Try.prog 6 #[.slice mA nm cm, .slice aA na ca, .slice bA nb cb, .slice kA nk ck, .slice lA nl cl] w fun e w' => e = .returned (.bool true) ∧ Below w.heap.size w w' := by
  have HO := Lib.hid ho
  clear ho
  have da64 : dl A ≤ 64 := by have := ha.nm.dl_le; omega
  have db64 : dl B ≤ 64 := by have := hb.nm.dl_le; omega
  have dk64 : dl K ≤ 64 := by have := hk.nm.dl_le; omega
  have dl64 : dl L ≤ 64 := by have := hl_.nm.dl_le; omega
  have K0 := hk.nm.pos
  have L0 := hl_.nm.pos
  have dk : dl K ≤ 8 := by have := hk.nm.dl_le; omega
  have dll : dl L ≤ 8 := by have := hl_.nm.dl_le; omega
  have dkl : dl (K + L) ≤ 9 := dl_add K0 L0 dk dll
  have rk := dr_le K0 dk
  have rl := dr_le L0 dll
  have rkl := dr_le (Int.add_nonneg K0 L0) dkl
  have dkl64 : dl (K + L) ≤ 64 := by omega
  go_enter Try.func6, Try.ntmps6
  go_wp2_with fail
  refine (up_any _).mono ?_
  rintro e w1 ⟨rfl, b1⟩
  have hm := hm.below b1
  have ha := ha.below b1
  have hb := hb.below b1
  have hk := hk.below b1
  have hl_ := hl_.below b1
  go_wp2_with fail
  refine (made_any hm (by omega) hl HO.out h3).mono ?_
  rintro e w2 ⟨b, MA, mc, low, OB, cB, SS, cS, rfl, md, bn⟩
  have b2 := b1.trans (bn.mono b1.size)
  have hm := hm.below bn
  have ha := ha.below bn
  have hb := hb.below bn
  have hk := hk.below bn
  have hl_ := hl_.below bn
  clear b1 bn
  have rx := md.rest (A ^ K.toNat)
  have ry := md.rest (A ^ L.toNat)
  have ru := md.rest (B ^ K.toNat)
  have rab := md.rest (A * B)
  have rd := md.rest (A - B)
  go_wp2_with fail
  refine (exp_any md ha.nm hk.nm da64 dk64).mono ?_
  rintro e w3 ⟨Bx, nx, cx, rfl, x, bn, -⟩
  have b3 := b2.trans (bn.mono b2.size)
  clear hm
  have ha := ha.below bn
  have hb := hb.below bn
  have hk := hk.below bn
  have hl_ := hl_.below bn
  have md := md.below bn
  clear b2 bn
  go_wp2_with fail
  refine (exp_any md ha.nm hl_.nm da64 dl64).mono ?_
  rintro e w4 ⟨By, ny, cy, rfl, y, bn, -⟩
  have b4 := b3.trans (bn.mono b3.size)
  have ha := ha.below bn
  have hb := hb.below bn
  have hk := hk.below bn
  have hl_ := hl_.below bn
  have md := md.below bn
  have x := x.below bn
  clear b3 bn
  go_wp2_with fail
  refine (of_ar hk (by omega)).mono ?_
  rintro e w5 ⟨Bk, nk2, ck2, rfl, ok, bn⟩
  have b5 := b4.trans (bn.mono b4.size)
  have ha := ha.below bn
  have hb := hb.below bn
  have hk := hk.below bn
  have hl_ := hl_.below bn
  have md := md.below bn
  have x := x.below bn
  have y := y.below bn
  clear b4 bn
  go_wp2_with fail
  refine (of_ar hl_ (by omega)).mono ?_
  rintro e w6 ⟨Bl, nl2, cl2, rfl, ol, bn⟩
  have b6 := b5.trans (bn.mono b5.size)
  clear hl_
  have ha := ha.below bn
  have hb := hb.below bn
  have hk := hk.below bn
  have md := md.below bn
  have x := x.below bn
  have y := y.below bn
  have ok := ok.below bn
  clear b5 bn
  go_wp2_with fail
  refine (radd_any ok ol (by have := ok.len_; omega) (by have := ol.len_; omega)).mono ?_
  rintro e w7 ⟨Bs, ns2, cs2, rfl, os, bn⟩
  have b7 := b6.trans (bn.mono b6.size)
  clear ok
  clear ol
  have ha := ha.below bn
  have hb := hb.below bn
  have hk := hk.below bn
  have md := md.below bn
  have x := x.below bn
  have y := y.below bn
  clear b6 bn
  go_wp2_with fail
  refine (to_cn os (by have := os.len_; omega)).mono ?_
  rintro e w8 ⟨Bt, nt2, ct2, rfl, both, bn⟩
  have b8 := b7.trans (bn.mono b7.size)
  clear os
  have ha := ha.below bn
  have hb := hb.below bn
  have hk := hk.below bn
  have md := md.below bn
  have x := x.below bn
  have y := y.below bn
  clear b7 bn
  go_wp2_with fail
  refine (exp_any md ha.nm both.nm da64 dkl64).mono ?_
  rintro e w9 ⟨Bz, nz, cz, rfl, z, bn, -⟩
  have b9 := b8.trans (bn.mono b8.size)
  clear both
  have ha := ha.below bn
  have hb := hb.below bn
  have hk := hk.below bn
  have md := md.below bn
  have x := x.below bn
  have y := y.below bn
  clear b8 bn
  go_wp2_with fail
  refine (mmul_any md x.nm y.nm rx.2.2.2 ry.2.2.2).mono ?_
  rintro e w10 ⟨Bp, np, cp, rfl, p, bn, -⟩
  have b10 := b9.trans (bn.mono b9.size)
  clear y
  have ha := ha.below bn
  have hb := hb.below bn
  have hk := hk.below bn
  have md := md.below bn
  have x := x.below bn
  have z := z.below bn
  clear b9 bn
  rw [laws_one K0 L0] at p
  go_wp2_with fail
  refine (exp_any md hb.nm hk.nm db64 dk64).mono ?_
  rintro e w11 ⟨Bu, nu, cu, rfl, u, bn, -⟩
  have b11 := b10.trans (bn.mono b10.size)
  have ha := ha.below bn
  have hb := hb.below bn
  have hk := hk.below bn
  have md := md.below bn
  have x := x.below bn
  have z := z.below bn
  have p := p.below bn
  clear b10 bn
  go_wp2_with fail
  refine (mmul_any md ha.nm hb.nm da64 db64).mono ?_
  rintro e w12 ⟨Bab, nab, cab, rfl, ab, bn, -⟩
  have b12 := b11.trans (bn.mono b11.size)
  have ha := ha.below bn
  have hb := hb.below bn
  have hk := hk.below bn
  have md := md.below bn
  have x := x.below bn
  have z := z.below bn
  have p := p.below bn
  have u := u.below bn
  clear b11 bn
  go_wp2_with fail
  refine (exp_any md ab.nm hk.nm rab.2.2.2 dk64).mono ?_
  rintro e w13 ⟨Bv, nv, cv, rfl, v, bn, -⟩
  have b13 := b12.trans (bn.mono b12.size)
  clear ab
  clear hk
  have ha := ha.below bn
  have hb := hb.below bn
  have md := md.below bn
  have x := x.below bn
  have z := z.below bn
  have p := p.below bn
  have u := u.below bn
  clear b12 bn
  go_wp2_with fail
  refine (mmul_any md x.nm u.nm rx.2.2.2 ru.2.2.2).mono ?_
  rintro e w14 ⟨Bww, nww, cww, rfl, ww, bn, -⟩
  have b14 := b13.trans (bn.mono b13.size)
  clear x
  clear u
  have ha := ha.below bn
  have hb := hb.below bn
  have md := md.below bn
  have z := z.below bn
  have p := p.below bn
  have v := v.below bn
  clear b13 bn
  rw [laws_two] at ww
  go_wp2_with fail
  refine (msub_any md ha.nm hb.nm da64 db64).mono ?_
  rintro e w15 ⟨Bd, nd, cd, rfl, d, bn, -⟩
  have b15 := b14.trans (bn.mono b14.size)
  have ha := ha.below bn
  have hb := hb.below bn
  have md := md.below bn
  have z := z.below bn
  have p := p.below bn
  have v := v.below bn
  have ww := ww.below bn
  clear b14 bn
  go_wp2_with fail
  refine (madd_any md d.nm hb.nm rd.2.2.2 db64).mono ?_
  rintro e w16 ⟨Bs, ns, cs, rfl, s, bn, -⟩
  have b16 := b15.trans (bn.mono b15.size)
  clear d
  clear hb
  have ha := ha.below bn
  have md := md.below bn
  have z := z.below bn
  have p := p.below bn
  have v := v.below bn
  have ww := ww.below bn
  clear b15 bn
  rw [laws_three] at s
  go_wp2_with fail
  refine (reduce_any md ha.nm da64).mono ?_
  rintro e w17 ⟨Brest, nrest, crest, rfl, rest, bn, -⟩
  have b17 := b16.trans (bn.mono b16.size)
  clear md
  clear ha
  have z := z.below bn
  have p := p.below bn
  have v := v.below bn
  have ww := ww.below bn
  have s := s.below bn
  clear b16 bn
  go_wp2_with fail
  refine (same_cn z p).mono ?_
  rintro e w18 ⟨rfl, bn⟩
  have b18 := b17.trans (bn.mono b17.size)
  clear z
  clear p
  have v := v.below bn
  have ww := ww.below bn
  have s := s.below bn
  have rest := rest.below bn
  clear b17 bn
  go_wp2_with fail
  refine (same_cn v ww).mono ?_
  rintro e w19 ⟨rfl, bn⟩
  have b19 := b18.trans (bn.mono b18.size)
  clear v
  clear ww
  have s := s.below bn
  have rest := rest.below bn
  clear b18 bn
  go_wp2_with fail
  refine (same_cn s rest).mono ?_
  rintro e w20 ⟨rfl, bn⟩
  have b20 := b19.trans (bn.mono b19.size)
  clear s
  clear rest
  clear b19 bn
  have G := Lib.hid b20
  clear b20
  go_wp2
  go_ret
  exact ⟨rfl, G.out⟩
theorem montLaws_walk {w : World} {mA : Option Addr} {nm cm : Nat} {zm : List Int} {aA : Option Addr} {na ca : Nat} {za : List Int} {bA : Option Addr} {nb cb : Nat} {zb : List Int} {kA : Option Addr} {nk ck : Nat} {zk : List Int} {lA : Option Addr} {nl cl : Nat} {zl : List Int} (tm : Told w mA nm cm zm) (ta : Told w aA na ca za) (tb : Told w bA nb cb zb) (tk : Told w kA nk ck zk) (tl : Told w lA nl cl zl) :
    Calls Try.prog 6 #[.slice mA nm cm, .slice aA na ca, .slice bA nb cb, .slice kA nk ck, .slice lA nl cl] w fun e w' => e = .returned (.bool true) ∧ Below w.heap.size w w' := by
  have hm : Ar w mA nm cm zm (val W zm) := ⟨tm, rfl⟩
  have ha : Ar w aA na ca za (val W za) := ⟨ta, rfl⟩
  have hb : Ar w bA nb cb zb (val W zb) := ⟨tb, rfl⟩
  have hk : Ar w kA nk ck zk (val W zk) := ⟨tk, rfl⟩
  have hl_ : Ar w lA nl cl zl (val W zl) := ⟨tl, rfl⟩
  rcases Nat.lt_or_ge 40 nm with lm | lm
  · exact montLaws_over0 hm ha hb hk hl_  lm
  rcases Nat.lt_or_ge 60 na with la | la
  · exact montLaws_over1 hm ha hb hk hl_  lm la
  rcases Nat.lt_or_ge 60 nb with lb | lb
  · exact montLaws_over2 hm ha hb hk hl_  lm la lb
  rcases Nat.lt_or_ge 8 nk with lk | lk
  · exact montLaws_over3 hm ha hb hk hl_  lm la lb lk
  rcases Nat.lt_or_ge 8 nl with ll | ll
  · exact montLaws_over4 hm ha hb hk hl_  lm la lb lk ll
  rcases Nat.lt_or_ge 32 (dl (val W zm)) with hl | hl
  · exact montLaws_long hm ha hb hk hl_  lm la lb lk ll hl
  by_cases he : val W zm % 2 = 0 ∨ val W zm < 3
  · exact montLaws_even hm ha hb hk hl_  lm la lb lk ll hl he
  have ho : val W zm % 2 = 1 := by omega
  have h3 : 3 ≤ val W zm := by omega
  exact montLaws_ok hm ha hb hk hl_  lm la lb lk ll hl ho h3
end Go.Proofs.Ytelhkmgbpcojiaa
