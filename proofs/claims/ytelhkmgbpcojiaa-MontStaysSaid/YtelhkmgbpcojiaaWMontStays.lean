/-
  The walk of MontStays: numbers that are handed in stay as they are, and what was answered stays, whatever becomes of them.
-/
import Derived.Test.YtelhkmgbpcojiaaMade
import Derived.Test.YtelhkmgbpcojiaaStay
namespace Go.Proofs.Ytelhkmgbpcojiaa
open Go.RowKit
set_option linter.unusedVariables false
set_option maxHeartbeats 8000000 in
set_option maxRecDepth 100000 in
theorem montStays_over0 {w : World} {mA : Option Addr} {nm cm : Nat} {zm : List Int} {M : Int} {aA : Option Addr} {na ca : Nat} {za : List Int} {A : Int} {bA : Option Addr} {nb cb : Nat} {zb : List Int} {B : Int} (hm : Ar w mA nm cm zm M) (ha : Ar w aA na ca za A) (hb : Ar w bA nb cb zb B)  (lm : 20 < nm) :
    Calls Try.prog 8 #[.slice mA nm cm, .slice aA na ca, .slice bA nb cb] w fun e w' => e = .returned (.bool true) ∧ Below w.heap.size w w' := by
  have dm := hm.told.c60
  have da := ha.told.c60
  have db := hb.told.c60
  go_enter Try.func8, Try.ntmps8
  go_wp2_with fail
  refine (up_any _).mono ?_
  rintro e w1 ⟨rfl, b1⟩
  have G := Lib.hid b1
  clear b1
  go_wp2
  go_ret
  exact ⟨rfl, G.out⟩
set_option maxHeartbeats 8000000 in
set_option maxRecDepth 100000 in
theorem montStays_over1 {w : World} {mA : Option Addr} {nm cm : Nat} {zm : List Int} {M : Int} {aA : Option Addr} {na ca : Nat} {za : List Int} {A : Int} {bA : Option Addr} {nb cb : Nat} {zb : List Int} {B : Int} (hm : Ar w mA nm cm zm M) (ha : Ar w aA na ca za A) (hb : Ar w bA nb cb zb B) (lm : nm ≤ 20) (la : 20 < na) :
    Calls Try.prog 8 #[.slice mA nm cm, .slice aA na ca, .slice bA nb cb] w fun e w' => e = .returned (.bool true) ∧ Below w.heap.size w w' := by
  have dm := hm.told.c60
  have da := ha.told.c60
  have db := hb.told.c60
  go_enter Try.func8, Try.ntmps8
  go_wp2_with fail
  refine (up_any _).mono ?_
  rintro e w1 ⟨rfl, b1⟩
  have G := Lib.hid b1
  clear b1
  go_wp2
  go_ret
  exact ⟨rfl, G.out⟩
set_option maxHeartbeats 8000000 in
set_option maxRecDepth 100000 in
theorem montStays_over2 {w : World} {mA : Option Addr} {nm cm : Nat} {zm : List Int} {M : Int} {aA : Option Addr} {na ca : Nat} {za : List Int} {A : Int} {bA : Option Addr} {nb cb : Nat} {zb : List Int} {B : Int} (hm : Ar w mA nm cm zm M) (ha : Ar w aA na ca za A) (hb : Ar w bA nb cb zb B) (lm : nm ≤ 20) (la : na ≤ 20) (lb : 20 < nb) :
    Calls Try.prog 8 #[.slice mA nm cm, .slice aA na ca, .slice bA nb cb] w fun e w' => e = .returned (.bool true) ∧ Below w.heap.size w w' := by
  have dm := hm.told.c60
  have da := ha.told.c60
  have db := hb.told.c60
  go_enter Try.func8, Try.ntmps8
  go_wp2_with fail
  refine (up_any _).mono ?_
  rintro e w1 ⟨rfl, b1⟩
  have G := Lib.hid b1
  clear b1
  go_wp2
  go_ret
  exact ⟨rfl, G.out⟩
set_option maxHeartbeats 8000000 in
set_option maxRecDepth 100000 in
theorem montStays_even {w : World} {mA : Option Addr} {nm cm : Nat} {zm : List Int} {M : Int} {aA : Option Addr} {na ca : Nat} {za : List Int} {A : Int} {bA : Option Addr} {nb cb : Nat} {zb : List Int} {B : Int} (hm : Ar w mA nm cm zm M) (ha : Ar w aA na ca za A) (hb : Ar w bA nb cb zb B) (lm : nm ≤ 20) (la : na ≤ 20) (lb : nb ≤ 20) (he : M % 2 = 0 ∨ M < 3) :
    Calls Try.prog 8 #[.slice mA nm cm, .slice aA na ca, .slice bA nb cb] w fun e w' => e = .returned (.bool true) ∧ Below w.heap.size w w' := by
  have HE := Lib.hid he
  clear he
  have hm0 := Lib.hid hm
  have ha0 := Lib.hid ha
  have hb0 := Lib.hid hb
  have tm := hm.told.dig_
  have ta := ha.told.dig_
  have tb := hb.told.dig_
  have vm := Lib.hid hm.val_
  have va := Lib.hid ha.val_
  have vb := Lib.hid hb.val_
  have hl : dl M ≤ 32 := by have := hm.nm.dl_le; omega
  have da64 : dl A ≤ 64 := by have := ha.nm.dl_le; omega
  have db64 : dl B ≤ 64 := by have := hb.nm.dl_le; omega
  have ttm : decide ((20 : Int) < (nm : Int)) = false := by simp; omega
  have tta : decide ((20 : Int) < (na : Int)) = false := by simp; omega
  have ttb : decide ((20 : Int) < (nb : Int)) = false := by simp; omega
  go_enter Try.func8, Try.ntmps8
  go_wp2_with fail
  refine (up_any _).mono ?_
  rintro e w1 ⟨rfl, b1⟩
  have hm := hm.below b1
  have ha := ha.below b1
  have hb := hb.below b1
  have s1 := b1.size
  have hrd := (hm.told.rd).alloc (.cells #[] 51)
  have hown : (w1.alloc (.cells #[] 51)).ownsRow w1.heap.size 51 1 (.slice (some ⟨w1.heap.size, 0, none⟩) 0 0) 0 (([] : List Int).map (Value.int .u64)) := World.ownsRow_lit w1 #[] 0 (Nat.le_refl _) (by unfold maxLen; omega) rfl
  go_wp2_with (at_builtin; refine wpList_cat _ rfl _ _ 23 rfl w1.heap.size 51 .u64 Try.underlying23 info62u _ _ [] rfl hown _ _ _ zm rfl hrd (by omega) ?hb1 ?_)
  case hb1 => simp
  intro v' w2 hown' hgrow
  have bn : Below w1.heap.size w1 w2 := own_below ((Below.refl _ _).alloc (Nat.le_refl _) _) hown hgrow (by simp) (Nat.le_refl _)
  have hown2 : w2.ownsRow w1.heap.size 51 1 v' nm (zm.map (Value.int .u64)) := by simpa using hown'
  obtain ⟨Aown, cown, rfl, own⟩ := mine_own hown2
  clear hown hgrow hown' hown2 hrd
  have b2 := b1.trans (bn.mono b1.size)
  have s2 := bn.size
  have hm := hm.below bn
  have ha := ha.below bn
  have hb := hb.below bn
  clear b1 bn
  have ltown := Lib.hid own.lt
  have newown := Lib.hid own.new
  go_wp2_with fail
  refine (new_even (own.nm tm (by omega) vm.out) hl HE.out).mono ?_
  rintro e w3 ⟨rfl, bn⟩
  have b3 := b2.trans (bn.mono b2.size)
  have s3 := bn.size
  have hm := hm.below bn
  have ha := ha.below bn
  have hb := hb.below bn
  have own := own.below bn
  clear b2 bn
  go_wp2_with fail
  have BS := Lib.hid (Bumped.start own)
  go_loopw [11] (fun i wr => BumpR Aown nm w3 i wr) (fun i _ => nm - (intOf i).toNat)
  case atStart => exact ⟨0, Nat.zero_le _, rfl, BS.out⟩
  case round =>
    clear BS
    obtain ⟨kk, hkk, rfl, hbp⟩ := hrel
    rcases Nat.lt_or_ge kk nm with hlt | hge
    · obtain ⟨g, cur, hA, hg, hc, gr⟩ := hbp.row (by omega)
      obtain ⟨x, hx⟩ := hc kk hlt
      have HST : ∀ y : Int, Bumped Aown nm w3 (wr.setCell ⟨g, kk, none⟩ (.int .u64 y)) := fun y => Bumped.step hA hlt hg hc gr
      have HS := Lib.hid HST
      have hcell := (cell_of_row wr g kk cur _ _ hg).trans hx
      have hfz := frozen_of_row wr g kk cur _ hg
      clear HST hg hc gr hx hbp
      subst hA
      go_wp2
      go_roundw
      case rel => exact ⟨kk + 1, by omega, by go_num, HS.out _⟩
      case measure => simp [intOf]; omega
    · obtain rfl : nm = kk := by omega
      clear hge hkk
      obtain ⟨w4, hw⟩ : ∃ x, x = wr := ⟨_, rfl⟩
      subst hw
      have s4 := hbp.size
      have b4 := hbp.below b3 (by omega) (fun x hx => by have := newown.out x hx; omega)
      clear b3
      have hm := hm0.out.below b4
      have ha := ha0.out.below b4
      have hb := hb0.out.below b4
      clear own hbp
      have hrd := (ha.told.rd).alloc (.cells #[] 51)
      have hown : (w4.alloc (.cells #[] 51)).ownsRow w4.heap.size 51 1 (.slice (some ⟨w4.heap.size, 0, none⟩) 0 0) 0 (([] : List Int).map (Value.int .u64)) := World.ownsRow_lit w4 #[] 0 (Nat.le_refl _) (by unfold maxLen; omega) rfl
      go_wp2_with (at_builtin; refine wpList_cat _ rfl _ _ 23 rfl w4.heap.size 51 .u64 Try.underlying23 info62u _ _ [] rfl hown _ _ _ za rfl hrd (by omega) ?hb4 ?_)
      case hb4 => simp
      intro v' w5 hown' hgrow
      have bn : Below w4.heap.size w4 w5 := own_below ((Below.refl _ _).alloc (Nat.le_refl _) _) hown hgrow (by simp) (Nat.le_refl _)
      have hown2 : w5.ownsRow w4.heap.size 51 1 v' na (za.map (Value.int .u64)) := by simpa using hown'
      obtain ⟨Ax, cx, rfl, x⟩ := mine_own hown2
      clear hown hgrow hown' hown2 hrd
      have b5 := b4.trans (bn.mono b4.size)
      have s5 := bn.size
      have hm := hm.below bn
      have ha := ha.below bn
      have hb := hb.below bn
      clear b4 bn
      have ltx := Lib.hid x.lt
      have newx := Lib.hid x.new
      have hrd := (hb.told.rd).alloc (.cells #[] 51)
      have hown : (w5.alloc (.cells #[] 51)).ownsRow w5.heap.size 51 1 (.slice (some ⟨w5.heap.size, 0, none⟩) 0 0) 0 (([] : List Int).map (Value.int .u64)) := World.ownsRow_lit w5 #[] 0 (Nat.le_refl _) (by unfold maxLen; omega) rfl
      go_wp2_with (at_builtin; refine wpList_cat _ rfl _ _ 23 rfl w5.heap.size 51 .u64 Try.underlying23 info62u _ _ [] rfl hown _ _ _ zb rfl hrd (by omega) ?hb5 ?_)
      case hb5 => simp
      intro v' w6 hown' hgrow
      have bn : Below w5.heap.size w5 w6 := own_below ((Below.refl _ _).alloc (Nat.le_refl _) _) hown hgrow (by simp) (Nat.le_refl _)
      have hown2 : w6.ownsRow w5.heap.size 51 1 v' nb (zb.map (Value.int .u64)) := by simpa using hown'
      obtain ⟨Ay, cy, rfl, y⟩ := mine_own hown2
      clear hown hgrow hown' hown2 hrd
      have b6 := b5.trans (bn.mono b5.size)
      have s6 := bn.size
      have hm := hm.below bn
      have ha := ha.below bn
      have hb := hb.below bn
      have x := x.below bn
      clear b5 bn
      have lty := Lib.hid y.lt
      have newy := Lib.hid y.new
      have G := Lib.hid b6
      clear b6
      go_wp2
      go_ret
      exact ⟨rfl, G.out⟩
set_option maxHeartbeats 8000000 in
set_option maxRecDepth 100000 in
theorem montStays_ok {w : World} {mA : Option Addr} {nm cm : Nat} {zm : List Int} {M : Int} {aA : Option Addr} {na ca : Nat} {za : List Int} {A : Int} {bA : Option Addr} {nb cb : Nat} {zb : List Int} {B : Int} (hm : Ar w mA nm cm zm M) (ha : Ar w aA na ca za A) (hb : Ar w bA nb cb zb B) (lm : nm ≤ 20) (la : na ≤ 20) (lb : nb ≤ 20) (ho : M % 2 = 1) (h3 : 3 ≤ M) :
    Calls Try.prog 8 #[.slice mA nm cm, .slice aA na ca, .slice bA nb cb] w fun e w' => e = .returned (.bool true) ∧ Below w.heap.size w w' := by
  have HO := Lib.hid ho
  clear ho
  have hm0 := Lib.hid hm
  have ha0 := Lib.hid ha
  have hb0 := Lib.hid hb
  have tm := hm.told.dig_
  have ta := ha.told.dig_
  have tb := hb.told.dig_
  have vm := Lib.hid hm.val_
  have va := Lib.hid ha.val_
  have vb := Lib.hid hb.val_
  have hl : dl M ≤ 32 := by have := hm.nm.dl_le; omega
  have da64 : dl A ≤ 64 := by have := ha.nm.dl_le; omega
  have db64 : dl B ≤ 64 := by have := hb.nm.dl_le; omega
  have ttm : decide ((20 : Int) < (nm : Int)) = false := by simp; omega
  have tta : decide ((20 : Int) < (na : Int)) = false := by simp; omega
  have ttb : decide ((20 : Int) < (nb : Int)) = false := by simp; omega
  go_enter Try.func8, Try.ntmps8
  go_wp2_with fail
  refine (up_any _).mono ?_
  rintro e w1 ⟨rfl, b1⟩
  have hm := hm.below b1
  have ha := ha.below b1
  have hb := hb.below b1
  have s1 := b1.size
  have hrd := (hm.told.rd).alloc (.cells #[] 51)
  have hown : (w1.alloc (.cells #[] 51)).ownsRow w1.heap.size 51 1 (.slice (some ⟨w1.heap.size, 0, none⟩) 0 0) 0 (([] : List Int).map (Value.int .u64)) := World.ownsRow_lit w1 #[] 0 (Nat.le_refl _) (by unfold maxLen; omega) rfl
  go_wp2_with (at_builtin; refine wpList_cat _ rfl _ _ 23 rfl w1.heap.size 51 .u64 Try.underlying23 info62u _ _ [] rfl hown _ _ _ zm rfl hrd (by omega) ?hb1 ?_)
  case hb1 => simp
  intro v' w2 hown' hgrow
  have bn : Below w1.heap.size w1 w2 := own_below ((Below.refl _ _).alloc (Nat.le_refl _) _) hown hgrow (by simp) (Nat.le_refl _)
  have hown2 : w2.ownsRow w1.heap.size 51 1 v' nm (zm.map (Value.int .u64)) := by simpa using hown'
  obtain ⟨Aown, cown, rfl, own⟩ := mine_own hown2
  clear hown hgrow hown' hown2 hrd
  have b2 := b1.trans (bn.mono b1.size)
  have s2 := bn.size
  have hm := hm.below bn
  have ha := ha.below bn
  have hb := hb.below bn
  clear b1 bn
  have ltown := Lib.hid own.lt
  have newown := Lib.hid own.new
  go_wp2_with fail
  refine (new_any (own.nm tm (by omega) vm.out) hl HO.out h3).mono ?_
  rintro e w3 ⟨b, MA, mc, low, OB, cB, SS, cS, rfl, md, bn, nb0, nA, nB, nS⟩
  have b3 := b2.trans (bn.mono b2.size)
  have s3 := bn.size
  have hm := hm.below bn
  have ha := ha.below bn
  have hb := hb.below bn
  have own := own.below bn
  clear b2 bn
  have NB := Lib.hid nb0
  have NA := Lib.hid nA
  have NOB := Lib.hid nB
  have NS := Lib.hid nS
  clear nb0 nA nB nS
  go_wp2_with fail
  have BS := Lib.hid (Bumped.start own)
  go_loopw [11] (fun i wr => BumpR Aown nm w3 i wr) (fun i _ => nm - (intOf i).toNat)
  case atStart => exact ⟨0, Nat.zero_le _, rfl, BS.out⟩
  case round =>
    clear BS
    obtain ⟨kk, hkk, rfl, hbp⟩ := hrel
    rcases Nat.lt_or_ge kk nm with hlt | hge
    · obtain ⟨g, cur, hA, hg, hc, gr⟩ := hbp.row (by omega)
      obtain ⟨x, hx⟩ := hc kk hlt
      have HST : ∀ y : Int, Bumped Aown nm w3 (wr.setCell ⟨g, kk, none⟩ (.int .u64 y)) := fun y => Bumped.step hA hlt hg hc gr
      have HS := Lib.hid HST
      have hcell := (cell_of_row wr g kk cur _ _ hg).trans hx
      have hfz := frozen_of_row wr g kk cur _ hg
      clear HST hg hc gr hx hbp
      subst hA
      go_wp2
      go_roundw
      case rel => exact ⟨kk + 1, by omega, by go_num, HS.out _⟩
      case measure => simp [intOf]; omega
    · obtain rfl : nm = kk := by omega
      clear hge hkk
      obtain ⟨w4, hw⟩ : ∃ x, x = wr := ⟨_, rfl⟩
      subst hw
      have s4 := hbp.size
      have b4 := hbp.below b3 (by omega) (fun x hx => by have := newown.out x hx; omega)
      clear b3
      have hm := hm0.out.below b4
      have ha := ha0.out.below b4
      have hb := hb0.out.below b4
      have md := Bumped.md md hbp (fun x hx => by have := ltown.out x hx; have := NB.out; omega) (fun x y hx hy => by have := ltown.out x hx; have := NA.out y hy; omega) (fun x y hx hy => by have := ltown.out x hx; have := NOB.out y hy; omega) (fun x y hx hy => by have := ltown.out x hx; have := NS.out y hy; omega)
      clear own hbp
      have Lb := Lib.hid md.lt
      have LA := Lib.hid (Nm.lt md.lim.nm md.n1)
      have LB := Lib.hid (Nm.lt md.one md.n1)
      have LS := Lib.hid (Nm.lt md.shift md.n1)
      have hrd := (ha.told.rd).alloc (.cells #[] 51)
      have hown : (w4.alloc (.cells #[] 51)).ownsRow w4.heap.size 51 1 (.slice (some ⟨w4.heap.size, 0, none⟩) 0 0) 0 (([] : List Int).map (Value.int .u64)) := World.ownsRow_lit w4 #[] 0 (Nat.le_refl _) (by unfold maxLen; omega) rfl
      go_wp2_with (at_builtin; refine wpList_cat _ rfl _ _ 23 rfl w4.heap.size 51 .u64 Try.underlying23 info62u _ _ [] rfl hown _ _ _ za rfl hrd (by omega) ?hb4 ?_)
      case hb4 => simp
      intro v' w5 hown' hgrow
      have bn : Below w4.heap.size w4 w5 := own_below ((Below.refl _ _).alloc (Nat.le_refl _) _) hown hgrow (by simp) (Nat.le_refl _)
      have hown2 : w5.ownsRow w4.heap.size 51 1 v' na (za.map (Value.int .u64)) := by simpa using hown'
      obtain ⟨Ax, cx, rfl, x⟩ := mine_own hown2
      clear hown hgrow hown' hown2 hrd
      have b5 := b4.trans (bn.mono b4.size)
      have s5 := bn.size
      have hm := hm.below bn
      have ha := ha.below bn
      have hb := hb.below bn
      have md := md.below bn
      clear b4 bn
      have ltx := Lib.hid x.lt
      have newx := Lib.hid x.new
      have hrd := (hb.told.rd).alloc (.cells #[] 51)
      have hown : (w5.alloc (.cells #[] 51)).ownsRow w5.heap.size 51 1 (.slice (some ⟨w5.heap.size, 0, none⟩) 0 0) 0 (([] : List Int).map (Value.int .u64)) := World.ownsRow_lit w5 #[] 0 (Nat.le_refl _) (by unfold maxLen; omega) rfl
      go_wp2_with (at_builtin; refine wpList_cat _ rfl _ _ 23 rfl w5.heap.size 51 .u64 Try.underlying23 info62u _ _ [] rfl hown _ _ _ zb rfl hrd (by omega) ?hb5 ?_)
      case hb5 => simp
      intro v' w6 hown' hgrow
      have bn : Below w5.heap.size w5 w6 := own_below ((Below.refl _ _).alloc (Nat.le_refl _) _) hown hgrow (by simp) (Nat.le_refl _)
      have hown2 : w6.ownsRow w5.heap.size 51 1 v' nb (zb.map (Value.int .u64)) := by simpa using hown'
      obtain ⟨Ay, cy, rfl, y⟩ := mine_own hown2
      clear hown hgrow hown' hown2 hrd
      have b6 := b5.trans (bn.mono b5.size)
      have s6 := bn.size
      have hm := hm.below bn
      have ha := ha.below bn
      have hb := hb.below bn
      have md := md.below bn
      have x := x.below bn
      clear b5 bn
      have lty := Lib.hid y.lt
      have newy := Lib.hid y.new
      go_wp2_with fail
      refine (mmul_any md (x.nm ta (by omega) va.out) (y.nm tb (by omega) vb.out) da64 db64).mono ?_
      rintro e w7 ⟨Bp, np, cp, rfl, p, bn, hnp⟩
      have b7 := b6.trans (bn.mono b6.size)
      have s7 := bn.size
      have hm := hm.below bn
      have ha := ha.below bn
      have hb := hb.below bn
      have md := md.below bn
      have x := x.below bn
      have y := y.below bn
      clear b6 bn
      have Np := Lib.hid hnp
      clear hnp
      go_wp2_with fail
      refine (madd_any md (x.nm ta (by omega) va.out) (y.nm tb (by omega) vb.out) da64 db64).mono ?_
      rintro e w8 ⟨Bs, ns, cs, rfl, s, bn, hns⟩
      have b8 := b7.trans (bn.mono b7.size)
      have s8 := bn.size
      have hm := hm.below bn
      have ha := ha.below bn
      have hb := hb.below bn
      have md := md.below bn
      have x := x.below bn
      have y := y.below bn
      have p := p.below bn
      clear b7 bn
      have Ns := Lib.hid hns
      clear hns
      go_wp2_with fail
      refine (exp_any md (x.nm ta (by omega) va.out) (y.nm tb (by omega) vb.out) da64 db64).mono ?_
      rintro e w9 ⟨Bk, nk, ck, rfl, k, bn, hnk⟩
      have b9 := b8.trans (bn.mono b8.size)
      have s9 := bn.size
      have hm := hm.below bn
      have ha := ha.below bn
      have hb := hb.below bn
      have md := md.below bn
      have x := x.below bn
      have y := y.below bn
      have p := p.below bn
      have s := s.below bn
      clear b8 bn
      have Nk := Lib.hid hnk
      clear hnk
      have Lp := Lib.hid (Nm.lt p.nm)
      have Ls := Lib.hid (Nm.lt s.nm)
      have Lk := Lib.hid (Nm.lt k.nm)
      go_wp2_with fail
      refine (modulus_row md).mono ?_
      rintro e w10 ⟨rfl, mrow, bn⟩
      have b10 := b9.trans (bn.mono b9.size)
      have s10 := bn.size
      have hm := hm.below bn
      have ha := ha.below bn
      have hb := hb.below bn
      have md := md.below bn
      have x := x.below bn
      have y := y.below bn
      have p := p.below bn
      have s := s.below bn
      have k := k.below bn
      clear b9 bn
      have mod := mine_row (base := w9.heap.size) (n := dl M) (c := dl M) mrow rfl (Nat.le_refl _) (Nat.le_refl _)
      have smod : w9.heap.size < w10.heap.size := mrow.lt
      clear mrow
      go_wp2_with fail
      refine (same_mine x.rd ha.told.rd (by omega)).mono ?_
      rintro e w11 ⟨rfl, bn⟩
      have b11 := b10.trans (bn.mono b10.size)
      have s11 := bn.size
      have hm := hm.below bn
      have ha := ha.below bn
      have hb := hb.below bn
      have md := md.below bn
      have x := x.below bn
      have y := y.below bn
      have p := p.below bn
      have s := s.below bn
      have k := k.below bn
      have mod := mod.below bn
      clear b10 bn
      go_wp2_with fail
      refine (same_mine y.rd hb.told.rd (by omega)).mono ?_
      rintro e w12 ⟨rfl, bn⟩
      have b12 := b11.trans (bn.mono b11.size)
      have s12 := bn.size
      clear y
      have hm := hm.below bn
      have ha := ha.below bn
      have hb := hb.below bn
      have md := md.below bn
      have x := x.below bn
      have p := p.below bn
      have s := s.below bn
      have k := k.below bn
      have mod := mod.below bn
      clear b11 bn
      go_wp2_with fail
      refine (mmul_any md ha.nm hb.nm da64 db64).mono ?_
      rintro e w13 ⟨Bq, nq, cq, rfl, q, bn, hnq⟩
      have b13 := b12.trans (bn.mono b12.size)
      have s13 := bn.size
      have hm := hm.below bn
      have ha := ha.below bn
      have hb := hb.below bn
      have md := md.below bn
      have x := x.below bn
      have p := p.below bn
      have s := s.below bn
      have k := k.below bn
      have mod := mod.below bn
      clear b12 bn
      have Nq := Lib.hid hnq
      clear hnq
      go_wp2_with fail
      refine (madd_any md ha.nm hb.nm da64 db64).mono ?_
      rintro e w14 ⟨Bt, nt, ct, rfl, t, bn, hnt⟩
      have b14 := b13.trans (bn.mono b13.size)
      have s14 := bn.size
      have hm := hm.below bn
      have ha := ha.below bn
      have hb := hb.below bn
      have md := md.below bn
      have x := x.below bn
      have p := p.below bn
      have s := s.below bn
      have k := k.below bn
      have mod := mod.below bn
      have q := q.below bn
      clear b13 bn
      have Nt := Lib.hid hnt
      clear hnt
      go_wp2_with fail
      have BS := Lib.hid (Bumped.start x)
      go_loopw [27] (fun i wr => BumpR Ax na w14 i wr) (fun i _ => na - (intOf i).toNat)
      case atStart => exact ⟨0, Nat.zero_le _, rfl, BS.out⟩
      case round =>
        clear BS
        obtain ⟨kk, hkk, rfl, hbp⟩ := hrel
        rcases Nat.lt_or_ge kk na with hlt | hge
        · obtain ⟨g, cur, hA, hg, hc, gr⟩ := hbp.row (by omega)
          obtain ⟨x, hx⟩ := hc kk hlt
          have HST : ∀ y : Int, Bumped Ax na w14 (wr.setCell ⟨g, kk, none⟩ (.int .u64 y)) := fun y => Bumped.step hA hlt hg hc gr
          have HS := Lib.hid HST
          have hcell := (cell_of_row wr g kk cur _ _ hg).trans hx
          have hfz := frozen_of_row wr g kk cur _ hg
          clear HST hg hc gr hx hbp
          subst hA
          go_wp2
          go_roundw
          case rel => exact ⟨kk + 1, by omega, by go_num, HS.out _⟩
          case measure => simp [intOf]; omega
        · obtain rfl : na = kk := by omega
          clear hge hkk
          obtain ⟨w15, hw⟩ : ∃ x, x = wr := ⟨_, rfl⟩
          subst hw
          have s15 := hbp.size
          have b15 := hbp.below b14 (by omega) (fun x hx => by have := newx.out x hx; omega)
          clear b14
          have hm := hm0.out.below b15
          have ha := ha0.out.below b15
          have hb := hb0.out.below b15
          have md := Bumped.md md hbp (fun x hx => by have := newx.out x hx; have := Lb.out; omega) (fun x y hx hy => by have := newx.out x hx; have := LA.out y hy; omega) (fun x y hx hy => by have := newx.out x hx; have := LB.out y hy; omega) (fun x y hx hy => by have := newx.out x hx; have := LS.out y hy; omega)
          have p := hbp.cn p (fun _ x y hx hy => by have := ltx.out x hx; have := Np.out y hy; omega)
          have s := hbp.cn s (fun _ x y hx hy => by have := ltx.out x hx; have := Ns.out y hy; omega)
          have k := hbp.cn k (fun _ x y hx hy => by have := ltx.out x hx; have := Nk.out y hy; omega)
          have q := hbp.cn q (fun _ x y hx hy => by have := ltx.out x hx; have := Nq.out y hy; omega)
          have t := hbp.cn t (fun _ x y hx hy => by have := ltx.out x hx; have := Nt.out y hy; omega)
          have mod := hbp.mine mod (fun x y hx hy => by have := ltx.out x hx; injection hy with hy; subst hy; show w9.heap.size ≠ _; omega)
          clear x hbp
          go_wp2_with fail
          have BS := Lib.hid (Bumped.start mod)
          go_loopw [28] (fun i wr => BumpR (some ⟨w9.heap.size, 0, none⟩) (dl M) w15 i wr) (fun i _ => (dl M) - (intOf i).toNat)
          case atStart => exact ⟨0, Nat.zero_le _, rfl, BS.out⟩
          case round =>
            clear BS
            obtain ⟨kk, hkk, rfl, hbp⟩ := hrel
            rcases Nat.lt_or_ge kk (dl M) with hlt | hge
            · obtain ⟨g, cur, hA, hg, hc, gr⟩ := hbp.row (by omega)
              obtain ⟨x, hx⟩ := hc kk hlt
              have HST : ∀ y : Int, Bumped (some ⟨w9.heap.size, 0, none⟩) (dl M) w15 (wr.setCell ⟨g, kk, none⟩ (.int .u64 y)) := fun y => Bumped.step hA hlt hg hc gr
              have HS := Lib.hid HST
              have hcell := (cell_of_row wr g kk cur _ _ hg).trans hx
              have hfz := frozen_of_row wr g kk cur _ hg
              clear HST hg hc gr hx hbp
              injection hA with hA
              injection hA with hA _
              subst hA
              go_wp2
              go_roundw
              case rel => exact ⟨kk + 1, by omega, by go_num, HS.out _⟩
              case measure => simp [intOf]; omega
            · obtain rfl : kk = (dl M) := by omega
              clear hge hkk
              obtain ⟨w16, hw⟩ : ∃ x, x = wr := ⟨_, rfl⟩
              subst hw
              have s16 := hbp.size
              have b16 := hbp.below b15 (by omega) (fun x hx => by injection hx with hx; subst hx; show w.heap.size ≤ w9.heap.size; omega)
              clear b15
              have hm := hm0.out.below b16
              have ha := ha0.out.below b16
              have hb := hb0.out.below b16
              have md := Bumped.md md hbp (fun x hx => by injection hx with hx; subst hx; have := Lb.out; show b ≠ w9.heap.size; omega) (fun x y hx hy => by injection hx with hx; subst hx; have := LA.out y hy; show _ ≠ w9.heap.size; omega) (fun x y hx hy => by injection hx with hx; subst hx; have := LB.out y hy; show _ ≠ w9.heap.size; omega) (fun x y hx hy => by injection hx with hx; subst hx; have := LS.out y hy; show _ ≠ w9.heap.size; omega)
              have p := hbp.cn p (fun hp x y hx hy => by injection hx with hx; subst hx; have := Lp.out hp y hy; show _ ≠ w9.heap.size; omega)
              have s := hbp.cn s (fun hp x y hx hy => by injection hx with hx; subst hx; have := Ls.out hp y hy; show _ ≠ w9.heap.size; omega)
              have k := hbp.cn k (fun hp x y hx hy => by injection hx with hx; subst hx; have := Lk.out hp y hy; show _ ≠ w9.heap.size; omega)
              have q := hbp.cn q (fun hp x y hx hy => by injection hx with hx; subst hx; have := Nq.out y hy; show _ ≠ w9.heap.size; omega)
              have t := hbp.cn t (fun hp x y hx hy => by injection hx with hx; subst hx; have := Nt.out y hy; show _ ≠ w9.heap.size; omega)
              clear mod hbp
              go_wp2_with fail
              refine (same_cn p q).mono ?_
              rintro e w17 ⟨rfl, bn⟩
              have b17 := b16.trans (bn.mono b16.size)
              have s17 := bn.size
              clear p
              clear q
              have hm := hm.below bn
              have ha := ha.below bn
              have hb := hb.below bn
              have md := md.below bn
              have s := s.below bn
              have k := k.below bn
              have t := t.below bn
              clear b16 bn
              go_wp2_with fail
              refine (same_cn s t).mono ?_
              rintro e w18 ⟨rfl, bn⟩
              have b18 := b17.trans (bn.mono b17.size)
              have s18 := bn.size
              clear s
              clear t
              have hm := hm.below bn
              have ha := ha.below bn
              have hb := hb.below bn
              have md := md.below bn
              have k := k.below bn
              clear b17 bn
              go_wp2_with fail
              refine (exp_any md ha.nm hb.nm da64 db64).mono ?_
              rintro e w19 ⟨Bl, nl, cl, rfl, l, bn, hnl⟩
              have b19 := b18.trans (bn.mono b18.size)
              have s19 := bn.size
              have hm := hm.below bn
              have ha := ha.below bn
              have hb := hb.below bn
              have md := md.below bn
              have k := k.below bn
              clear b18 bn
              have Nl := Lib.hid hnl
              clear hnl
              go_wp2_with fail
              refine (same_cn k l).mono ?_
              rintro e w20 ⟨rfl, bn⟩
              have b20 := b19.trans (bn.mono b19.size)
              have s20 := bn.size
              clear k
              clear l
              have hm := hm.below bn
              have ha := ha.below bn
              have hb := hb.below bn
              have md := md.below bn
              clear b19 bn
              go_wp2_with fail
              refine (modulus_any md).mono ?_
              rintro e w21 ⟨Bo, no, co, rfl, mo, bn, -⟩
              have b21 := b20.trans (bn.mono b20.size)
              have s21 := bn.size
              clear md
              have hm := hm.below bn
              have ha := ha.below bn
              have hb := hb.below bn
              clear b20 bn
              go_wp2_with fail
              refine (norm_any hm.nm).mono ?_
              rintro e w22 ⟨Br, nr, cr, rfl, mr, bn, -⟩
              have b22 := b21.trans (bn.mono b21.size)
              have s22 := bn.size
              have hm := hm.below bn
              have ha := ha.below bn
              have hb := hb.below bn
              have mo := mo.below bn
              clear b21 bn
              go_wp2_with fail
              refine (same_cn mo mr).mono ?_
              rintro e w23 ⟨rfl, bn⟩
              have b23 := b22.trans (bn.mono b22.size)
              have s23 := bn.size
              clear mo
              clear mr
              have hm := hm.below bn
              have ha := ha.below bn
              have hb := hb.below bn
              clear b22 bn
              have zz : ((na : Int) == (na : Int)) = true := by simp
              have G := Lib.hid b23
              clear b23
              go_wp2
              go_ret
              exact ⟨rfl, G.out⟩
theorem montStays_walk {w : World} {mA : Option Addr} {nm cm : Nat} {zm : List Int} {aA : Option Addr} {na ca : Nat} {za : List Int} {bA : Option Addr} {nb cb : Nat} {zb : List Int} (tm : Told w mA nm cm zm) (ta : Told w aA na ca za) (tb : Told w bA nb cb zb) :
    Calls Try.prog 8 #[.slice mA nm cm, .slice aA na ca, .slice bA nb cb] w fun e w' => e = .returned (.bool true) ∧ Below w.heap.size w w' := by
  have hm : Ar w mA nm cm zm (val W zm) := ⟨tm, rfl⟩
  have ha : Ar w aA na ca za (val W za) := ⟨ta, rfl⟩
  have hb : Ar w bA nb cb zb (val W zb) := ⟨tb, rfl⟩
  rcases Nat.lt_or_ge 20 nm with lm | lm
  · exact montStays_over0 hm ha hb  lm
  rcases Nat.lt_or_ge 20 na with la | la
  · exact montStays_over1 hm ha hb  lm la
  rcases Nat.lt_or_ge 20 nb with lb | lb
  · exact montStays_over2 hm ha hb  lm la lb
  by_cases he : val W zm % 2 = 0 ∨ val W zm < 3
  · exact montStays_even hm ha hb  lm la lb he
  exact montStays_ok hm ha hb  lm la lb (by omega) (by omega)
end Go.Proofs.Ytelhkmgbpcojiaa
