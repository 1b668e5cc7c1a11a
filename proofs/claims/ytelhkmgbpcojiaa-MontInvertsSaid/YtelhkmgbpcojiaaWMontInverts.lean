/-
  The walk of MontInverts: what makes 1 of a number, modulo any number, or that there is none.
-/
import Derived.Test.YtelhkmgbpcojiaaMade
import Derived.Test.YtelhkmgbpcojiaaRExp
namespace Go.Proofs.Ytelhkmgbpcojiaa
open Go.RowKit
set_option linter.unusedVariables false
set_option maxHeartbeats 8000000 in
set_option maxRecDepth 100000 in
theorem montInverts_over0 {w : World} {mA : Option Addr} {nm cm : Nat} {zm : List Int} {M : Int} {aA : Option Addr} {na ca : Nat} {za : List Int} {A : Int} (hm : Ar w mA nm cm zm M) (ha : Ar w aA na ca za A)  (lm : 300 < nm) :
    Calls Try.prog 5 #[.slice mA nm cm, .slice aA na ca] w fun e w' => e = .returned (.bool true) ∧ Below w.heap.size w w' := by
  have dm := hm.told.c60
  have da := ha.told.c60
  go_enter Try.func5, Try.ntmps5
  go_wp2_with fail
  refine (up_any _).mono ?_
  rintro e w1 ⟨rfl, b1⟩
  have G := Lib.hid b1
  clear b1
  go_wp2
  go_ret
  exact ⟨rfl, G.out⟩
set_option maxHeartbeats 8000000 in
set_option maxRecDepth 100000 in
theorem montInverts_over1 {w : World} {mA : Option Addr} {nm cm : Nat} {zm : List Int} {M : Int} {aA : Option Addr} {na ca : Nat} {za : List Int} {A : Int} (hm : Ar w mA nm cm zm M) (ha : Ar w aA na ca za A) (lm : nm ≤ 300) (la : 300 < na) :
    Calls Try.prog 5 #[.slice mA nm cm, .slice aA na ca] w fun e w' => e = .returned (.bool true) ∧ Below w.heap.size w w' := by
  have dm := hm.told.c60
  have da := ha.told.c60
  go_enter Try.func5, Try.ntmps5
  go_wp2_with fail
  refine (up_any _).mono ?_
  rintro e w1 ⟨rfl, b1⟩
  have G := Lib.hid b1
  clear b1
  go_wp2
  go_ret
  exact ⟨rfl, G.out⟩
set_option maxHeartbeats 8000000 in
set_option maxRecDepth 100000 in
theorem montInverts_long {w : World} {mA : Option Addr} {nm cm : Nat} {zm : List Int} {M : Int} {aA : Option Addr} {na ca : Nat} {za : List Int} {A : Int} (hm : Ar w mA nm cm zm M) (ha : Ar w aA na ca za A) (lm : nm ≤ 300) (la : na ≤ 300) (hl : 32 < dl M) :
    Calls Try.prog 5 #[.slice mA nm cm, .slice aA na ca] w fun e w' => e = .returned (.bool true) ∧ Below w.heap.size w w' := by
  go_enter Try.func5, Try.ntmps5
  go_wp2_with fail
  refine (up_any _).mono ?_
  rintro e w1 ⟨rfl, b1⟩
  have hm := hm.below b1
  go_wp2_with fail
  refine (made_long hm (by omega) hl).mono ?_
  rintro e w2 ⟨rfl, bn⟩
  have b2 := b1.trans (bn.mono b1.size)
  have hm := hm.below bn
  clear b1 bn
  have G := Lib.hid b2
  clear b2
  go_wp2
  go_ret
  exact ⟨rfl, G.out⟩
set_option maxHeartbeats 8000000 in
set_option maxRecDepth 100000 in
theorem montInverts_even {w : World} {mA : Option Addr} {nm cm : Nat} {zm : List Int} {M : Int} {aA : Option Addr} {na ca : Nat} {za : List Int} {A : Int} (hm : Ar w mA nm cm zm M) (ha : Ar w aA na ca za A) (lm : nm ≤ 300) (la : na ≤ 300) (hl : dl M ≤ 32) (he : M % 2 = 0 ∨ M < 3) :
    Calls Try.prog 5 #[.slice mA nm cm, .slice aA na ca] w fun e w' => e = .returned (.bool true) ∧ Below w.heap.size w w' := by
  have HE := Lib.hid he
  clear he
  go_enter Try.func5, Try.ntmps5
  go_wp2_with fail
  refine (up_any _).mono ?_
  rintro e w1 ⟨rfl, b1⟩
  have hm := hm.below b1
  go_wp2_with fail
  refine (made_even hm (by omega) hl HE.out).mono ?_
  rintro e w2 ⟨rfl, bn⟩
  have b2 := b1.trans (bn.mono b1.size)
  have hm := hm.below bn
  clear b1 bn
  have G := Lib.hid b2
  clear b2
  go_wp2
  go_ret
  exact ⟨rfl, G.out⟩
theorem of_cn {A : Option Addr} {n c : Nat} {N : Int} {w : World} (h : Cn w A n c N) (hn : n ≤ 1000) : Calls Try.prog 18 #[.slice A n c] w (AnsN N w) := by
  have := of_any A n c (dg W N) w h.rd (dig_dg W_two h.pos) hn
  rw [val_dg W_two h.pos] at this
  exact this
theorem inv_p {M A U : Int} (hM : 3 ≤ M) (h : Eqm M (A * U) 1) : U * A % M = 1 := by
  rw [Int.mul_comm, h.emod, Int.emod_eq_of_lt (by omega) (by omega)]
theorem dr_1 : dr 1 = 1 := (dr_one (by decide)).2 (by decide)
theorem rn_head {w : World} {A : Option Addr} {n c : Nat} {N : Int} (h : Rn w A n c N) (h0 : 0 < N) : ∃ b off, A = some ⟨b, off, none⟩ ∧ b < w.heap.size ∧ w.cell? ⟨b, off, none⟩ = some (.int .i64 (N % 65536)) := by
  obtain ⟨e1, e2⟩ := dgD_head h0
  have hr := h.rd
  obtain rfl := h.len_
  obtain ⟨bb, oo, x, rfl, hbb, hx, hcell⟩ := hr.at_ (j := 0) e2
  have hxe := dig_lt hx
  rw [e1] at hxe
  rw [Nat.add_zero, ← hxe] at hcell
  exact ⟨bb, oo, rfl, hbb, hcell⟩
set_option maxHeartbeats 8000000 in
set_option maxRecDepth 100000 in
theorem montInverts_la {w : World} {mA : Option Addr} {nm cm : Nat} {zm : List Int} {M : Int} {aA : Option Addr} {na ca : Nat} {za : List Int} {A : Int} (hm : Ar w mA nm cm zm M) (ha : Ar w aA na ca za A) (lm : nm ≤ 300) (la : na ≤ 300) (hl : dl M ≤ 32) (ho : M % 2 = 1) (h3 : 3 ≤ M) (g : 64 < dl A) :
    Calls Try.prog 5 #[.slice mA nm cm, .slice aA na ca] w fun e w' => e = .returned (.bool true) ∧ Below w.heap.size w w' := by
  have HO := Lib.hid ho
  clear ho
  have q1 := eql_code 2 2
  go_enter Try.func5, Try.ntmps5
  go_wp2_with fail
  refine (up_any _).mono ?_
  rintro e w1 ⟨rfl, b1⟩
  have hm := hm.below b1
  have ha := ha.below b1
  go_wp2_with fail
  refine (made_any hm (by omega) hl HO.out h3).mono ?_
  rintro e w2 ⟨b, MA, mc, low, OB, cB, SS, cS, rfl, md, bn⟩
  have b2 := b1.trans (bn.mono b1.size)
  have hm := hm.below bn
  have ha := ha.below bn
  clear b1 bn
  go_wp2_with fail
  refine (inverse_long md ha.nm g).mono ?_
  rintro e w3 ⟨rfl, bn⟩
  have b3 := b2.trans (bn.mono b2.size)
  have hm := hm.below bn
  have ha := ha.below bn
  have md := md.below bn
  clear b2 bn
  go_wp2_with fail
  refine (long_yes ha.nm g).mono ?_
  rintro e w4 ⟨rfl, rfl⟩
  have b4 := b3
  clear b3
  have G := Lib.hid b4
  clear b4
  go_wp2
  go_ret
  exact ⟨rfl, G.out⟩
set_option maxHeartbeats 8000000 in
set_option maxRecDepth 100000 in
theorem montInverts_few0no {w : World} {mA : Option Addr} {nm cm : Nat} {zm : List Int} {M : Int} {aA : Option Addr} {na ca : Nat} {za : List Int} {A : Int} (hm : Ar w mA nm cm zm M) (ha : Ar w aA na ca za A) (lm : nm ≤ 300) (la : na ≤ 300) (hl : dl M ≤ 32) (ho : M % 2 = 1) (h3 : 3 ≤ M) (ga : dl A ≤ 64) (hg : Int.gcd M (A % M) ≠ 1)  (sm : 8 < dl M) :
    Calls Try.prog 5 #[.slice mA nm cm, .slice aA na ca] w fun e w' => e = .returned (.bool true) ∧ Below w.heap.size w w' := by
  have HO := Lib.hid ho
  have HG := Lib.hid hg
  clear ho hg
  have t0 : decide ((8 : Int) < (dl M : Int)) = true := by simp; omega
  go_enter Try.func5, Try.ntmps5
  go_wp2_with fail
  refine (up_any _).mono ?_
  rintro e w1 ⟨rfl, b1⟩
  have hm := hm.below b1
  have ha := ha.below b1
  go_wp2_with fail
  refine (made_any hm (by omega) hl HO.out h3).mono ?_
  rintro e w2 ⟨b, MA, mc, low, OB, cB, SS, cS, rfl, md, bn⟩
  have b2 := b1.trans (bn.mono b1.size)
  have hm := hm.below bn
  have ha := ha.below bn
  clear b1 bn
  go_wp2_with fail
  refine (inverse_none md ha.nm ga HG.out).mono ?_
  rintro e w3 ⟨rfl, bn⟩
  have b3 := b2.trans (bn.mono b2.size)
  have hm := hm.below bn
  have ha := ha.below bn
  have md := md.below bn
  clear b2 bn
  go_wp2_with fail
  refine (long_no ha.nm ga).mono ?_
  rintro e w4 ⟨rfl, rfl⟩
  have b4 := b3
  clear b3
  go_wp2_with fail
  refine (Limbs_nm hm.nm).mono ?_
  rintro e w5 ⟨rfl, rfl⟩
  have b5 := b4
  clear b4
  have G := Lib.hid b5
  clear b5
  go_wp2
  go_ret
  exact ⟨rfl, G.out⟩
set_option maxHeartbeats 8000000 in
set_option maxRecDepth 100000 in
theorem montInverts_few1no {w : World} {mA : Option Addr} {nm cm : Nat} {zm : List Int} {M : Int} {aA : Option Addr} {na ca : Nat} {za : List Int} {A : Int} (hm : Ar w mA nm cm zm M) (ha : Ar w aA na ca za A) (lm : nm ≤ 300) (la : na ≤ 300) (hl : dl M ≤ 32) (ho : M % 2 = 1) (h3 : 3 ≤ M) (ga : dl A ≤ 64) (hg : Int.gcd M (A % M) ≠ 1) (sm : dl M ≤ 8) (sa : 16 < dl A) :
    Calls Try.prog 5 #[.slice mA nm cm, .slice aA na ca] w fun e w' => e = .returned (.bool true) ∧ Below w.heap.size w w' := by
  have HO := Lib.hid ho
  have HG := Lib.hid hg
  clear ho hg
  have t0 : decide ((8 : Int) < (dl M : Int)) = false := by simp; omega
  have t1 : decide ((16 : Int) < (dl A : Int)) = true := by simp; omega
  go_enter Try.func5, Try.ntmps5
  go_wp2_with fail
  refine (up_any _).mono ?_
  rintro e w1 ⟨rfl, b1⟩
  have hm := hm.below b1
  have ha := ha.below b1
  go_wp2_with fail
  refine (made_any hm (by omega) hl HO.out h3).mono ?_
  rintro e w2 ⟨b, MA, mc, low, OB, cB, SS, cS, rfl, md, bn⟩
  have b2 := b1.trans (bn.mono b1.size)
  have hm := hm.below bn
  have ha := ha.below bn
  clear b1 bn
  go_wp2_with fail
  refine (inverse_none md ha.nm ga HG.out).mono ?_
  rintro e w3 ⟨rfl, bn⟩
  have b3 := b2.trans (bn.mono b2.size)
  have hm := hm.below bn
  have ha := ha.below bn
  have md := md.below bn
  clear b2 bn
  go_wp2_with fail
  refine (long_no ha.nm ga).mono ?_
  rintro e w4 ⟨rfl, rfl⟩
  have b4 := b3
  clear b3
  go_wp2_with fail
  refine (Limbs_nm hm.nm).mono ?_
  rintro e w5 ⟨rfl, rfl⟩
  have b5 := b4
  clear b4
  go_wp2_with fail
  refine (Limbs_nm ha.nm).mono ?_
  rintro e w6 ⟨rfl, rfl⟩
  have b6 := b5
  clear b5
  have G := Lib.hid b6
  clear b6
  go_wp2
  go_ret
  exact ⟨rfl, G.out⟩
set_option maxHeartbeats 8000000 in
set_option maxRecDepth 100000 in
theorem montInverts_no {w : World} {mA : Option Addr} {nm cm : Nat} {zm : List Int} {M : Int} {aA : Option Addr} {na ca : Nat} {za : List Int} {A : Int} (hm : Ar w mA nm cm zm M) (ha : Ar w aA na ca za A) (lm : nm ≤ 300) (la : na ≤ 300) (hl : dl M ≤ 32) (ho : M % 2 = 1) (h3 : 3 ≤ M) (hg : Int.gcd M (A % M) ≠ 1) (sm : dl M ≤ 8) (sa : dl A ≤ 16) :
    Calls Try.prog 5 #[.slice mA nm cm, .slice aA na ca] w fun e w' => e = .returned (.bool true) ∧ Below w.heap.size w w' := by
  have HO := Lib.hid ho
  have HG := Lib.hid hg
  clear ho hg
  have ga : dl A ≤ 64 := by omega
  have ha0 := ha.nm.pos
  have q6 := eql_code 6 6
  have t0 : decide ((8 : Int) < (dl M : Int)) = false := by simp; omega
  have rm := dr_le hm.nm.pos sm
  have t1 : decide ((16 : Int) < (dl A : Int)) = false := by simp; omega
  have ra := dr_le ha.nm.pos sa
  go_enter Try.func5, Try.ntmps5
  go_wp2_with fail
  refine (up_any _).mono ?_
  rintro e w1 ⟨rfl, b1⟩
  have hm := hm.below b1
  have ha := ha.below b1
  go_wp2_with fail
  refine (made_any hm (by omega) hl HO.out h3).mono ?_
  rintro e w2 ⟨b, MA, mc, low, OB, cB, SS, cS, rfl, md, bn⟩
  have b2 := b1.trans (bn.mono b1.size)
  have hm := hm.below bn
  have ha := ha.below bn
  clear b1 bn
  go_wp2_with fail
  refine (inverse_none md ha.nm ga HG.out).mono ?_
  rintro e w3 ⟨rfl, bn⟩
  have b3 := b2.trans (bn.mono b2.size)
  have hm := hm.below bn
  have ha := ha.below bn
  have md := md.below bn
  clear b2 bn
  go_wp2_with fail
  refine (long_no ha.nm ga).mono ?_
  rintro e w4 ⟨rfl, rfl⟩
  have b4 := b3
  clear b3
  go_wp2_with fail
  refine (Limbs_nm hm.nm).mono ?_
  rintro e w5 ⟨rfl, rfl⟩
  have b5 := b4
  clear b4
  go_wp2_with fail
  refine (Limbs_nm ha.nm).mono ?_
  rintro e w6 ⟨rfl, rfl⟩
  have b6 := b5
  clear b5
  go_wp2_with fail
  refine (of_ar hm (by omega)).mono ?_
  rintro e w7 ⟨Bm, nm2, cm2, rfl, om, bn⟩
  have b7 := b6.trans (bn.mono b6.size)
  clear hm
  have ha := ha.below bn
  have md := md.below bn
  clear b6 bn
  go_wp2_with fail
  refine (of_ar ha (by omega)).mono ?_
  rintro e w8 ⟨Ba, na2, ca2, rfl, oa, bn⟩
  have b8 := b7.trans (bn.mono b7.size)
  have ha := ha.below bn
  have md := md.below bn
  have om := om.below bn
  clear b7 bn
  go_wp2_with fail
  refine (rrest_any oa om (by have := oa.len_; omega) (by have := om.len_; omega) (by omega)).mono ?_
  rintro e w9 ⟨Br, nr, cr, rfl, orr, bn⟩
  have b9 := b8.trans (bn.mono b8.size)
  clear oa
  have ha := ha.below bn
  have md := md.below bn
  have om := om.below bn
  clear b8 bn
  have dR := dr_rest (N := A) (show 0 < M by omega)
  go_wp2_with fail
  refine (rgcd_any om orr (by have := om.len_; omega) (by have := orr.len_; omega)).mono ?_
  rintro e w10 ⟨Bg, ng, cg, rfl, og, bn⟩
  have b10 := b9.trans (bn.mono b9.size)
  clear orr
  have ha := ha.below bn
  have md := md.below bn
  have om := om.below bn
  clear b9 bn
  have hgp : 0 < (Int.gcd M (A % M) : Int) := by have h0 := Int.gcd_pos_of_ne_zero_left (A % M) (show M ≠ 0 by omega); omega
  obtain ⟨bg, fg, rfl, hbg, hcg⟩ := rn_head og hgp
  have hlen := og.len_
  by_cases h1 : ng = 1
  · have z0 : ((ng : Int) != 1) = false := by simp; omega
    have z0' : (ng != 1) = false := by simp; omega
    have hlt := (dr_one hgp).1 (by omega)
    obtain ⟨y, hy⟩ : ∃ y : Int, y = (Int.gcd M (A % M) : Int) % 65536 := ⟨_, rfl⟩
    rw [← hy] at hcg
    have z1 : ((y : Int) != 1) = true := by have := HG.out; simp; omega
    clear hy hlt hgp og hlen z0 z0'
    subst h1
    have G := Lib.hid b10
    clear b10
    go_wp2
    go_ret
    exact ⟨rfl, G.out⟩
  · have z0 : ((ng : Int) != 1) = true := by simp; omega
    have z0' : (ng != 1) = true := by simp; omega
    clear hlen h1 hgp og hcg
    have G := Lib.hid b10
    clear b10
    go_wp2
    go_ret
    exact ⟨rfl, G.out⟩
set_option maxHeartbeats 8000000 in
set_option maxRecDepth 100000 in
theorem montInverts_few0yes {w : World} {mA : Option Addr} {nm cm : Nat} {zm : List Int} {M : Int} {aA : Option Addr} {na ca : Nat} {za : List Int} {A : Int} (hm : Ar w mA nm cm zm M) (ha : Ar w aA na ca za A) (lm : nm ≤ 300) (la : na ≤ 300) (hl : dl M ≤ 32) (ho : M % 2 = 1) (h3 : 3 ≤ M) (ga : dl A ≤ 64) (hg : Int.gcd M (A % M) = 1)  (sm : 8 < dl M) :
    Calls Try.prog 5 #[.slice mA nm cm, .slice aA na ca] w fun e w' => e = .returned (.bool true) ∧ Below w.heap.size w w' := by
  have HO := Lib.hid ho
  have HG := Lib.hid hg
  clear ho hg
  have t0 : decide ((8 : Int) < (dl M : Int)) = true := by simp; omega
  go_enter Try.func5, Try.ntmps5
  go_wp2_with fail
  refine (up_any _).mono ?_
  rintro e w1 ⟨rfl, b1⟩
  have hm := hm.below b1
  have ha := ha.below b1
  go_wp2_with fail
  refine (made_any hm (by omega) hl HO.out h3).mono ?_
  rintro e w2 ⟨b, MA, mc, low, OB, cB, SS, cS, rfl, md, bn⟩
  have b2 := b1.trans (bn.mono b1.size)
  have hm := hm.below bn
  have ha := ha.below bn
  clear b1 bn
  go_wp2_with fail
  refine (inverse_any md ha.nm ga HG.out).mono ?_
  rintro e w3 ⟨U, u0, u1, hu, Bx, nx, cx, rfl, x, bn, -⟩
  have b3 := b2.trans (bn.mono b2.size)
  have hm := hm.below bn
  have ha := ha.below bn
  have md := md.below bn
  clear b2 bn
  have HU := Lib.hid hu
  clear hu
  go_wp2_with fail
  refine (long_no ha.nm ga).mono ?_
  rintro e w4 ⟨rfl, rfl⟩
  have b4 := b3
  clear b3
  go_wp2_with fail
  refine (Limbs_nm hm.nm).mono ?_
  rintro e w5 ⟨rfl, rfl⟩
  have b5 := b4
  clear b4
  have G := Lib.hid b5
  clear b5
  go_wp2
  go_ret
  exact ⟨rfl, G.out⟩
set_option maxHeartbeats 8000000 in
set_option maxRecDepth 100000 in
theorem montInverts_few1yes {w : World} {mA : Option Addr} {nm cm : Nat} {zm : List Int} {M : Int} {aA : Option Addr} {na ca : Nat} {za : List Int} {A : Int} (hm : Ar w mA nm cm zm M) (ha : Ar w aA na ca za A) (lm : nm ≤ 300) (la : na ≤ 300) (hl : dl M ≤ 32) (ho : M % 2 = 1) (h3 : 3 ≤ M) (ga : dl A ≤ 64) (hg : Int.gcd M (A % M) = 1) (sm : dl M ≤ 8) (sa : 16 < dl A) :
    Calls Try.prog 5 #[.slice mA nm cm, .slice aA na ca] w fun e w' => e = .returned (.bool true) ∧ Below w.heap.size w w' := by
  have HO := Lib.hid ho
  have HG := Lib.hid hg
  clear ho hg
  have t0 : decide ((8 : Int) < (dl M : Int)) = false := by simp; omega
  have t1 : decide ((16 : Int) < (dl A : Int)) = true := by simp; omega
  go_enter Try.func5, Try.ntmps5
  go_wp2_with fail
  refine (up_any _).mono ?_
  rintro e w1 ⟨rfl, b1⟩
  have hm := hm.below b1
  have ha := ha.below b1
  go_wp2_with fail
  refine (made_any hm (by omega) hl HO.out h3).mono ?_
  rintro e w2 ⟨b, MA, mc, low, OB, cB, SS, cS, rfl, md, bn⟩
  have b2 := b1.trans (bn.mono b1.size)
  have hm := hm.below bn
  have ha := ha.below bn
  clear b1 bn
  go_wp2_with fail
  refine (inverse_any md ha.nm ga HG.out).mono ?_
  rintro e w3 ⟨U, u0, u1, hu, Bx, nx, cx, rfl, x, bn, -⟩
  have b3 := b2.trans (bn.mono b2.size)
  have hm := hm.below bn
  have ha := ha.below bn
  have md := md.below bn
  clear b2 bn
  have HU := Lib.hid hu
  clear hu
  go_wp2_with fail
  refine (long_no ha.nm ga).mono ?_
  rintro e w4 ⟨rfl, rfl⟩
  have b4 := b3
  clear b3
  go_wp2_with fail
  refine (Limbs_nm hm.nm).mono ?_
  rintro e w5 ⟨rfl, rfl⟩
  have b5 := b4
  clear b4
  go_wp2_with fail
  refine (Limbs_nm ha.nm).mono ?_
  rintro e w6 ⟨rfl, rfl⟩
  have b6 := b5
  clear b5
  have G := Lib.hid b6
  clear b6
  go_wp2
  go_ret
  exact ⟨rfl, G.out⟩
set_option maxHeartbeats 8000000 in
set_option maxRecDepth 100000 in
theorem montInverts_yes {w : World} {mA : Option Addr} {nm cm : Nat} {zm : List Int} {M : Int} {aA : Option Addr} {na ca : Nat} {za : List Int} {A : Int} (hm : Ar w mA nm cm zm M) (ha : Ar w aA na ca za A) (lm : nm ≤ 300) (la : na ≤ 300) (hl : dl M ≤ 32) (ho : M % 2 = 1) (h3 : 3 ≤ M) (hg : Int.gcd M (A % M) = 1) (sm : dl M ≤ 8) (sa : dl A ≤ 16) :
    Calls Try.prog 5 #[.slice mA nm cm, .slice aA na ca] w fun e w' => e = .returned (.bool true) ∧ Below w.heap.size w w' := by
  have HO := Lib.hid ho
  have HG := Lib.hid hg
  clear ho hg
  have ga : dl A ≤ 64 := by omega
  have ha0 := ha.nm.pos
  have q6 := eql_code 6 6
  have t0 : decide ((8 : Int) < (dl M : Int)) = false := by simp; omega
  have rm := dr_le hm.nm.pos sm
  have t1 : decide ((16 : Int) < (dl A : Int)) = false := by simp; omega
  have ra := dr_le ha.nm.pos sa
  go_enter Try.func5, Try.ntmps5
  go_wp2_with fail
  refine (up_any _).mono ?_
  rintro e w1 ⟨rfl, b1⟩
  have hm := hm.below b1
  have ha := ha.below b1
  go_wp2_with fail
  refine (made_any hm (by omega) hl HO.out h3).mono ?_
  rintro e w2 ⟨b, MA, mc, low, OB, cB, SS, cS, rfl, md, bn⟩
  have b2 := b1.trans (bn.mono b1.size)
  have hm := hm.below bn
  have ha := ha.below bn
  clear b1 bn
  go_wp2_with fail
  refine (inverse_any md ha.nm ga HG.out).mono ?_
  rintro e w3 ⟨U, u0, u1, hu, Bx, nx, cx, rfl, x, bn, -⟩
  have b3 := b2.trans (bn.mono b2.size)
  have hm := hm.below bn
  have ha := ha.below bn
  have md := md.below bn
  clear b2 bn
  have HU := Lib.hid hu
  clear hu
  go_wp2_with fail
  refine (long_no ha.nm ga).mono ?_
  rintro e w4 ⟨rfl, rfl⟩
  have b4 := b3
  clear b3
  go_wp2_with fail
  refine (Limbs_nm hm.nm).mono ?_
  rintro e w5 ⟨rfl, rfl⟩
  have b5 := b4
  clear b4
  go_wp2_with fail
  refine (Limbs_nm ha.nm).mono ?_
  rintro e w6 ⟨rfl, rfl⟩
  have b6 := b5
  clear b5
  go_wp2_with fail
  refine (of_ar hm (by omega)).mono ?_
  rintro e w7 ⟨Bm, nm2, cm2, rfl, om, bn⟩
  have b7 := b6.trans (bn.mono b6.size)
  clear hm
  have ha := ha.below bn
  have md := md.below bn
  have x := x.below bn
  clear b6 bn
  go_wp2_with fail
  refine (of_ar ha (by omega)).mono ?_
  rintro e w8 ⟨Ba, na2, ca2, rfl, oa, bn⟩
  have b8 := b7.trans (bn.mono b7.size)
  have ha := ha.below bn
  have md := md.below bn
  have x := x.below bn
  have om := om.below bn
  clear b7 bn
  go_wp2_with fail
  refine (rrest_any oa om (by have := oa.len_; omega) (by have := om.len_; omega) (by omega)).mono ?_
  rintro e w9 ⟨Br, nr, cr, rfl, orr, bn⟩
  have b9 := b8.trans (bn.mono b8.size)
  clear oa
  have ha := ha.below bn
  have md := md.below bn
  have x := x.below bn
  have om := om.below bn
  clear b8 bn
  have dR := dr_rest (N := A) (show 0 < M by omega)
  go_wp2_with fail
  refine (rgcd_any om orr (by have := om.len_; omega) (by have := orr.len_; omega)).mono ?_
  rintro e w10 ⟨Bg, ng, cg, rfl, og, bn⟩
  have b10 := b9.trans (bn.mono b9.size)
  clear orr
  have ha := ha.below bn
  have md := md.below bn
  have x := x.below bn
  have om := om.below bn
  clear b9 bn
  have og1 : Rn w10 Bg ng cg 1 := by have := og; rw [HG.out] at this; exact this
  obtain ⟨bg, fg, rfl, hbg, hcg⟩ := rn_head og1 (by decide)
  obtain rfl : ng = 1 := by rw [og1.len_]; exact dr_1
  clear og og1
  have dx : dl U ≤ 64 := by have := dl_mono x.pos (show U ≤ M by omega); omega
  have rx := dr_le (k := 8) x.pos (by have := dl_mono x.pos (show U ≤ M by omega); omega)
  go_wp2_with fail
  refine (of_cn x (by have := x.len_; omega)).mono ?_
  rintro e w11 ⟨Bu, nu, cu, rfl, ou, bn⟩
  have b11 := b10.trans (bn.mono b10.size)
  have ha := ha.below bn
  have md := md.below bn
  have x := x.below bn
  have om := om.below bn
  clear b10 bn
  go_wp2_with fail
  refine (of_ar ha (by omega)).mono ?_
  rintro e w12 ⟨Ba, na2, ca2, rfl, oa, bn⟩
  have b12 := b11.trans (bn.mono b11.size)
  clear ha
  have md := md.below bn
  have x := x.below bn
  have om := om.below bn
  have ou := ou.below bn
  clear b11 bn
  go_wp2_with fail
  refine (rmul_any ou oa (by have := ou.len_; omega) (by have := oa.len_; omega)).mono ?_
  rintro e w13 ⟨Bt, nt, ct, rfl, ot, bn⟩
  have b13 := b12.trans (bn.mono b12.size)
  clear oa
  have md := md.below bn
  have x := x.below bn
  have om := om.below bn
  have ou := ou.below bn
  clear b12 bn
  have dt := dr_mul x.pos ha0
  go_wp2_with fail
  refine (rrest_any ot om (by have := ot.len_; omega) (by have := om.len_; omega) (by omega)).mono ?_
  rintro e w14 ⟨Bp, np, cp, rfl, op, bn⟩
  have b14 := b13.trans (bn.mono b13.size)
  clear ot
  have md := md.below bn
  have x := x.below bn
  have om := om.below bn
  have ou := ou.below bn
  clear b13 bn
  rw [inv_p h3 HU.out] at op
  obtain ⟨bp, fp, rfl, hbp, hcp⟩ := rn_head op (by decide)
  obtain rfl : np = 1 := by rw [op.len_]; exact dr_1
  clear op
  have z2 : decide (cmpI U M < 0) = true := by rw [cmpI_lt u1]; rfl
  go_wp2_with fail
  refine (rcmp_v ou om (by have := ou.len_; omega) (by have := om.len_; omega)).mono ?_
  rintro e w15 ⟨rfl, bn⟩
  have b15 := b14.trans (bn.mono b14.size)
  clear om
  have md := md.below bn
  have x := x.below bn
  have ou := ou.below bn
  clear b14 bn
  go_wp2_with fail
  refine (num_any ou (by have := ou.len_; omega)).mono ?_
  rintro e w16 ⟨Bw, nw, cw, rfl, want, bn⟩
  have b16 := b15.trans (bn.mono b15.size)
  clear ou
  have md := md.below bn
  have x := x.below bn
  clear b15 bn
  go_wp2_with fail
  refine (same_rd x.rd want (by have := x.c60; omega)).mono ?_
  rintro e w17 ⟨rfl, bn⟩
  have b17 := b16.trans (bn.mono b16.size)
  clear x
  clear want
  have md := md.below bn
  clear b16 bn
  have G := Lib.hid b17
  clear b17
  go_wp2
  go_ret
  exact ⟨rfl, G.out⟩
theorem montInverts_walk {w : World} {mA : Option Addr} {nm cm : Nat} {zm : List Int} {aA : Option Addr} {na ca : Nat} {za : List Int} (tm : Told w mA nm cm zm) (ta : Told w aA na ca za) :
    Calls Try.prog 5 #[.slice mA nm cm, .slice aA na ca] w fun e w' => e = .returned (.bool true) ∧ Below w.heap.size w w' := by
  have hm : Ar w mA nm cm zm (val W zm) := ⟨tm, rfl⟩
  have ha : Ar w aA na ca za (val W za) := ⟨ta, rfl⟩
  rcases Nat.lt_or_ge 300 nm with lm | lm
  · exact montInverts_over0 hm ha  lm
  rcases Nat.lt_or_ge 300 na with la | la
  · exact montInverts_over1 hm ha  lm la
  rcases Nat.lt_or_ge 32 (dl (val W zm)) with hl | hl
  · exact montInverts_long hm ha  lm la hl
  by_cases he : val W zm % 2 = 0 ∨ val W zm < 3
  · exact montInverts_even hm ha  lm la hl he
  have ho : val W zm % 2 = 1 := by omega
  have h3 : 3 ≤ val W zm := by omega
  rcases Nat.lt_or_ge 64 (dl (val W za)) with ga | ga
  · exact montInverts_la hm ha  lm la hl ho h3 ga
  by_cases hg : Int.gcd (val W zm) (val W za % val W zm) = 1
  · rcases Nat.lt_or_ge 8 (dl (val W zm)) with sm | sm
    · exact montInverts_few0yes hm ha  lm la hl ho h3 ga hg sm
    rcases Nat.lt_or_ge 16 (dl (val W za)) with sa | sa
    · exact montInverts_few1yes hm ha  lm la hl ho h3 ga hg sm sa
    exact montInverts_yes hm ha  lm la hl ho h3 hg sm sa
  · rcases Nat.lt_or_ge 8 (dl (val W zm)) with sm | sm
    · exact montInverts_few0no hm ha  lm la hl ho h3 ga hg sm
    rcases Nat.lt_or_ge 16 (dl (val W za)) with sa | sa
    · exact montInverts_few1no hm ha  lm la hl ho h3 ga hg sm sa
    exact montInverts_no hm ha  lm la hl ho h3 hg sm sa
end Go.Proofs.Ytelhkmgbpcojiaa
