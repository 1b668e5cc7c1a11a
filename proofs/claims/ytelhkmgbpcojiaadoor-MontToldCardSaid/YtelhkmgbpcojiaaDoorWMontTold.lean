/-
  The walk of MontTold: numbers that are told with noughts behind, or with as often the modulus more as one likes, are the same numbers.
-/
import Derived.Test.YtelhkmgbpcojiaaDoorMade
import Derived.Test.YtelhkmgbpcojiaaDoorRMul
import Derived.Test.YtelhkmgbpcojiaaDoorZero0
import Derived.Test.YtelhkmgbpcojiaaDoorSameE
namespace Go.Proofs.YtelhkmgbpcojiaaDoor
open Go.RowKit
set_option linter.unusedVariables false
theorem of_lit (w : World) {r : Int} (r0 : 0 ≤ r) (r1 : r < 18446744073709551616) : Calls Tryd.prog 7 #[.slice (some ⟨w.heap.size, 0, none⟩) 1 1] (w.alloc (.cells #[.int .u64 r] 32)) (AnsN r (w.alloc (.cells #[.int .u64 r] 32))) := by
  have hr : Row (w.alloc (.cells #[.int .u64 r] 32)) w.heap.size 32 .u64 [r] := Row.new w 32 .u64 [r]
  have h := of_any (some ⟨w.heap.size, 0, none⟩) 1 1 [r] _ (hr.rd rfl (fun j y hy => by rwa [Nat.zero_add])) (fun y hy => by simp at hy; subst hy; exact ⟨r0, r1⟩) (by omega)
  have e : val W [r] = r := by simp [val]
  rw [e] at h
  exact h
theorem num_own {A : Option Addr} {n c : Nat} {N : Int} {w : World} (h : Rn w A n c N) (hn : n ≤ 100000) :
    Calls Tryd.prog 9 #[.slice A n c] w (AnsO N w) := by
  go_enter Tryd.func9, Tryd.ntmps9
  go_wp2_with fail
  refine (to_own h hn).mono ?_
  rintro e w1 ⟨v, m, rfl, k1, b1⟩
  have HK := Lib.hid k1
  clear k1
  go_wp2
  go_ret
  exact ⟨_, _, rfl, HK.out, b1⟩
theorem told_mod {A M : Int} (r : Int) : (A + M * r) % M = A % M := by
  rw [← Eqm.iff]; exact ⟨r, by grind⟩
theorem told_mul {A B M : Int} (r : Int) : (A + M * r) * B % M = A * B % M := by
  rw [← Eqm.iff]; exact (Eqm.iff.2 (told_mod r)).mul (Eqm.refl M B)
theorem told_pow {A M : Int} (r : Int) (k : Nat) : (A + M * r) ^ k % M = A ^ k % M := by
  rw [← Eqm.iff]; exact (Eqm.iff.2 (told_mod r)).pow k
theorem dr_mul' {N M : Int} (h0 : 0 ≤ N) (h1 : 0 ≤ M) : dr (N * M) ≤ dr N + dr M := by
  refine dg_len_le D_two (Int.mul_nonneg h0 h1) ?_
  have a := dg_lt_pow D_two h0 (Nat.le_refl (dr N))
  have b := dg_lt_pow D_two h1 (Nat.le_refl (dr M))
  rw [Int.pow_add]
  have hp := pow_pos' D_two (dr N)
  have hq := pow_pos' D_two (dr M)
  have c1 := Int.mul_le_mul_of_nonneg_left (show M ≤ D ^ dr M by omega) h0
  have c2 := Int.mul_lt_mul_of_pos_right a hq
  omega
theorem cn_nil (w : World) : Rd .u64 w none 0 [] := Rd.nil _ _ _
theorem same_none (w : World) : Calls Tryd.prog 13 #[.slice none 0 0, .slice none 0 0] w (AnsV (.bool true) w) :=
  (same_yes (cn_nil w) (cn_nil w) (by omega)).mono fun e w' ⟨he, q, hq⟩ => ⟨he, hq ▸ below_drewN (Below.refl _ _) q⟩
set_option maxHeartbeats 8000000 in
set_option maxRecDepth 100000 in
theorem montTold_over0 {w : World} {mA : Option Addr} {nm cm : Nat} {zm : List Int} {M : Int} {aA : Option Addr} {na ca : Nat} {za : List Int} {A : Int} {bA : Option Addr} {nb cb : Nat} {zb : List Int} {B : Int} (hm : Ar w mA nm cm zm M) (ha : Ar w aA na ca za A) (hb : Ar w bA nb cb zb B)  (lm : 20 < nm) (i : Int) (i0 : -9223372036854775808 ≤ i) (i1 : i ≤ 9223372036854775807) :
    Calls Tryd.prog 3 #[.slice mA nm cm, .slice aA na ca, .slice bA nb cb, .int .i64 i] w fun e w' => e = .returned (.bool true) ∧ Below w.heap.size w w' := by
  have dm := hm.told.c60
  have da := ha.told.c60
  have db := hb.told.c60
  go_enter Tryd.func3, Tryd.ntmps3
  go_wp2_with fail
  refine (up_any _).mono ?_
  rintro e w1 ⟨rfl, b1⟩
  have G := Lib.hid b1
  clear b1
  go_wp2
  go_ret
  exact ⟨rfl, G.out⟩
set_option maxHeartbeats 8000000 in
set_option maxRecDepth 100000 in
theorem montTold_over1 {w : World} {mA : Option Addr} {nm cm : Nat} {zm : List Int} {M : Int} {aA : Option Addr} {na ca : Nat} {za : List Int} {A : Int} {bA : Option Addr} {nb cb : Nat} {zb : List Int} {B : Int} (hm : Ar w mA nm cm zm M) (ha : Ar w aA na ca za A) (hb : Ar w bA nb cb zb B) (lm : nm ≤ 20) (la : 20 < na) (i : Int) (i0 : -9223372036854775808 ≤ i) (i1 : i ≤ 9223372036854775807) :
    Calls Tryd.prog 3 #[.slice mA nm cm, .slice aA na ca, .slice bA nb cb, .int .i64 i] w fun e w' => e = .returned (.bool true) ∧ Below w.heap.size w w' := by
  have dm := hm.told.c60
  have da := ha.told.c60
  have db := hb.told.c60
  go_enter Tryd.func3, Tryd.ntmps3
  go_wp2_with fail
  refine (up_any _).mono ?_
  rintro e w1 ⟨rfl, b1⟩
  have G := Lib.hid b1
  clear b1
  go_wp2
  go_ret
  exact ⟨rfl, G.out⟩
set_option maxHeartbeats 8000000 in
set_option maxRecDepth 100000 in
theorem montTold_over2 {w : World} {mA : Option Addr} {nm cm : Nat} {zm : List Int} {M : Int} {aA : Option Addr} {na ca : Nat} {za : List Int} {A : Int} {bA : Option Addr} {nb cb : Nat} {zb : List Int} {B : Int} (hm : Ar w mA nm cm zm M) (ha : Ar w aA na ca za A) (hb : Ar w bA nb cb zb B) (lm : nm ≤ 20) (la : na ≤ 20) (lb : 20 < nb) (i : Int) (i0 : -9223372036854775808 ≤ i) (i1 : i ≤ 9223372036854775807) :
    Calls Tryd.prog 3 #[.slice mA nm cm, .slice aA na ca, .slice bA nb cb, .int .i64 i] w fun e w' => e = .returned (.bool true) ∧ Below w.heap.size w w' := by
  have dm := hm.told.c60
  have da := ha.told.c60
  have db := hb.told.c60
  go_enter Tryd.func3, Tryd.ntmps3
  go_wp2_with fail
  refine (up_any _).mono ?_
  rintro e w1 ⟨rfl, b1⟩
  have G := Lib.hid b1
  clear b1
  go_wp2
  go_ret
  exact ⟨rfl, G.out⟩
set_option maxHeartbeats 8000000 in
set_option maxRecDepth 100000 in
theorem montTold_even {w : World} {mA : Option Addr} {nm cm : Nat} {zm : List Int} {M : Int} {aA : Option Addr} {na ca : Nat} {za : List Int} {A : Int} {bA : Option Addr} {nb cb : Nat} {zb : List Int} {B : Int} (hm : Ar w mA nm cm zm M) (ha : Ar w aA na ca za A) (hb : Ar w bA nb cb zb B) (lm : nm ≤ 20) (la : na ≤ 20) (lb : nb ≤ 20) (hl : dl M ≤ 32) (he : M % 2 = 0 ∨ M < 3) (i : Int) (i0 : -9223372036854775808 ≤ i) (i1 : i ≤ 9223372036854775807) :
    Calls Tryd.prog 3 #[.slice mA nm cm, .slice aA na ca, .slice bA nb cb, .int .i64 i] w fun e w' => e = .returned (.bool true) ∧ Below w.heap.size w w' := by
  have HE := Lib.hid he
  clear he
  go_enter Tryd.func3, Tryd.ntmps3
  go_wp2_with fail
  refine (up_any _).mono ?_
  rintro e w1 ⟨rfl, b1⟩
  have hm := hm.below b1
  go_wp2_with fail
  refine (made_even hm (by omega) hl HE.out).mono ?_
  rintro e w2 ⟨rfl, bn⟩
  have b2 := b1.trans (bn.mono b1.size)
  have hm := hm.below bn
  clear b1 bn
  have G := Lib.hid b2
  clear b2
  go_wp2
  go_ret
  exact ⟨rfl, G.out⟩
set_option maxHeartbeats 8000000 in
set_option maxRecDepth 100000 in
theorem montTold_nyes {w : World} {mA : Option Addr} {nm cm : Nat} {zm : List Int} {M : Int} {aA : Option Addr} {na ca : Nat} {za : List Int} {A : Int} {bA : Option Addr} {nb cb : Nat} {zb : List Int} {B : Int} (hm : Ar w mA nm cm zm M) (ha : Ar w aA na ca za A) (hb : Ar w bA nb cb zb B) (lm : nm ≤ 20) (la : na ≤ 20) (lb : nb ≤ 20) (hl : dl M ≤ 32) (ho : M % 2 = 1) (h3 : 3 ≤ M) (i : Int) (i0 : -9223372036854775808 ≤ i) (i1 : i ≤ 9223372036854775807) (hs : i < 0) (hg : Int.gcd M (A % M) = 1) (het : Et w) :
    Calls Tryd.prog 3 #[.slice mA nm cm, .slice aA na ca, .slice bA nb cb, .int .i64 i] w fun e w' => e = .returned (.bool true) ∧ Below w.heap.size w w' := by
  have HO := Lib.hid ho
  have HG := Lib.hid hg
  clear ho hg
  obtain ⟨r, hr⟩ : ∃ r : Nat, Int.tmod (-(i + 1)) 50 = r := ⟨(Int.tmod (-(i + 1)) 50).toNat, by rw [Int.tmod_eq_emod_of_nonneg (by omega)]; omega⟩
  have hr' : (-(i + 1)) % 50 = r := by rw [Int.tmod_eq_emod_of_nonneg (by omega)] at hr; exact hr
  have r50 : r < 50 := by omega
  obtain ⟨z, hz⟩ : ∃ z : Nat, Int.tmod (r : Int) 4 = z := ⟨(Int.tmod (r : Int) 4).toNat, by rw [Int.tmod_eq_emod_of_nonneg (by omega)]; omega⟩
  have hz' : (r : Int) % 4 = z := by rw [Int.tmod_eq_emod_of_nonneg (by omega)] at hz; exact hz
  have z4 : z < 4 := by omega
  have hru : IntKind.u64.wrap (r : Int) = r := by rw [IntKind.wrap_u64]; omega
  have A0 := ha.nm.pos
  have B0 := hb.nm.pos
  have R0 : (0 : Int) ≤ r := by omega
  have R1 : (r : Int) < 18446744073709551616 := by omega
  have da : dl A ≤ 20 := by have := ha.nm.dl_le; omega
  have da64 : dl A ≤ 64 := by omega
  have db64 : dl B ≤ 64 := by have := hb.nm.dl_le; omega
  have dm : dl M ≤ 20 := by have := hm.nm.dl_le; omega
  have dr1 : dl (r : Int) ≤ 1 := dl_le R0 (by have e : W ^ 1 = 18446744073709551616 := by decide
                                              rw [e]; exact R1)
  have dmr : dl (M * r) ≤ 21 := dl_mul (by omega) R0 dm dr1
  have dx : dl (A + M * r) ≤ 22 := dl_add A0 (Int.mul_nonneg (by omega) R0) (show dl A ≤ 21 by omega) dmr
  have dx64 : dl (A + M * r) ≤ 64 := by omega
  have ra := dr_le A0 da
  have rm := dr_le (show 0 ≤ M by omega) dm
  have rr := dr_le R0 dr1
  have rmr := dr_le (Int.mul_nonneg (show 0 ≤ M by omega) R0) dmr
  have rx := dr_le (Int.add_nonneg A0 (Int.mul_nonneg (show 0 ≤ M by omega) R0)) dx
  have d7 : dl 7 ≤ 64 := dl_small (by decide) (by decide)
  have X0 : 0 ≤ A + M * r := Int.add_nonneg A0 (Int.mul_nonneg (by omega) R0)
  have HXD := Lib.hid (dig_dg W_two X0)
  have HXV := Lib.hid (val_dg W_two X0)
  have ttm : decide ((20 : Int) < (nm : Int)) = false := by simp; omega
  have tta : decide ((20 : Int) < (na : Int)) = false := by simp; omega
  have ttb : decide ((20 : Int) < (nb : Int)) = false := by simp; omega
  have tn : decide (i < 0) = true := by simp; omega
  go_enter Tryd.func3, Tryd.ntmps3
  go_wp2_with fail
  refine (up_any _).mono ?_
  rintro e w1 ⟨rfl, b1⟩
  have hm := hm.below b1
  have ha := ha.below b1
  have hb := hb.below b1
  have het := het.below b1
  go_wp2_with fail
  refine (made_any hm (by omega) hl HO.out h3).mono ?_
  rintro e w2 ⟨b, MA, mc, low, OB, cB, SS, cS, rfl, md, bn⟩
  have b2 := b1.trans (bn.mono b1.size)
  have hm := hm.below bn
  have ha := ha.below bn
  have hb := hb.below bn
  have het := het.below bn
  clear b1 bn
  go_wp2_with fail
  refine (of_ar ha (by omega)).mono ?_
  rintro e w3 ⟨Ba, na2, ca2, rfl, oa, bn⟩
  have b3 := b2.trans (bn.mono b2.size)
  have hm := hm.below bn
  have ha := ha.below bn
  have hb := hb.below bn
  have het := het.below bn
  have md := md.below bn
  clear b2 bn
  go_wp2_with fail
  refine (of_ar hm (by omega)).mono ?_
  rintro e w4 ⟨Bm, nm2, cm2, rfl, om, bn⟩
  have b4 := b3.trans (bn.mono b3.size)
  clear hm
  have ha := ha.below bn
  have hb := hb.below bn
  have het := het.below bn
  have md := md.below bn
  have oa := oa.below bn
  clear b3 bn
  go_wp2_with fail
  refine (of_lit w4 R0 R1).mono ?_
  rintro e w5 ⟨Br, nr, cr, rfl, orr, bn⟩
  have bn := below_one bn
  have b5 := b4.trans (bn.mono b4.size)
  have ha := ha.below bn
  have hb := hb.below bn
  have het := het.below bn
  have md := md.below bn
  have oa := oa.below bn
  have om := om.below bn
  clear b4 bn
  go_wp2_with fail
  refine (rmul_any om orr (by have := om.len_; omega) (by have := orr.len_; omega)).mono ?_
  rintro e w6 ⟨Bt, nt, ct, rfl, ot, bn⟩
  have b6 := b5.trans (bn.mono b5.size)
  clear om
  clear orr
  have ha := ha.below bn
  have hb := hb.below bn
  have het := het.below bn
  have md := md.below bn
  have oa := oa.below bn
  clear b5 bn
  go_wp2_with fail
  refine (radd_any oa ot (by have := oa.len_; omega) (by have := ot.len_; omega)).mono ?_
  rintro e w7 ⟨Bx, nx, cx, rfl, ox, bn⟩
  have b7 := b6.trans (bn.mono b6.size)
  clear oa
  clear ot
  have ha := ha.below bn
  have hb := hb.below bn
  have het := het.below bn
  have md := md.below bn
  clear b6 bn
  go_wp2_with fail
  refine (num_own ox (by have := ox.len_; omega)).mono ?_
  rintro e w8 ⟨vx, mx, rfl, hown, bn⟩
  have hmx : mx ≤ 22 := by have h1 := hown.1; rw [List.length_map, Nat.mul_one] at h1; have h2 : (dg W (A + M * r)).length = dl (A + M * r) := rfl; omega
  have HOWN := Lib.hid hown
  clear hown
  go_wp2_with (at_builtin; refine wpList_zeros _ rfl _ _ 23 3 rfl w7.heap.size 32 .u64 .i64 Tryd.underlying23 Tryd.underlying3 info62u _ _ (dg W (A + M * r)) rfl HOWN.out z ?hx (by omega) ?hb ?_)
  case hx => exact rfl
  case hb => exact bn.size
  intro v' w9 hown' hgrow
  have bn2 := own_below (Below.refl w7.heap.size w7 |>.trans bn) HOWN.out hgrow bn.size (Nat.le_refl _)
  clear bn
  have bn := bn2
  clear bn2
  obtain ⟨XA, xc, rfl, vx⟩ := own_told (n := mx) (m := z) (by rw [List.map_append, List.map_replicate]; exact hown') HXD.out (by omega)
  rw [HXV.out] at vx
  clear hown' hgrow HOWN
  have b9 := b7.trans (bn.mono b7.size)
  clear ox
  have ha := ha.below bn
  have hb := hb.below bn
  have het := het.below bn
  have md := md.below bn
  clear b7 bn
  go_wp2_with fail
  refine (mmul_any md ha.nm hb.nm da64 db64).mono ?_
  rintro e w10 ⟨Bp, np, cp, rfl, p, bn, -⟩
  have b10 := b9.trans (bn.mono b9.size)
  have ha := ha.below bn
  have hb := hb.below bn
  have het := het.below bn
  have md := md.below bn
  have vx := vx.below bn
  clear b9 bn
  go_wp2_with fail
  refine (mmul_any md vx.nm hb.nm dx64 db64).mono ?_
  rintro e w11 ⟨Bq, nq, cq, rfl, q, bn, -⟩
  have b11 := b10.trans (bn.mono b10.size)
  clear hb
  have ha := ha.below bn
  have het := het.below bn
  have md := md.below bn
  have vx := vx.below bn
  have p := p.below bn
  clear b10 bn
  rw [told_mul] at q
  have L7 := Lib.hid (lit_one w11 7 (by decide) (by decide))
  go_wp2_with fail
  refine (exp_any (md.below (below_al _ _)) (ha.below (below_al _ _)).nm L7.out da64 d7).mono ?_
  rintro e w12 ⟨Bs, ns, cs, rfl, s, bn, -⟩
  have bn := below_one bn
  have b12 := b11.trans (bn.mono b11.size)
  have ha := ha.below bn
  have het := het.below bn
  have md := md.below bn
  have vx := vx.below bn
  have p := p.below bn
  have q := q.below bn
  clear b11 bn L7
  have L7 := Lib.hid (lit_one w12 7 (by decide) (by decide))
  go_wp2_with fail
  refine (exp_any (md.below (below_al _ _)) (vx.below (below_al _ _)).nm L7.out dx64 d7).mono ?_
  rintro e w13 ⟨Bt, nt, ct, rfl, t, bn, -⟩
  have bn := below_one bn
  have b13 := b12.trans (bn.mono b12.size)
  have ha := ha.below bn
  have het := het.below bn
  have md := md.below bn
  have vx := vx.below bn
  have p := p.below bn
  have q := q.below bn
  have s := s.below bn
  clear b12 bn L7
  rw [told_pow] at t
  go_wp2_with fail
  refine (inverse_any md ha.nm da64 HG.out).mono ?_
  rintro e w14 ⟨U, u0, u1, hu, Bu, nu, cu, rfl, u, bn, -⟩
  have b14 := b13.trans (bn.mono b13.size)
  have ha := ha.below bn
  have het := het.below bn
  have md := md.below bn
  have vx := vx.below bn
  have p := p.below bn
  have q := q.below bn
  have s := s.below bn
  have t := t.below bn
  clear b13 bn
  have HU := Lib.hid hu
  clear hu
  go_wp2_with fail
  refine (inverse_any md vx.nm dx64 (by rw [told_mod]; exact HG.out)).mono ?_
  rintro e w15 ⟨V, v0, v1, hv, Bv, nv, cv, rfl, v, bn, -⟩
  have b15 := b14.trans (bn.mono b14.size)
  have ha := ha.below bn
  have het := het.below bn
  have md := md.below bn
  have vx := vx.below bn
  have p := p.below bn
  have q := q.below bn
  have s := s.below bn
  have t := t.below bn
  have u := u.below bn
  clear b14 bn
  obtain rfl : U = V := inv_uniq (Eqm.iff.2 (told_mod (r : Int)).symm) HU.out hv (by omega) u1 (by omega) v1
  clear hv HU
  go_wp2_with fail
  refine (same_cn p q).mono ?_
  rintro e w16 ⟨rfl, bn⟩
  have b16 := b15.trans (bn.mono b15.size)
  clear p
  clear q
  have ha := ha.below bn
  have het := het.below bn
  have md := md.below bn
  have vx := vx.below bn
  have s := s.below bn
  have t := t.below bn
  have u := u.below bn
  have v := v.below bn
  clear b15 bn
  go_wp2_with fail
  refine (same_cn s t).mono ?_
  rintro e w17 ⟨rfl, bn⟩
  have b17 := b16.trans (bn.mono b16.size)
  clear s
  clear t
  have ha := ha.below bn
  have het := het.below bn
  have md := md.below bn
  have vx := vx.below bn
  have u := u.below bn
  have v := v.below bn
  clear b16 bn
  go_wp2_with fail
  refine (same_cn u v).mono ?_
  rintro e w18 ⟨rfl, bn⟩
  have b18 := b17.trans (bn.mono b17.size)
  clear u
  clear v
  have ha := ha.below bn
  have het := het.below bn
  have md := md.below bn
  have vx := vx.below bn
  clear b17 bn
  go_wp2_with fail
  refine (same_nil _).mono ?_
  rintro e w19 ⟨rfl, bn⟩
  have b19 := b18.trans (bn.mono b18.size)
  have ha := ha.below bn
  have het := het.below bn
  have md := md.below bn
  have vx := vx.below bn
  clear b18 bn
  have G := Lib.hid b19
  clear b19
  go_wp2
  go_ret
  exact ⟨rfl, G.out⟩
set_option maxHeartbeats 8000000 in
set_option maxRecDepth 100000 in
theorem montTold_nno {w : World} {mA : Option Addr} {nm cm : Nat} {zm : List Int} {M : Int} {aA : Option Addr} {na ca : Nat} {za : List Int} {A : Int} {bA : Option Addr} {nb cb : Nat} {zb : List Int} {B : Int} (hm : Ar w mA nm cm zm M) (ha : Ar w aA na ca za A) (hb : Ar w bA nb cb zb B) (lm : nm ≤ 20) (la : na ≤ 20) (lb : nb ≤ 20) (hl : dl M ≤ 32) (ho : M % 2 = 1) (h3 : 3 ≤ M) (i : Int) (i0 : -9223372036854775808 ≤ i) (i1 : i ≤ 9223372036854775807) (hs : i < 0) (hg : Int.gcd M (A % M) ≠ 1) (het : Et w) :
    Calls Tryd.prog 3 #[.slice mA nm cm, .slice aA na ca, .slice bA nb cb, .int .i64 i] w fun e w' => e = .returned (.bool true) ∧ Below w.heap.size w w' := by
  have HO := Lib.hid ho
  have HG := Lib.hid hg
  clear ho hg
  obtain ⟨r, hr⟩ : ∃ r : Nat, Int.tmod (-(i + 1)) 50 = r := ⟨(Int.tmod (-(i + 1)) 50).toNat, by rw [Int.tmod_eq_emod_of_nonneg (by omega)]; omega⟩
  have hr' : (-(i + 1)) % 50 = r := by rw [Int.tmod_eq_emod_of_nonneg (by omega)] at hr; exact hr
  have r50 : r < 50 := by omega
  obtain ⟨z, hz⟩ : ∃ z : Nat, Int.tmod (r : Int) 4 = z := ⟨(Int.tmod (r : Int) 4).toNat, by rw [Int.tmod_eq_emod_of_nonneg (by omega)]; omega⟩
  have hz' : (r : Int) % 4 = z := by rw [Int.tmod_eq_emod_of_nonneg (by omega)] at hz; exact hz
  have z4 : z < 4 := by omega
  have hru : IntKind.u64.wrap (r : Int) = r := by rw [IntKind.wrap_u64]; omega
  have A0 := ha.nm.pos
  have B0 := hb.nm.pos
  have R0 : (0 : Int) ≤ r := by omega
  have R1 : (r : Int) < 18446744073709551616 := by omega
  have da : dl A ≤ 20 := by have := ha.nm.dl_le; omega
  have da64 : dl A ≤ 64 := by omega
  have db64 : dl B ≤ 64 := by have := hb.nm.dl_le; omega
  have dm : dl M ≤ 20 := by have := hm.nm.dl_le; omega
  have dr1 : dl (r : Int) ≤ 1 := dl_le R0 (by have e : W ^ 1 = 18446744073709551616 := by decide
                                              rw [e]; exact R1)
  have dmr : dl (M * r) ≤ 21 := dl_mul (by omega) R0 dm dr1
  have dx : dl (A + M * r) ≤ 22 := dl_add A0 (Int.mul_nonneg (by omega) R0) (show dl A ≤ 21 by omega) dmr
  have dx64 : dl (A + M * r) ≤ 64 := by omega
  have ra := dr_le A0 da
  have rm := dr_le (show 0 ≤ M by omega) dm
  have rr := dr_le R0 dr1
  have rmr := dr_le (Int.mul_nonneg (show 0 ≤ M by omega) R0) dmr
  have rx := dr_le (Int.add_nonneg A0 (Int.mul_nonneg (show 0 ≤ M by omega) R0)) dx
  have d7 : dl 7 ≤ 64 := dl_small (by decide) (by decide)
  have X0 : 0 ≤ A + M * r := Int.add_nonneg A0 (Int.mul_nonneg (by omega) R0)
  have HXD := Lib.hid (dig_dg W_two X0)
  have HXV := Lib.hid (val_dg W_two X0)
  have ttm : decide ((20 : Int) < (nm : Int)) = false := by simp; omega
  have tta : decide ((20 : Int) < (na : Int)) = false := by simp; omega
  have ttb : decide ((20 : Int) < (nb : Int)) = false := by simp; omega
  have tn : decide (i < 0) = true := by simp; omega
  go_enter Tryd.func3, Tryd.ntmps3
  go_wp2_with fail
  refine (up_any _).mono ?_
  rintro e w1 ⟨rfl, b1⟩
  have hm := hm.below b1
  have ha := ha.below b1
  have hb := hb.below b1
  have het := het.below b1
  go_wp2_with fail
  refine (made_any hm (by omega) hl HO.out h3).mono ?_
  rintro e w2 ⟨b, MA, mc, low, OB, cB, SS, cS, rfl, md, bn⟩
  have b2 := b1.trans (bn.mono b1.size)
  have hm := hm.below bn
  have ha := ha.below bn
  have hb := hb.below bn
  have het := het.below bn
  clear b1 bn
  go_wp2_with fail
  refine (of_ar ha (by omega)).mono ?_
  rintro e w3 ⟨Ba, na2, ca2, rfl, oa, bn⟩
  have b3 := b2.trans (bn.mono b2.size)
  have hm := hm.below bn
  have ha := ha.below bn
  have hb := hb.below bn
  have het := het.below bn
  have md := md.below bn
  clear b2 bn
  go_wp2_with fail
  refine (of_ar hm (by omega)).mono ?_
  rintro e w4 ⟨Bm, nm2, cm2, rfl, om, bn⟩
  have b4 := b3.trans (bn.mono b3.size)
  clear hm
  have ha := ha.below bn
  have hb := hb.below bn
  have het := het.below bn
  have md := md.below bn
  have oa := oa.below bn
  clear b3 bn
  go_wp2_with fail
  refine (of_lit w4 R0 R1).mono ?_
  rintro e w5 ⟨Br, nr, cr, rfl, orr, bn⟩
  have bn := below_one bn
  have b5 := b4.trans (bn.mono b4.size)
  have ha := ha.below bn
  have hb := hb.below bn
  have het := het.below bn
  have md := md.below bn
  have oa := oa.below bn
  have om := om.below bn
  clear b4 bn
  go_wp2_with fail
  refine (rmul_any om orr (by have := om.len_; omega) (by have := orr.len_; omega)).mono ?_
  rintro e w6 ⟨Bt, nt, ct, rfl, ot, bn⟩
  have b6 := b5.trans (bn.mono b5.size)
  clear om
  clear orr
  have ha := ha.below bn
  have hb := hb.below bn
  have het := het.below bn
  have md := md.below bn
  have oa := oa.below bn
  clear b5 bn
  go_wp2_with fail
  refine (radd_any oa ot (by have := oa.len_; omega) (by have := ot.len_; omega)).mono ?_
  rintro e w7 ⟨Bx, nx, cx, rfl, ox, bn⟩
  have b7 := b6.trans (bn.mono b6.size)
  clear oa
  clear ot
  have ha := ha.below bn
  have hb := hb.below bn
  have het := het.below bn
  have md := md.below bn
  clear b6 bn
  go_wp2_with fail
  refine (num_own ox (by have := ox.len_; omega)).mono ?_
  rintro e w8 ⟨vx, mx, rfl, hown, bn⟩
  have hmx : mx ≤ 22 := by have h1 := hown.1; rw [List.length_map, Nat.mul_one] at h1; have h2 : (dg W (A + M * r)).length = dl (A + M * r) := rfl; omega
  have HOWN := Lib.hid hown
  clear hown
  go_wp2_with (at_builtin; refine wpList_zeros _ rfl _ _ 23 3 rfl w7.heap.size 32 .u64 .i64 Tryd.underlying23 Tryd.underlying3 info62u _ _ (dg W (A + M * r)) rfl HOWN.out z ?hx (by omega) ?hb ?_)
  case hx => exact rfl
  case hb => exact bn.size
  intro v' w9 hown' hgrow
  have bn2 := own_below (Below.refl w7.heap.size w7 |>.trans bn) HOWN.out hgrow bn.size (Nat.le_refl _)
  clear bn
  have bn := bn2
  clear bn2
  obtain ⟨XA, xc, rfl, vx⟩ := own_told (n := mx) (m := z) (by rw [List.map_append, List.map_replicate]; exact hown') HXD.out (by omega)
  rw [HXV.out] at vx
  clear hown' hgrow HOWN
  have b9 := b7.trans (bn.mono b7.size)
  clear ox
  have ha := ha.below bn
  have hb := hb.below bn
  have het := het.below bn
  have md := md.below bn
  clear b7 bn
  go_wp2_with fail
  refine (mmul_any md ha.nm hb.nm da64 db64).mono ?_
  rintro e w10 ⟨Bp, np, cp, rfl, p, bn, -⟩
  have b10 := b9.trans (bn.mono b9.size)
  have ha := ha.below bn
  have hb := hb.below bn
  have het := het.below bn
  have md := md.below bn
  have vx := vx.below bn
  clear b9 bn
  go_wp2_with fail
  refine (mmul_any md vx.nm hb.nm dx64 db64).mono ?_
  rintro e w11 ⟨Bq, nq, cq, rfl, q, bn, -⟩
  have b11 := b10.trans (bn.mono b10.size)
  clear hb
  have ha := ha.below bn
  have het := het.below bn
  have md := md.below bn
  have vx := vx.below bn
  have p := p.below bn
  clear b10 bn
  rw [told_mul] at q
  have L7 := Lib.hid (lit_one w11 7 (by decide) (by decide))
  go_wp2_with fail
  refine (exp_any (md.below (below_al _ _)) (ha.below (below_al _ _)).nm L7.out da64 d7).mono ?_
  rintro e w12 ⟨Bs, ns, cs, rfl, s, bn, -⟩
  have bn := below_one bn
  have b12 := b11.trans (bn.mono b11.size)
  have ha := ha.below bn
  have het := het.below bn
  have md := md.below bn
  have vx := vx.below bn
  have p := p.below bn
  have q := q.below bn
  clear b11 bn L7
  have L7 := Lib.hid (lit_one w12 7 (by decide) (by decide))
  go_wp2_with fail
  refine (exp_any (md.below (below_al _ _)) (vx.below (below_al _ _)).nm L7.out dx64 d7).mono ?_
  rintro e w13 ⟨Bt, nt, ct, rfl, t, bn, -⟩
  have bn := below_one bn
  have b13 := b12.trans (bn.mono b12.size)
  have ha := ha.below bn
  have het := het.below bn
  have md := md.below bn
  have vx := vx.below bn
  have p := p.below bn
  have q := q.below bn
  have s := s.below bn
  clear b12 bn L7
  rw [told_pow] at t
  go_wp2_with fail
  refine (inverse_none md ha.nm da64 HG.out).mono ?_
  rintro e w14 ⟨rfl, bn⟩
  have b14 := b13.trans (bn.mono b13.size)
  have ha := ha.below bn
  have het := het.below bn
  have md := md.below bn
  have vx := vx.below bn
  have p := p.below bn
  have q := q.below bn
  have s := s.below bn
  have t := t.below bn
  clear b13 bn
  go_wp2_with fail
  refine (inverse_none md vx.nm dx64 (by rw [told_mod]; exact HG.out)).mono ?_
  rintro e w15 ⟨rfl, bn⟩
  have b15 := b14.trans (bn.mono b14.size)
  have ha := ha.below bn
  have het := het.below bn
  have md := md.below bn
  have vx := vx.below bn
  have p := p.below bn
  have q := q.below bn
  have s := s.below bn
  have t := t.below bn
  clear b14 bn
  go_wp2_with fail
  refine (same_cn p q).mono ?_
  rintro e w16 ⟨rfl, bn⟩
  have b16 := b15.trans (bn.mono b15.size)
  clear p
  clear q
  have ha := ha.below bn
  have het := het.below bn
  have md := md.below bn
  have vx := vx.below bn
  have s := s.below bn
  have t := t.below bn
  clear b15 bn
  go_wp2_with fail
  refine (same_cn s t).mono ?_
  rintro e w17 ⟨rfl, bn⟩
  have b17 := b16.trans (bn.mono b16.size)
  clear s
  clear t
  have ha := ha.below bn
  have het := het.below bn
  have md := md.below bn
  have vx := vx.below bn
  clear b16 bn
  go_wp2_with fail
  refine (same_none _).mono ?_
  rintro e w18 ⟨rfl, bn⟩
  have b18 := b17.trans (bn.mono b17.size)
  have ha := ha.below bn
  have het := het.below bn
  have md := md.below bn
  have vx := vx.below bn
  clear b17 bn
  go_wp2_with fail
  refine (same_code 6 (by decide) (by decide) _ het).mono ?_
  rintro e w19 ⟨rfl, bn⟩
  have b19 := b18.trans (bn.mono b18.size)
  have ha := ha.below bn
  have het := het.below bn
  have md := md.below bn
  have vx := vx.below bn
  clear b18 bn
  have G := Lib.hid b19
  clear b19
  go_wp2
  go_ret
  exact ⟨rfl, G.out⟩
set_option maxHeartbeats 8000000 in
set_option maxRecDepth 100000 in
theorem montTold_pyes {w : World} {mA : Option Addr} {nm cm : Nat} {zm : List Int} {M : Int} {aA : Option Addr} {na ca : Nat} {za : List Int} {A : Int} {bA : Option Addr} {nb cb : Nat} {zb : List Int} {B : Int} (hm : Ar w mA nm cm zm M) (ha : Ar w aA na ca za A) (hb : Ar w bA nb cb zb B) (lm : nm ≤ 20) (la : na ≤ 20) (lb : nb ≤ 20) (hl : dl M ≤ 32) (ho : M % 2 = 1) (h3 : 3 ≤ M) (i : Int) (i0 : -9223372036854775808 ≤ i) (i1 : i ≤ 9223372036854775807) (hs : 0 ≤ i) (hg : Int.gcd M (A % M) = 1) (het : Et w) :
    Calls Tryd.prog 3 #[.slice mA nm cm, .slice aA na ca, .slice bA nb cb, .int .i64 i] w fun e w' => e = .returned (.bool true) ∧ Below w.heap.size w w' := by
  have HO := Lib.hid ho
  have HG := Lib.hid hg
  clear ho hg
  obtain ⟨r, hr⟩ : ∃ r : Nat, Int.tmod (i) 50 = r := ⟨(Int.tmod (i) 50).toNat, by rw [Int.tmod_eq_emod_of_nonneg (by omega)]; omega⟩
  have hr' : (i) % 50 = r := by rw [Int.tmod_eq_emod_of_nonneg (by omega)] at hr; exact hr
  have r50 : r < 50 := by omega
  obtain ⟨z, hz⟩ : ∃ z : Nat, Int.tmod (r : Int) 4 = z := ⟨(Int.tmod (r : Int) 4).toNat, by rw [Int.tmod_eq_emod_of_nonneg (by omega)]; omega⟩
  have hz' : (r : Int) % 4 = z := by rw [Int.tmod_eq_emod_of_nonneg (by omega)] at hz; exact hz
  have z4 : z < 4 := by omega
  have hru : IntKind.u64.wrap (r : Int) = r := by rw [IntKind.wrap_u64]; omega
  have A0 := ha.nm.pos
  have B0 := hb.nm.pos
  have R0 : (0 : Int) ≤ r := by omega
  have R1 : (r : Int) < 18446744073709551616 := by omega
  have da : dl A ≤ 20 := by have := ha.nm.dl_le; omega
  have da64 : dl A ≤ 64 := by omega
  have db64 : dl B ≤ 64 := by have := hb.nm.dl_le; omega
  have dm : dl M ≤ 20 := by have := hm.nm.dl_le; omega
  have dr1 : dl (r : Int) ≤ 1 := dl_le R0 (by have e : W ^ 1 = 18446744073709551616 := by decide
                                              rw [e]; exact R1)
  have dmr : dl (M * r) ≤ 21 := dl_mul (by omega) R0 dm dr1
  have dx : dl (A + M * r) ≤ 22 := dl_add A0 (Int.mul_nonneg (by omega) R0) (show dl A ≤ 21 by omega) dmr
  have dx64 : dl (A + M * r) ≤ 64 := by omega
  have ra := dr_le A0 da
  have rm := dr_le (show 0 ≤ M by omega) dm
  have rr := dr_le R0 dr1
  have rmr := dr_le (Int.mul_nonneg (show 0 ≤ M by omega) R0) dmr
  have rx := dr_le (Int.add_nonneg A0 (Int.mul_nonneg (show 0 ≤ M by omega) R0)) dx
  have d7 : dl 7 ≤ 64 := dl_small (by decide) (by decide)
  have X0 : 0 ≤ A + M * r := Int.add_nonneg A0 (Int.mul_nonneg (by omega) R0)
  have HXD := Lib.hid (dig_dg W_two X0)
  have HXV := Lib.hid (val_dg W_two X0)
  have ttm : decide ((20 : Int) < (nm : Int)) = false := by simp; omega
  have tta : decide ((20 : Int) < (na : Int)) = false := by simp; omega
  have ttb : decide ((20 : Int) < (nb : Int)) = false := by simp; omega
  have tn : decide (i < 0) = false := by simp; omega
  go_enter Tryd.func3, Tryd.ntmps3
  go_wp2_with fail
  refine (up_any _).mono ?_
  rintro e w1 ⟨rfl, b1⟩
  have hm := hm.below b1
  have ha := ha.below b1
  have hb := hb.below b1
  have het := het.below b1
  go_wp2_with fail
  refine (made_any hm (by omega) hl HO.out h3).mono ?_
  rintro e w2 ⟨b, MA, mc, low, OB, cB, SS, cS, rfl, md, bn⟩
  have b2 := b1.trans (bn.mono b1.size)
  have hm := hm.below bn
  have ha := ha.below bn
  have hb := hb.below bn
  have het := het.below bn
  clear b1 bn
  go_wp2_with fail
  refine (of_ar ha (by omega)).mono ?_
  rintro e w3 ⟨Ba, na2, ca2, rfl, oa, bn⟩
  have b3 := b2.trans (bn.mono b2.size)
  have hm := hm.below bn
  have ha := ha.below bn
  have hb := hb.below bn
  have het := het.below bn
  have md := md.below bn
  clear b2 bn
  go_wp2_with fail
  refine (of_ar hm (by omega)).mono ?_
  rintro e w4 ⟨Bm, nm2, cm2, rfl, om, bn⟩
  have b4 := b3.trans (bn.mono b3.size)
  clear hm
  have ha := ha.below bn
  have hb := hb.below bn
  have het := het.below bn
  have md := md.below bn
  have oa := oa.below bn
  clear b3 bn
  go_wp2_with fail
  refine (of_lit w4 R0 R1).mono ?_
  rintro e w5 ⟨Br, nr, cr, rfl, orr, bn⟩
  have bn := below_one bn
  have b5 := b4.trans (bn.mono b4.size)
  have ha := ha.below bn
  have hb := hb.below bn
  have het := het.below bn
  have md := md.below bn
  have oa := oa.below bn
  have om := om.below bn
  clear b4 bn
  go_wp2_with fail
  refine (rmul_any om orr (by have := om.len_; omega) (by have := orr.len_; omega)).mono ?_
  rintro e w6 ⟨Bt, nt, ct, rfl, ot, bn⟩
  have b6 := b5.trans (bn.mono b5.size)
  clear om
  clear orr
  have ha := ha.below bn
  have hb := hb.below bn
  have het := het.below bn
  have md := md.below bn
  have oa := oa.below bn
  clear b5 bn
  go_wp2_with fail
  refine (radd_any oa ot (by have := oa.len_; omega) (by have := ot.len_; omega)).mono ?_
  rintro e w7 ⟨Bx, nx, cx, rfl, ox, bn⟩
  have b7 := b6.trans (bn.mono b6.size)
  clear oa
  clear ot
  have ha := ha.below bn
  have hb := hb.below bn
  have het := het.below bn
  have md := md.below bn
  clear b6 bn
  go_wp2_with fail
  refine (num_own ox (by have := ox.len_; omega)).mono ?_
  rintro e w8 ⟨vx, mx, rfl, hown, bn⟩
  have hmx : mx ≤ 22 := by have h1 := hown.1; rw [List.length_map, Nat.mul_one] at h1; have h2 : (dg W (A + M * r)).length = dl (A + M * r) := rfl; omega
  have HOWN := Lib.hid hown
  clear hown
  go_wp2_with (at_builtin; refine wpList_zeros _ rfl _ _ 23 3 rfl w7.heap.size 32 .u64 .i64 Tryd.underlying23 Tryd.underlying3 info62u _ _ (dg W (A + M * r)) rfl HOWN.out z ?hx (by omega) ?hb ?_)
  case hx => exact rfl
  case hb => exact bn.size
  intro v' w9 hown' hgrow
  have bn2 := own_below (Below.refl w7.heap.size w7 |>.trans bn) HOWN.out hgrow bn.size (Nat.le_refl _)
  clear bn
  have bn := bn2
  clear bn2
  obtain ⟨XA, xc, rfl, vx⟩ := own_told (n := mx) (m := z) (by rw [List.map_append, List.map_replicate]; exact hown') HXD.out (by omega)
  rw [HXV.out] at vx
  clear hown' hgrow HOWN
  have b9 := b7.trans (bn.mono b7.size)
  clear ox
  have ha := ha.below bn
  have hb := hb.below bn
  have het := het.below bn
  have md := md.below bn
  clear b7 bn
  go_wp2_with fail
  refine (mmul_any md ha.nm hb.nm da64 db64).mono ?_
  rintro e w10 ⟨Bp, np, cp, rfl, p, bn, -⟩
  have b10 := b9.trans (bn.mono b9.size)
  have ha := ha.below bn
  have hb := hb.below bn
  have het := het.below bn
  have md := md.below bn
  have vx := vx.below bn
  clear b9 bn
  go_wp2_with fail
  refine (mmul_any md vx.nm hb.nm dx64 db64).mono ?_
  rintro e w11 ⟨Bq, nq, cq, rfl, q, bn, -⟩
  have b11 := b10.trans (bn.mono b10.size)
  clear hb
  have ha := ha.below bn
  have het := het.below bn
  have md := md.below bn
  have vx := vx.below bn
  have p := p.below bn
  clear b10 bn
  rw [told_mul] at q
  have L7 := Lib.hid (lit_one w11 7 (by decide) (by decide))
  go_wp2_with fail
  refine (exp_any (md.below (below_al _ _)) (ha.below (below_al _ _)).nm L7.out da64 d7).mono ?_
  rintro e w12 ⟨Bs, ns, cs, rfl, s, bn, -⟩
  have bn := below_one bn
  have b12 := b11.trans (bn.mono b11.size)
  have ha := ha.below bn
  have het := het.below bn
  have md := md.below bn
  have vx := vx.below bn
  have p := p.below bn
  have q := q.below bn
  clear b11 bn L7
  have L7 := Lib.hid (lit_one w12 7 (by decide) (by decide))
  go_wp2_with fail
  refine (exp_any (md.below (below_al _ _)) (vx.below (below_al _ _)).nm L7.out dx64 d7).mono ?_
  rintro e w13 ⟨Bt, nt, ct, rfl, t, bn, -⟩
  have bn := below_one bn
  have b13 := b12.trans (bn.mono b12.size)
  have ha := ha.below bn
  have het := het.below bn
  have md := md.below bn
  have vx := vx.below bn
  have p := p.below bn
  have q := q.below bn
  have s := s.below bn
  clear b12 bn L7
  rw [told_pow] at t
  go_wp2_with fail
  refine (inverse_any md ha.nm da64 HG.out).mono ?_
  rintro e w14 ⟨U, u0, u1, hu, Bu, nu, cu, rfl, u, bn, -⟩
  have b14 := b13.trans (bn.mono b13.size)
  have ha := ha.below bn
  have het := het.below bn
  have md := md.below bn
  have vx := vx.below bn
  have p := p.below bn
  have q := q.below bn
  have s := s.below bn
  have t := t.below bn
  clear b13 bn
  have HU := Lib.hid hu
  clear hu
  go_wp2_with fail
  refine (inverse_any md vx.nm dx64 (by rw [told_mod]; exact HG.out)).mono ?_
  rintro e w15 ⟨V, v0, v1, hv, Bv, nv, cv, rfl, v, bn, -⟩
  have b15 := b14.trans (bn.mono b14.size)
  have ha := ha.below bn
  have het := het.below bn
  have md := md.below bn
  have vx := vx.below bn
  have p := p.below bn
  have q := q.below bn
  have s := s.below bn
  have t := t.below bn
  have u := u.below bn
  clear b14 bn
  obtain rfl : U = V := inv_uniq (Eqm.iff.2 (told_mod (r : Int)).symm) HU.out hv (by omega) u1 (by omega) v1
  clear hv HU
  go_wp2_with fail
  refine (same_cn p q).mono ?_
  rintro e w16 ⟨rfl, bn⟩
  have b16 := b15.trans (bn.mono b15.size)
  clear p
  clear q
  have ha := ha.below bn
  have het := het.below bn
  have md := md.below bn
  have vx := vx.below bn
  have s := s.below bn
  have t := t.below bn
  have u := u.below bn
  have v := v.below bn
  clear b15 bn
  go_wp2_with fail
  refine (same_cn s t).mono ?_
  rintro e w17 ⟨rfl, bn⟩
  have b17 := b16.trans (bn.mono b16.size)
  clear s
  clear t
  have ha := ha.below bn
  have het := het.below bn
  have md := md.below bn
  have vx := vx.below bn
  have u := u.below bn
  have v := v.below bn
  clear b16 bn
  go_wp2_with fail
  refine (same_cn u v).mono ?_
  rintro e w18 ⟨rfl, bn⟩
  have b18 := b17.trans (bn.mono b17.size)
  clear u
  clear v
  have ha := ha.below bn
  have het := het.below bn
  have md := md.below bn
  have vx := vx.below bn
  clear b17 bn
  go_wp2_with fail
  refine (same_nil _).mono ?_
  rintro e w19 ⟨rfl, bn⟩
  have b19 := b18.trans (bn.mono b18.size)
  have ha := ha.below bn
  have het := het.below bn
  have md := md.below bn
  have vx := vx.below bn
  clear b18 bn
  have G := Lib.hid b19
  clear b19
  go_wp2
  go_ret
  exact ⟨rfl, G.out⟩
set_option maxHeartbeats 8000000 in
set_option maxRecDepth 100000 in
theorem montTold_pno {w : World} {mA : Option Addr} {nm cm : Nat} {zm : List Int} {M : Int} {aA : Option Addr} {na ca : Nat} {za : List Int} {A : Int} {bA : Option Addr} {nb cb : Nat} {zb : List Int} {B : Int} (hm : Ar w mA nm cm zm M) (ha : Ar w aA na ca za A) (hb : Ar w bA nb cb zb B) (lm : nm ≤ 20) (la : na ≤ 20) (lb : nb ≤ 20) (hl : dl M ≤ 32) (ho : M % 2 = 1) (h3 : 3 ≤ M) (i : Int) (i0 : -9223372036854775808 ≤ i) (i1 : i ≤ 9223372036854775807) (hs : 0 ≤ i) (hg : Int.gcd M (A % M) ≠ 1) (het : Et w) :
    Calls Tryd.prog 3 #[.slice mA nm cm, .slice aA na ca, .slice bA nb cb, .int .i64 i] w fun e w' => e = .returned (.bool true) ∧ Below w.heap.size w w' := by
  have HO := Lib.hid ho
  have HG := Lib.hid hg
  clear ho hg
  obtain ⟨r, hr⟩ : ∃ r : Nat, Int.tmod (i) 50 = r := ⟨(Int.tmod (i) 50).toNat, by rw [Int.tmod_eq_emod_of_nonneg (by omega)]; omega⟩
  have hr' : (i) % 50 = r := by rw [Int.tmod_eq_emod_of_nonneg (by omega)] at hr; exact hr
  have r50 : r < 50 := by omega
  obtain ⟨z, hz⟩ : ∃ z : Nat, Int.tmod (r : Int) 4 = z := ⟨(Int.tmod (r : Int) 4).toNat, by rw [Int.tmod_eq_emod_of_nonneg (by omega)]; omega⟩
  have hz' : (r : Int) % 4 = z := by rw [Int.tmod_eq_emod_of_nonneg (by omega)] at hz; exact hz
  have z4 : z < 4 := by omega
  have hru : IntKind.u64.wrap (r : Int) = r := by rw [IntKind.wrap_u64]; omega
  have A0 := ha.nm.pos
  have B0 := hb.nm.pos
  have R0 : (0 : Int) ≤ r := by omega
  have R1 : (r : Int) < 18446744073709551616 := by omega
  have da : dl A ≤ 20 := by have := ha.nm.dl_le; omega
  have da64 : dl A ≤ 64 := by omega
  have db64 : dl B ≤ 64 := by have := hb.nm.dl_le; omega
  have dm : dl M ≤ 20 := by have := hm.nm.dl_le; omega
  have dr1 : dl (r : Int) ≤ 1 := dl_le R0 (by have e : W ^ 1 = 18446744073709551616 := by decide
                                              rw [e]; exact R1)
  have dmr : dl (M * r) ≤ 21 := dl_mul (by omega) R0 dm dr1
  have dx : dl (A + M * r) ≤ 22 := dl_add A0 (Int.mul_nonneg (by omega) R0) (show dl A ≤ 21 by omega) dmr
  have dx64 : dl (A + M * r) ≤ 64 := by omega
  have ra := dr_le A0 da
  have rm := dr_le (show 0 ≤ M by omega) dm
  have rr := dr_le R0 dr1
  have rmr := dr_le (Int.mul_nonneg (show 0 ≤ M by omega) R0) dmr
  have rx := dr_le (Int.add_nonneg A0 (Int.mul_nonneg (show 0 ≤ M by omega) R0)) dx
  have d7 : dl 7 ≤ 64 := dl_small (by decide) (by decide)
  have X0 : 0 ≤ A + M * r := Int.add_nonneg A0 (Int.mul_nonneg (by omega) R0)
  have HXD := Lib.hid (dig_dg W_two X0)
  have HXV := Lib.hid (val_dg W_two X0)
  have ttm : decide ((20 : Int) < (nm : Int)) = false := by simp; omega
  have tta : decide ((20 : Int) < (na : Int)) = false := by simp; omega
  have ttb : decide ((20 : Int) < (nb : Int)) = false := by simp; omega
  have tn : decide (i < 0) = false := by simp; omega
  go_enter Tryd.func3, Tryd.ntmps3
  go_wp2_with fail
  refine (up_any _).mono ?_
  rintro e w1 ⟨rfl, b1⟩
  have hm := hm.below b1
  have ha := ha.below b1
  have hb := hb.below b1
  have het := het.below b1
  go_wp2_with fail
  refine (made_any hm (by omega) hl HO.out h3).mono ?_
  rintro e w2 ⟨b, MA, mc, low, OB, cB, SS, cS, rfl, md, bn⟩
  have b2 := b1.trans (bn.mono b1.size)
  have hm := hm.below bn
  have ha := ha.below bn
  have hb := hb.below bn
  have het := het.below bn
  clear b1 bn
  go_wp2_with fail
  refine (of_ar ha (by omega)).mono ?_
  rintro e w3 ⟨Ba, na2, ca2, rfl, oa, bn⟩
  have b3 := b2.trans (bn.mono b2.size)
  have hm := hm.below bn
  have ha := ha.below bn
  have hb := hb.below bn
  have het := het.below bn
  have md := md.below bn
  clear b2 bn
  go_wp2_with fail
  refine (of_ar hm (by omega)).mono ?_
  rintro e w4 ⟨Bm, nm2, cm2, rfl, om, bn⟩
  have b4 := b3.trans (bn.mono b3.size)
  clear hm
  have ha := ha.below bn
  have hb := hb.below bn
  have het := het.below bn
  have md := md.below bn
  have oa := oa.below bn
  clear b3 bn
  go_wp2_with fail
  refine (of_lit w4 R0 R1).mono ?_
  rintro e w5 ⟨Br, nr, cr, rfl, orr, bn⟩
  have bn := below_one bn
  have b5 := b4.trans (bn.mono b4.size)
  have ha := ha.below bn
  have hb := hb.below bn
  have het := het.below bn
  have md := md.below bn
  have oa := oa.below bn
  have om := om.below bn
  clear b4 bn
  go_wp2_with fail
  refine (rmul_any om orr (by have := om.len_; omega) (by have := orr.len_; omega)).mono ?_
  rintro e w6 ⟨Bt, nt, ct, rfl, ot, bn⟩
  have b6 := b5.trans (bn.mono b5.size)
  clear om
  clear orr
  have ha := ha.below bn
  have hb := hb.below bn
  have het := het.below bn
  have md := md.below bn
  have oa := oa.below bn
  clear b5 bn
  go_wp2_with fail
  refine (radd_any oa ot (by have := oa.len_; omega) (by have := ot.len_; omega)).mono ?_
  rintro e w7 ⟨Bx, nx, cx, rfl, ox, bn⟩
  have b7 := b6.trans (bn.mono b6.size)
  clear oa
  clear ot
  have ha := ha.below bn
  have hb := hb.below bn
  have het := het.below bn
  have md := md.below bn
  clear b6 bn
  go_wp2_with fail
  refine (num_own ox (by have := ox.len_; omega)).mono ?_
  rintro e w8 ⟨vx, mx, rfl, hown, bn⟩
  have hmx : mx ≤ 22 := by have h1 := hown.1; rw [List.length_map, Nat.mul_one] at h1; have h2 : (dg W (A + M * r)).length = dl (A + M * r) := rfl; omega
  have HOWN := Lib.hid hown
  clear hown
  go_wp2_with (at_builtin; refine wpList_zeros _ rfl _ _ 23 3 rfl w7.heap.size 32 .u64 .i64 Tryd.underlying23 Tryd.underlying3 info62u _ _ (dg W (A + M * r)) rfl HOWN.out z ?hx (by omega) ?hb ?_)
  case hx => exact rfl
  case hb => exact bn.size
  intro v' w9 hown' hgrow
  have bn2 := own_below (Below.refl w7.heap.size w7 |>.trans bn) HOWN.out hgrow bn.size (Nat.le_refl _)
  clear bn
  have bn := bn2
  clear bn2
  obtain ⟨XA, xc, rfl, vx⟩ := own_told (n := mx) (m := z) (by rw [List.map_append, List.map_replicate]; exact hown') HXD.out (by omega)
  rw [HXV.out] at vx
  clear hown' hgrow HOWN
  have b9 := b7.trans (bn.mono b7.size)
  clear ox
  have ha := ha.below bn
  have hb := hb.below bn
  have het := het.below bn
  have md := md.below bn
  clear b7 bn
  go_wp2_with fail
  refine (mmul_any md ha.nm hb.nm da64 db64).mono ?_
  rintro e w10 ⟨Bp, np, cp, rfl, p, bn, -⟩
  have b10 := b9.trans (bn.mono b9.size)
  have ha := ha.below bn
  have hb := hb.below bn
  have het := het.below bn
  have md := md.below bn
  have vx := vx.below bn
  clear b9 bn
  go_wp2_with fail
  refine (mmul_any md vx.nm hb.nm dx64 db64).mono ?_
  rintro e w11 ⟨Bq, nq, cq, rfl, q, bn, -⟩
  have b11 := b10.trans (bn.mono b10.size)
  clear hb
  have ha := ha.below bn
  have het := het.below bn
  have md := md.below bn
  have vx := vx.below bn
  have p := p.below bn
  clear b10 bn
  rw [told_mul] at q
  have L7 := Lib.hid (lit_one w11 7 (by decide) (by decide))
  go_wp2_with fail
  refine (exp_any (md.below (below_al _ _)) (ha.below (below_al _ _)).nm L7.out da64 d7).mono ?_
  rintro e w12 ⟨Bs, ns, cs, rfl, s, bn, -⟩
  have bn := below_one bn
  have b12 := b11.trans (bn.mono b11.size)
  have ha := ha.below bn
  have het := het.below bn
  have md := md.below bn
  have vx := vx.below bn
  have p := p.below bn
  have q := q.below bn
  clear b11 bn L7
  have L7 := Lib.hid (lit_one w12 7 (by decide) (by decide))
  go_wp2_with fail
  refine (exp_any (md.below (below_al _ _)) (vx.below (below_al _ _)).nm L7.out dx64 d7).mono ?_
  rintro e w13 ⟨Bt, nt, ct, rfl, t, bn, -⟩
  have bn := below_one bn
  have b13 := b12.trans (bn.mono b12.size)
  have ha := ha.below bn
  have het := het.below bn
  have md := md.below bn
  have vx := vx.below bn
  have p := p.below bn
  have q := q.below bn
  have s := s.below bn
  clear b12 bn L7
  rw [told_pow] at t
  go_wp2_with fail
  refine (inverse_none md ha.nm da64 HG.out).mono ?_
  rintro e w14 ⟨rfl, bn⟩
  have b14 := b13.trans (bn.mono b13.size)
  have ha := ha.below bn
  have het := het.below bn
  have md := md.below bn
  have vx := vx.below bn
  have p := p.below bn
  have q := q.below bn
  have s := s.below bn
  have t := t.below bn
  clear b13 bn
  go_wp2_with fail
  refine (inverse_none md vx.nm dx64 (by rw [told_mod]; exact HG.out)).mono ?_
  rintro e w15 ⟨rfl, bn⟩
  have b15 := b14.trans (bn.mono b14.size)
  have ha := ha.below bn
  have het := het.below bn
  have md := md.below bn
  have vx := vx.below bn
  have p := p.below bn
  have q := q.below bn
  have s := s.below bn
  have t := t.below bn
  clear b14 bn
  go_wp2_with fail
  refine (same_cn p q).mono ?_
  rintro e w16 ⟨rfl, bn⟩
  have b16 := b15.trans (bn.mono b15.size)
  clear p
  clear q
  have ha := ha.below bn
  have het := het.below bn
  have md := md.below bn
  have vx := vx.below bn
  have s := s.below bn
  have t := t.below bn
  clear b15 bn
  go_wp2_with fail
  refine (same_cn s t).mono ?_
  rintro e w17 ⟨rfl, bn⟩
  have b17 := b16.trans (bn.mono b16.size)
  clear s
  clear t
  have ha := ha.below bn
  have het := het.below bn
  have md := md.below bn
  have vx := vx.below bn
  clear b16 bn
  go_wp2_with fail
  refine (same_none _).mono ?_
  rintro e w18 ⟨rfl, bn⟩
  have b18 := b17.trans (bn.mono b17.size)
  have ha := ha.below bn
  have het := het.below bn
  have md := md.below bn
  have vx := vx.below bn
  clear b17 bn
  go_wp2_with fail
  refine (same_code 6 (by decide) (by decide) _ het).mono ?_
  rintro e w19 ⟨rfl, bn⟩
  have b19 := b18.trans (bn.mono b18.size)
  have ha := ha.below bn
  have het := het.below bn
  have md := md.below bn
  have vx := vx.below bn
  clear b18 bn
  have G := Lib.hid b19
  clear b19
  go_wp2
  go_ret
  exact ⟨rfl, G.out⟩
theorem montTold_walk {w : World} {mA : Option Addr} {nm cm : Nat} {zm : List Int} {aA : Option Addr} {na ca : Nat} {za : List Int} {bA : Option Addr} {nb cb : Nat} {zb : List Int} (tm : Told w mA nm cm zm) (ta : Told w aA na ca za) (tb : Told w bA nb cb zb) (i : Int) (hi : -9223372036854775808 ≤ i ∧ i ≤ 9223372036854775807) (het : Et w) :
    Calls Tryd.prog 3 #[.slice mA nm cm, .slice aA na ca, .slice bA nb cb, .int .i64 i] w fun e w' => e = .returned (.bool true) ∧ Below w.heap.size w w' := by
  have hm : Ar w mA nm cm zm (val W zm) := ⟨tm, rfl⟩
  have ha : Ar w aA na ca za (val W za) := ⟨ta, rfl⟩
  have hb : Ar w bA nb cb zb (val W zb) := ⟨tb, rfl⟩
  rcases Nat.lt_or_ge 20 nm with lm | lm
  · exact montTold_over0 hm ha hb  lm i hi.1 hi.2
  rcases Nat.lt_or_ge 20 na with la | la
  · exact montTold_over1 hm ha hb  lm la i hi.1 hi.2
  rcases Nat.lt_or_ge 20 nb with lb | lb
  · exact montTold_over2 hm ha hb  lm la lb i hi.1 hi.2
  have hl : dl (val W zm) ≤ 32 := by have := hm.nm.dl_le; omega
  by_cases he : val W zm % 2 = 0 ∨ val W zm < 3
  · exact montTold_even hm ha hb  lm la lb hl he i hi.1 hi.2
  by_cases hg : Int.gcd (val W zm) (val W za % val W zm) = 1
  · rcases Int.lt_or_le i 0 with hs | hs
    · exact montTold_nyes hm ha hb  lm la lb hl (by omega) (by omega) i hi.1 hi.2 hs hg het
    · exact montTold_pyes hm ha hb  lm la lb hl (by omega) (by omega) i hi.1 hi.2 hs hg het
  · rcases Int.lt_or_le i 0 with hs | hs
    · exact montTold_nno hm ha hb  lm la lb hl (by omega) (by omega) i hi.1 hi.2 hs hg het
    · exact montTold_pno hm ha hb  lm la lb hl (by omega) (by omega) i hi.1 hi.2 hs hg het
end Go.Proofs.YtelhkmgbpcojiaaDoor
