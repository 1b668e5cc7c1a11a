/-
  The walk of NatProducts: the product of any two numbers, and quotient and rest.
-/
import Derived.Test.YtejggejpafpahaaRDiv
import Derived.Test.YtejggejpafpahaaWSums
namespace Go.Proofs.Ytejggejpafpahaa
open Go.RowKit
set_option linter.unusedVariables false
theorem val_take_le {xs : List Int} (hd : Dig W xs) (m : Nat) : val W (xs.take m) ≤ val W xs := by
  conv => rhs; rw [← List.take_append_drop m xs, val_append]
  have h1 := val_nonneg (b := W) (by decide) (xs := xs.drop m) (fun x hx => hd x (List.mem_of_mem_drop hx))
  have h2 := Int.mul_nonneg (Int.le_of_lt (pow_pos' W_two (xs.take m).length)) h1
  omega
/-- cut: at most so many digits as they are told. -/
theorem cut_ar {A : Option Addr} {n c : Nat} {xs : List Int} {N : Int} {w : World} (h : Ar w A n c xs N) :
    Calls Try.prog 23 #[.slice A n c, .int .i64 70] w fun e w' => (∃ m N1, e = .returned (.slice A m c) ∧ m ≤ 70 ∧ Ar w A m c (xs.take m) N1 ∧ N1 ≤ N) ∧ w = w' := by
  have hc := h.told.c60
  have hnc := h.told.nc
  have fin : ∀ m, m ≤ n → m ≤ 70 → ∃ N1, Ar w A m c (xs.take m) N1 ∧ N1 ≤ N := fun m hm h7 =>
    ⟨val W (xs.take m), ⟨⟨h.told.rd.take hm, fun x hx => h.told.dig_ x (List.mem_of_mem_take hx), by omega, by omega⟩, rfl⟩, by rw [← h.val_]; exact val_take_le h.told.dig_ m⟩
  by_cases hn : 70 < n
  · obtain ⟨N1, h1, h2⟩ := fin 70 (by omega) (by omega)
    have H1 := Lib.hid h1
    clear h1 fin
    go_enter Try.func23, Try.ntmps23
    go_wp2
    go_ret
    exact ⟨⟨70, N1, rfl, by omega, H1.out, h2⟩, rfl⟩
  · obtain ⟨N1, h1, h2⟩ := fin n (Nat.le_refl _) (by omega)
    have H1 := Lib.hid h1
    have hn' : n ≤ 70 := by omega
    clear h1 fin hn
    go_enter Try.func23, Try.ntmps23
    go_wp2
    go_ret
    exact ⟨⟨n, N1, rfl, hn', H1.out, h2⟩, rfl⟩
theorem natProducts_long {A A' : Option Addr} {n c n' c' : Nat} {xs ys : List Int} {N M : Int} {w : World} (ha : Ar w A n c xs N) (hb : Ar w A' n' c' ys M) (hl : 64 < dl N ∨ 64 < dl M) :
    Calls Try.prog 4 #[.slice A n c, .slice A' n' c'] w fun e w' => e = .returned (.bool true) ∧ Below w.heap.size w w' := by
  have HL := Lib.hid hl
  clear hl
  have q1 := eql_code 2 2
  by_cases g : 64 < dl N
  · go_enter Try.func4, Try.ntmps4
    go_wp2_with fail
    refine (up_v _).mono ?_
    rintro e w1 ⟨rfl, b1⟩
    go_wp2_with fail
    refine (long_yes (ha.below b1).nm g).mono ?_
    rintro e w2 ⟨rfl, rfl⟩
    go_wp2_with fail
    refine (mul_long (ha.below b1).nm (hb.below b1).nm HL.out).mono ?_
    rintro e w2 ⟨rfl, bn2⟩
    have b2 := b1.trans (bn2.mono b1.size)
    go_wp2_with fail
    refine (div_long (ha.below b2).nm (hb.below b2).nm HL.out).mono ?_
    rintro e w3 ⟨rfl, bn3⟩
    have B3 := Lib.hid (b2.trans (bn3.mono b2.size))
    go_wp2
    go_ret
    exact ⟨rfl, B3.out⟩
  · have g2 : 64 < dl M := by have := HL.out; omega
    have g1 : dl N ≤ 64 := by omega
    clear g
    go_enter Try.func4, Try.ntmps4
    go_wp2_with fail
    refine (up_v _).mono ?_
    rintro e w1 ⟨rfl, b1⟩
    go_wp2_with fail
    refine (long_no (ha.below b1).nm g1).mono ?_
    rintro e w2 ⟨rfl, rfl⟩
    go_wp2_with fail
    refine (long_yes (hb.below b1).nm g2).mono ?_
    rintro e w2 ⟨rfl, rfl⟩
    go_wp2_with fail
    refine (mul_long (ha.below b1).nm (hb.below b1).nm HL.out).mono ?_
    rintro e w2 ⟨rfl, bn2⟩
    have b2 := b1.trans (bn2.mono b1.size)
    go_wp2_with fail
    refine (div_long (ha.below b2).nm (hb.below b2).nm HL.out).mono ?_
    rintro e w3 ⟨rfl, bn3⟩
    have B3 := Lib.hid (b2.trans (bn3.mono b2.size))
    go_wp2
    go_ret
    exact ⟨rfl, B3.out⟩
set_option maxHeartbeats 16000000 in
set_option maxRecDepth 100000 in
theorem natProducts_main {A A' : Option Addr} {n c n' c' : Nat} {xs ys : List Int} {N0 M0 : Int} {w : World} (ha0 : Ar w A n c xs N0) (hb0 : Ar w A' n' c' ys M0) (hl0 : dl N0 ≤ 64) (hl0' : dl M0 ≤ 64) :
    Calls Try.prog 4 #[.slice A n c, .slice A' n' c'] w fun e w' => e = .returned (.bool true) ∧ Below w.heap.size w w' := by
  have q1 := eql_code 4 4
  go_enter Try.func4, Try.ntmps4
  go_wp2_with fail
  refine (up_v _).mono ?_
  rintro e w1 ⟨rfl, b1⟩
  go_wp2_with fail
  refine (long_no (ha0.below b1).nm hl0).mono ?_
  rintro e w2 ⟨rfl, rfl⟩
  go_wp2_with fail
  refine (long_no (hb0.below b1).nm hl0').mono ?_
  rintro e w2 ⟨rfl, rfl⟩
  go_wp2_with fail
  refine (cut_ar (ha0.below b1)).mono ?_
  rintro e w2 ⟨⟨m, N, rfl, hm, ha, hle⟩, rfl⟩
  go_wp2_with fail
  refine (cut_ar (hb0.below b1)).mono ?_
  rintro e w2 ⟨⟨m', M, rfl, hm', hb, hle'⟩, rfl⟩
  have n0 := ha.nm.pos
  have m0 := hb.nm.pos
  have hl : dl N ≤ 64 := by have := dl_mono n0 hle; omega
  have hl' : dl M ≤ 64 := by have := dl_mono m0 hle'; omega
  have rn := dr_le n0 hl
  have rm := dr_le m0 hl'
  have lp := dl_mul n0 m0 hl hl'
  have rp := dr_le (Int.mul_nonneg n0 m0) lp
  clear hle hle' ha0 hb0 hl0 hl0'
  go_wp2_with fail
  refine (copied_ar ha (by omega)).mono ?_
  rintro e w2 ⟨Bx, cx, rfl, vx, bn2⟩
  have b2 := b1.trans (bn2.mono b1.size)
  have ha := ha.below bn2
  have hb := hb.below bn2
  clear b1 bn2
  go_wp2_with fail
  refine (copied_ar hb (by omega)).mono ?_
  rintro e w3 ⟨By, cy, rfl, vy, bn3⟩
  have b3 := b2.trans (bn3.mono b2.size)
  have ha := ha.below bn3
  have hb := hb.below bn3
  have vx := vx.below bn3
  clear b2 bn3
  go_wp2_with fail
  refine (mul_any vx.nm vy.nm hl hl').mono ?_
  rintro e w4 ⟨Bs, ms, cs, rfl, vs, bn4, -⟩
  have b4 := b3.trans (bn4.mono b3.size)
  have ha := ha.below bn4
  have hb := hb.below bn4
  have vx := vx.below bn4
  have vy := vy.below bn4
  clear b3 bn4
  rcases Int.lt_or_le 0 M with hM | hM
  · have hmz : dr M ≠ 0 := fun e => by have := (dg_nil_iff D_two m0).1 e; omega
    go_wp2_with fail
    refine (div_any vx.nm vy.nm hl hl' hM).mono ?_
    rintro e w5 ⟨Bd, md, cd, Be, me, ce, rfl, vd, ve, bn5, -, -⟩
    have b5 := b4.trans (bn5.mono b4.size)
    have ha := ha.below bn5
    have hb := hb.below bn5
    have vx := vx.below bn5
    have vy := vy.below bn5
    have vs := vs.below bn5
    clear b4 bn5
    go_wp2_with fail
    refine (same_told vx.told ha.told).mono ?_
    rintro e w6 ⟨rfl, bn6⟩
    have b6 := b5.trans (bn6.mono b5.size)
    have ha := ha.below bn6
    have hb := hb.below bn6
    have vx := vx.below bn6
    have vy := vy.below bn6
    have vs := vs.below bn6
    have vd := vd.below bn6
    have ve := ve.below bn6
    clear b5 bn6
    go_wp2_with fail
    refine (same_told vy.told hb.told).mono ?_
    rintro e w7 ⟨rfl, bn7⟩
    have b7 := b6.trans (bn7.mono b6.size)
    have ha := ha.below bn7
    have hb := hb.below bn7
    have vx := vx.below bn7
    have vy := vy.below bn7
    have vs := vs.below bn7
    have vd := vd.below bn7
    have ve := ve.below bn7
    clear b6 bn7
    clear vx vy
    go_wp2_with fail
    refine (of_ar ha (by omega)).mono ?_
    rintro e w8 ⟨Bp, mp, cp, rfl, vp, bn8⟩
    have b8 := b7.trans (bn8.mono b7.size)
    have ha := ha.below bn8
    have hb := hb.below bn8
    have vs := vs.below bn8
    have vd := vd.below bn8
    have ve := ve.below bn8
    clear b7 bn8
    have zp : mp ≤ 1000 := by have := vp.len_; omega
    go_wp2_with fail
    refine (of_ar hb (by omega)).mono ?_
    rintro e w9 ⟨Bq, mq, cq, rfl, vq, bn9⟩
    have b9 := b8.trans (bn9.mono b8.size)
    have ha := ha.below bn9
    have hb := hb.below bn9
    have vs := vs.below bn9
    have vd := vd.below bn9
    have ve := ve.below bn9
    have vp := vp.below bn9
    clear b8 bn9
    have zq : mq ≤ 1000 := by have := vq.len_; omega
    go_wp2_with fail
    refine (rmul_any vp vq (by omega) (by omega)).mono ?_
    rintro e w10 ⟨Br, mr, cr, rfl, vr, bn10⟩
    have b10 := b9.trans (bn10.mono b9.size)
    have ha := ha.below bn10
    have hb := hb.below bn10
    have vs := vs.below bn10
    have vd := vd.below bn10
    have ve := ve.below bn10
    have vp := vp.below bn10
    have vq := vq.below bn10
    clear b9 bn10
    have zr : mr ≤ 100000 := by have := vr.len_; omega
    go_wp2_with fail
    refine (to_any vr zr).mono ?_
    rintro e w11 ⟨Bt, mt, ct, rfl, vt, bn11⟩
    have b11 := b10.trans (bn11.mono b10.size)
    have ha := ha.below bn11
    have hb := hb.below bn11
    have vs := vs.below bn11
    have vd := vd.below bn11
    have ve := ve.below bn11
    have vp := vp.below bn11
    have vq := vq.below bn11
    clear b10 bn11
    go_wp2_with fail
    refine (same_rd vs.rd vt vs.c60).mono ?_
    rintro e w12 ⟨rfl, bn12⟩
    have b12 := b11.trans (bn12.mono b11.size)
    have ha := ha.below bn12
    have hb := hb.below bn12
    have vs := vs.below bn12
    have vd := vd.below bn12
    have ve := ve.below bn12
    have vp := vp.below bn12
    have vq := vq.below bn12
    clear b11 bn12
    clear vs vt vr ha hb
    have hq0 : ((mq : Int) == 0) = false := by have := vq.len_; simp; omega
    by_cases hbig : 80 < mp
    · have BB := Lib.hid b12
      go_wp2
      go_ret
      exact ⟨rfl, BB.out⟩
    · have hbig' : mp ≤ 80 := by omega
      clear hbig
      go_wp2_with fail
      refine (rdiv_any vp vq zp zq hM).mono ?_
      rintro e w13 ⟨Bf, mf, cf, Bg, mg, cg, rfl, vf', vg, bn13⟩
      have b13 := b12.trans (bn13.mono b12.size)
      have vd := vd.below bn13
      have ve := ve.below bn13
      clear b12 bn13
      have q0 : 0 ≤ N / M := vf'.pos
      have r0 : 0 ≤ N % M := vg.pos
      have zf : mf ≤ 100000 := by have := vf'.len_; have := dr_mono q0 (Int.ediv_le_self M n0); omega
      have zg : mg ≤ 100000 := by have := vg.len_; have := dr_mono r0 (show N % M ≤ M from Int.le_of_lt (Int.emod_lt_of_pos N hM)); omega
      go_wp2_with fail
      refine (to_any vf' zf).mono ?_
      rintro e w14 ⟨Bh, mh, ch, rfl, vh, bn14⟩
      have b14 := b13.trans (bn14.mono b13.size)
      have vd := vd.below bn14
      have ve := ve.below bn14
      have vg := vg.below bn14
      clear b13 bn14
      go_wp2_with fail
      refine (same_rd vd.rd vh vd.c60).mono ?_
      rintro e w15 ⟨rfl, bn15⟩
      have b15 := b14.trans (bn15.mono b14.size)
      have ve := ve.below bn15
      have vg := vg.below bn15
      clear b14 bn15
      go_wp2_with fail
      refine (to_any vg zg).mono ?_
      rintro e w16 ⟨Bi, mi, ci, rfl, vi, bn16⟩
      have b16 := b15.trans (bn16.mono b15.size)
      have ve := ve.below bn16
      clear b15 bn16
      go_wp2_with fail
      refine (same_rd ve.rd vi ve.c60).mono ?_
      rintro e w17 ⟨rfl, bn17⟩
      have b17 := b16.trans (bn17.mono b16.size)
      clear b16 bn17
      have BB := Lib.hid b17
      go_wp2
      go_ret
      exact ⟨rfl, BB.out⟩
  · obtain rfl : M = 0 := by omega
    go_wp2_with fail
    refine (div_none vx.nm vy.nm hl).mono ?_
    rintro e w5 ⟨rfl, bn5⟩
    have b5 := b4.trans (bn5.mono b4.size)
    have ha := ha.below bn5
    have hb := hb.below bn5
    have vx := vx.below bn5
    have vy := vy.below bn5
    have vs := vs.below bn5
    clear b4 bn5
    go_wp2_with fail
    refine (same_told vx.told ha.told).mono ?_
    rintro e w6 ⟨rfl, bn6⟩
    have b6 := b5.trans (bn6.mono b5.size)
    have ha := ha.below bn6
    have hb := hb.below bn6
    have vx := vx.below bn6
    have vy := vy.below bn6
    have vs := vs.below bn6
    clear b5 bn6
    go_wp2_with fail
    refine (same_told vy.told hb.told).mono ?_
    rintro e w7 ⟨rfl, bn7⟩
    have b7 := b6.trans (bn7.mono b6.size)
    have ha := ha.below bn7
    have hb := hb.below bn7
    have vx := vx.below bn7
    have vy := vy.below bn7
    have vs := vs.below bn7
    clear b6 bn7
    clear vx vy
    go_wp2_with fail
    refine (of_ar ha (by omega)).mono ?_
    rintro e w8 ⟨Bp, mp, cp, rfl, vp, bn8⟩
    have b8 := b7.trans (bn8.mono b7.size)
    have ha := ha.below bn8
    have hb := hb.below bn8
    have vs := vs.below bn8
    clear b7 bn8
    have zp : mp ≤ 1000 := by have := vp.len_; omega
    go_wp2_with fail
    refine (of_ar hb (by omega)).mono ?_
    rintro e w9 ⟨Bq, mq, cq, rfl, vq, bn9⟩
    have b9 := b8.trans (bn9.mono b8.size)
    have ha := ha.below bn9
    have hb := hb.below bn9
    have vs := vs.below bn9
    have vp := vp.below bn9
    clear b8 bn9
    have zq : mq ≤ 1000 := by have := vq.len_; omega
    go_wp2_with fail
    refine (rmul_any vp vq (by omega) (by omega)).mono ?_
    rintro e w10 ⟨Br, mr, cr, rfl, vr, bn10⟩
    have b10 := b9.trans (bn10.mono b9.size)
    have ha := ha.below bn10
    have hb := hb.below bn10
    have vs := vs.below bn10
    have vp := vp.below bn10
    have vq := vq.below bn10
    clear b9 bn10
    have zr : mr ≤ 100000 := by have := vr.len_; omega
    go_wp2_with fail
    refine (to_any vr zr).mono ?_
    rintro e w11 ⟨Bt, mt, ct, rfl, vt, bn11⟩
    have b11 := b10.trans (bn11.mono b10.size)
    have ha := ha.below bn11
    have hb := hb.below bn11
    have vs := vs.below bn11
    have vp := vp.below bn11
    have vq := vq.below bn11
    clear b10 bn11
    go_wp2_with fail
    refine (same_rd vs.rd vt vs.c60).mono ?_
    rintro e w12 ⟨rfl, bn12⟩
    have b12 := b11.trans (bn12.mono b11.size)
    have ha := ha.below bn12
    have hb := hb.below bn12
    have vs := vs.below bn12
    have vp := vp.below bn12
    have vq := vq.below bn12
    clear b11 bn12
    clear vs vt vr ha hb
    obtain rfl : mq = 0 := by have := vq.len_; rw [this]; unfold dr; rw [dg_zero]; rfl
    have BB := Lib.hid b12
    go_wp2
    go_ret
    exact ⟨rfl, BB.out⟩
theorem natProducts_walk {A A' : Option Addr} {n c n' c' : Nat} {xs ys : List Int} {w : World} (ha : Told w A n c xs) (hb : Told w A' n' c' ys) :
    Calls Try.prog 4 #[.slice A n c, .slice A' n' c'] w fun e w' => e = .returned (.bool true) ∧ Below w.heap.size w w' := by
  have a1 : Ar w A n c xs (val W xs) := ⟨ha, rfl⟩
  have a2 : Ar w A' n' c' ys (val W ys) := ⟨hb, rfl⟩
  by_cases hl : 64 < dl (val W xs) ∨ 64 < dl (val W ys)
  · exact natProducts_long a1 a2 hl
  · exact natProducts_main a1 a2 (by omega) (by omega)
end Go.Proofs.Ytejggejpafpahaa
