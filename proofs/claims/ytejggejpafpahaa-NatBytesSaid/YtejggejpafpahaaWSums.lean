/-
  The walk of NatSums: the sum and the difference of any two numbers, however they are told; what is handed in stays.
-/
import Derived.Test.YtejggejpafpahaaCopied
import Derived.Test.YtejggejpafpahaaWOrders
namespace Go.Proofs.Ytejggejpafpahaa
open Go.RowKit
set_option linter.unusedVariables false
/-- What is known of an argument, under one name for its number. -/
structure Ar (w : World) (A : Option Addr) (n c : Nat) (xs : List Int) (N : Int) : Prop where
  told : Told w A n c xs
  val_ : val W xs = N
theorem Ar.below {w w' : World} {A : Option Addr} {n c : Nat} {xs : List Int} {N : Int} (h : Ar w A n c xs N) (hb : Below w.heap.size w w') : Ar w' A n c xs N := ⟨h.told.below hb, h.val_⟩
theorem Ar.nm {w : World} {A : Option Addr} {n c : Nat} {xs : List Int} {N : Int} (h : Ar w A n c xs N) : Nm w A n c N := by have := h.told.nm; rw [h.val_] at this; exact this
theorem of_ar {A : Option Addr} {n c : Nat} {xs : List Int} {N : Int} {w : World} (h : Ar w A n c xs N) (hn : n ≤ 1000) : Calls Try.prog 16 #[.slice A n c] w (AnsN N w) := by
  have := of_v h.told hn; rw [h.val_] at this; exact this
theorem copied_ar {A : Option Addr} {n c : Nat} {xs : List Int} {N : Int} {w : World} (h : Ar w A n c xs N) (hn : n ≤ 100000) :
    Calls Try.prog 11 #[.slice A n c] w fun e w' => ∃ B cap, e = .returned (.slice B n cap) ∧ Ar w' B n cap xs N ∧ Below w.heap.size w w' :=
  (copied_any h.told hn).mono fun e w' ⟨B, cap, he, ht, hb⟩ => ⟨B, cap, he, ⟨ht, h.val_⟩, hb⟩

set_option maxHeartbeats 8000000 in
set_option maxRecDepth 100000 in
theorem natSums_long {A A' : Option Addr} {n c n' c' : Nat} {xs ys : List Int} {N M : Int} {w : World} (ha : Ar w A n c xs N) (hb : Ar w A' n' c' ys M) (h1 : n ≤ 200) (h2 : n' ≤ 200) (hl : 64 < dl N ∨ 64 < dl M) :
    Calls Try.prog 3 #[.slice A n c, .slice A' n' c'] w fun e w' => e = .returned (.bool true) ∧ Below w.heap.size w w' := by
  have HL := Lib.hid hl
  clear hl
  have q1 := eql_code 2 2
  go_enter Try.func3, Try.ntmps3
  go_wp2_with fail
  refine (up_v _).mono ?_
  rintro e w1 ⟨rfl, b1⟩
  go_wp2_with fail
  refine (copied_ar (ha.below b1) (by omega)).mono ?_
  rintro e w2 ⟨Bx, cx, rfl, vx, bn2⟩
  have b2 := b1.trans (bn2.mono b1.size)
  clear b1 bn2
  go_wp2_with fail
  refine (copied_ar (hb.below b2) (by omega)).mono ?_
  rintro e w3 ⟨By, cy, rfl, vy, bn3⟩
  have b3 := b2.trans (bn3.mono b2.size)
  have vx := vx.below bn3
  clear b2 bn3
  go_wp2_with fail
  refine (add_long vx.nm vy.nm HL.out).mono ?_
  rintro e w4 ⟨rfl, bn4⟩
  have b4 := b3.trans (bn4.mono b3.size)
  have vx := vx.below bn4
  have vy := vy.below bn4
  clear b3 bn4
  go_wp2_with fail
  refine (sub_long vx.nm vy.nm HL.out).mono ?_
  rintro e w5 ⟨rfl, bn5⟩
  have b5 := b4.trans (bn5.mono b4.size)
  have vx := vx.below bn5
  have vy := vy.below bn5
  clear b4 bn5
  go_wp2_with fail
  refine (same_told vx.told (ha.below b5).told).mono ?_
  rintro e w6 ⟨rfl, bn6⟩
  have b6 := b5.trans (bn6.mono b5.size)
  have vx := vx.below bn6
  have vy := vy.below bn6
  clear b5 bn6
  go_wp2_with fail
  refine (same_told vy.told (hb.below b6).told).mono ?_
  rintro e w7 ⟨rfl, bn7⟩
  have b7 := b6.trans (bn7.mono b6.size)
  have vx := vx.below bn7
  have vy := vy.below bn7
  clear b6 bn7
  have B7 := Lib.hid b7
  rcases HL.out with g | g
  · go_wp2_with fail
    refine (long_yes (ha.below b7).nm g).mono ?_
    rintro e w8 ⟨rfl, rfl⟩
    go_wp2
    go_ret
    exact ⟨rfl, B7.out⟩
  · rcases Nat.lt_or_ge 64 (dl N) with g2 | g2
    · go_wp2_with fail
      refine (long_yes (ha.below b7).nm g2).mono ?_
      rintro e w8 ⟨rfl, rfl⟩
      go_wp2
      go_ret
      exact ⟨rfl, B7.out⟩
    · go_wp2_with fail
      refine (long_no (ha.below b7).nm g2).mono ?_
      rintro e w8 ⟨rfl, rfl⟩
      go_wp2_with fail
      refine (long_yes (hb.below b7).nm g).mono ?_
      rintro e w8 ⟨rfl, rfl⟩
      go_wp2
      go_ret
      exact ⟨rfl, B7.out⟩
set_option maxHeartbeats 8000000 in
set_option maxRecDepth 100000 in
theorem natSums_less {A A' : Option Addr} {n c n' c' : Nat} {xs ys : List Int} {N M : Int} {w : World} (ha : Ar w A n c xs N) (hb : Ar w A' n' c' ys M) (h1 : n ≤ 200) (h2 : n' ≤ 200) (hl : dl N ≤ 64) (hl' : dl M ≤ 64) (hNM : N < M) :
    Calls Try.prog 3 #[.slice A n c, .slice A' n' c'] w fun e w' => e = .returned (.bool true) ∧ Below w.heap.size w w' := by
  have q1 := eql_code 3 3
  have q2 : decide (cmpI N M < 0) = true := by rw [cmpI_lt hNM]; rfl
  have n0 := ha.nm.pos
  have m0 := hb.nm.pos
  have rn := dr_le n0 hl
  have rm := dr_le m0 hl'
  have ls := dl_add n0 m0 hl hl'
  have rs := dr_le (Int.add_nonneg n0 m0) ls
  go_enter Try.func3, Try.ntmps3
  go_wp2_with fail
  refine (up_v _).mono ?_
  rintro e w1 ⟨rfl, b1⟩
  go_wp2_with fail
  refine (copied_ar (ha.below b1) (by omega)).mono ?_
  rintro e w2 ⟨Bx, cx, rfl, vx, bn2⟩
  have b2 := b1.trans (bn2.mono b1.size)
  clear b1 bn2
  go_wp2_with fail
  refine (copied_ar (hb.below b2) (by omega)).mono ?_
  rintro e w3 ⟨By, cy, rfl, vy, bn3⟩
  have b3 := b2.trans (bn3.mono b2.size)
  have vx := vx.below bn3
  clear b2 bn3
  go_wp2_with fail
  refine (add_any vx.nm vy.nm hl hl').mono ?_
  rintro e w4 ⟨Bs, ms, cs, rfl, vs, bn4, -⟩
  have b4 := b3.trans (bn4.mono b3.size)
  have vx := vx.below bn4
  have vy := vy.below bn4
  clear b3 bn4
  go_wp2_with fail
  refine (sub_less vx.nm vy.nm hl hl' hNM).mono ?_
  rintro e w5 ⟨rfl, bn5⟩
  have b5 := b4.trans (bn5.mono b4.size)
  have vx := vx.below bn5
  have vy := vy.below bn5
  have vs := vs.below bn5
  clear b4 bn5
  go_wp2_with fail
  refine (same_told vx.told (ha.below b5).told).mono ?_
  rintro e w6 ⟨rfl, bn6⟩
  have b6 := b5.trans (bn6.mono b5.size)
  have vx := vx.below bn6
  have vy := vy.below bn6
  have vs := vs.below bn6
  clear b5 bn6
  go_wp2_with fail
  refine (same_told vy.told (hb.below b6).told).mono ?_
  rintro e w7 ⟨rfl, bn7⟩
  have b7 := b6.trans (bn7.mono b6.size)
  have vx := vx.below bn7
  have vy := vy.below bn7
  have vs := vs.below bn7
  clear b6 bn7
  clear vx vy
  go_wp2_with fail
  refine (long_no (ha.below b7).nm hl).mono ?_
  rintro e w8 ⟨rfl, rfl⟩
  go_wp2_with fail
  refine (long_no (hb.below b7).nm hl').mono ?_
  rintro e w8 ⟨rfl, rfl⟩
  go_wp2_with fail
  refine (of_ar (ha.below b7) (by omega)).mono ?_
  rintro e w8 ⟨Bp, mp, cp, rfl, vp, bn8⟩
  have b8 := b7.trans (bn8.mono b7.size)
  have vs := vs.below bn8
  clear b7 bn8
  have zp : mp ≤ 100000 := by have := vp.len_; omega
  go_wp2_with fail
  refine (of_ar (hb.below b8) (by omega)).mono ?_
  rintro e w9 ⟨Bq, mq, cq, rfl, vq, bn9⟩
  have b9 := b8.trans (bn9.mono b8.size)
  have vs := vs.below bn9
  have vp := vp.below bn9
  clear b8 bn9
  have zq : mq ≤ 100000 := by have := vq.len_; omega
  go_wp2_with fail
  refine (radd_any vp vq zp zq).mono ?_
  rintro e w10 ⟨Br, mr, cr, rfl, vr, bn10⟩
  have b10 := b9.trans (bn10.mono b9.size)
  have vs := vs.below bn10
  have vp := vp.below bn10
  have vq := vq.below bn10
  clear b9 bn10
  have zr : mr ≤ 100000 := by have := vr.len_; omega
  go_wp2_with fail
  refine (to_any vr zr).mono ?_
  rintro e w11 ⟨Bt, mt, ct, rfl, vt, bn11⟩
  have b11 := b10.trans (bn11.mono b10.size)
  have vs := vs.below bn11
  have vp := vp.below bn11
  have vq := vq.below bn11
  clear b10 bn11
  go_wp2_with fail
  refine (same_rd vs.rd vt vs.c60).mono ?_
  rintro e w12 ⟨rfl, bn12⟩
  have b12 := b11.trans (bn12.mono b11.size)
  have vs := vs.below bn12
  have vp := vp.below bn12
  have vq := vq.below bn12
  clear b11 bn12
  clear vs vt vr
  go_wp2_with fail
  refine (rcmp_v vp vq zp zq).mono ?_
  rintro e w13 ⟨rfl, bn13⟩
  have b13 := b12.trans (bn13.mono b12.size)
  have vp := vp.below bn13
  have vq := vq.below bn13
  clear b12 bn13
  have B13 := Lib.hid b13
  go_wp2
  go_ret
  exact ⟨rfl, B13.out⟩
set_option maxHeartbeats 8000000 in
set_option maxRecDepth 100000 in
theorem natSums_more {A A' : Option Addr} {n c n' c' : Nat} {xs ys : List Int} {N M : Int} {w : World} (ha : Ar w A n c xs N) (hb : Ar w A' n' c' ys M) (h1 : n ≤ 200) (h2 : n' ≤ 200) (hl : dl N ≤ 64) (hl' : dl M ≤ 64) (hNM : M ≤ N) :
    Calls Try.prog 3 #[.slice A n c, .slice A' n' c'] w fun e w' => e = .returned (.bool true) ∧ Below w.heap.size w w' := by
  have q2 : decide (cmpI N M < 0) = false := by
    rcases Int.lt_or_eq_of_le hNM with g | g
    · rw [cmpI_gt g]; rfl
    · rw [g, cmpI_eq]; rfl
  have d0 : 0 ≤ N - M := by omega
  have ld : dl (N - M) ≤ 64 := by have := dl_mono d0 (show N - M ≤ N by have := hb.nm.pos; omega); omega
  have rd := dr_le d0 ld
  have n0 := ha.nm.pos
  have m0 := hb.nm.pos
  have rn := dr_le n0 hl
  have rm := dr_le m0 hl'
  have ls := dl_add n0 m0 hl hl'
  have rs := dr_le (Int.add_nonneg n0 m0) ls
  go_enter Try.func3, Try.ntmps3
  go_wp2_with fail
  refine (up_v _).mono ?_
  rintro e w1 ⟨rfl, b1⟩
  go_wp2_with fail
  refine (copied_ar (ha.below b1) (by omega)).mono ?_
  rintro e w2 ⟨Bx, cx, rfl, vx, bn2⟩
  have b2 := b1.trans (bn2.mono b1.size)
  clear b1 bn2
  go_wp2_with fail
  refine (copied_ar (hb.below b2) (by omega)).mono ?_
  rintro e w3 ⟨By, cy, rfl, vy, bn3⟩
  have b3 := b2.trans (bn3.mono b2.size)
  have vx := vx.below bn3
  clear b2 bn3
  go_wp2_with fail
  refine (add_any vx.nm vy.nm hl hl').mono ?_
  rintro e w4 ⟨Bs, ms, cs, rfl, vs, bn4, -⟩
  have b4 := b3.trans (bn4.mono b3.size)
  have vx := vx.below bn4
  have vy := vy.below bn4
  clear b3 bn4
  go_wp2_with fail
  refine (sub_any vx.nm vy.nm hl hl' hNM).mono ?_
  rintro e w5 ⟨Bd, md, cd, rfl, vd, bn5, -⟩
  have b5 := b4.trans (bn5.mono b4.size)
  have vx := vx.below bn5
  have vy := vy.below bn5
  have vs := vs.below bn5
  clear b4 bn5
  go_wp2_with fail
  refine (same_told vx.told (ha.below b5).told).mono ?_
  rintro e w6 ⟨rfl, bn6⟩
  have b6 := b5.trans (bn6.mono b5.size)
  have vx := vx.below bn6
  have vy := vy.below bn6
  have vs := vs.below bn6
  have vd := vd.below bn6
  clear b5 bn6
  go_wp2_with fail
  refine (same_told vy.told (hb.below b6).told).mono ?_
  rintro e w7 ⟨rfl, bn7⟩
  have b7 := b6.trans (bn7.mono b6.size)
  have vx := vx.below bn7
  have vy := vy.below bn7
  have vs := vs.below bn7
  have vd := vd.below bn7
  clear b6 bn7
  clear vx vy
  go_wp2_with fail
  refine (long_no (ha.below b7).nm hl).mono ?_
  rintro e w8 ⟨rfl, rfl⟩
  go_wp2_with fail
  refine (long_no (hb.below b7).nm hl').mono ?_
  rintro e w8 ⟨rfl, rfl⟩
  go_wp2_with fail
  refine (of_ar (ha.below b7) (by omega)).mono ?_
  rintro e w8 ⟨Bp, mp, cp, rfl, vp, bn8⟩
  have b8 := b7.trans (bn8.mono b7.size)
  have vs := vs.below bn8
  have vd := vd.below bn8
  clear b7 bn8
  have zp : mp ≤ 100000 := by have := vp.len_; omega
  go_wp2_with fail
  refine (of_ar (hb.below b8) (by omega)).mono ?_
  rintro e w9 ⟨Bq, mq, cq, rfl, vq, bn9⟩
  have b9 := b8.trans (bn9.mono b8.size)
  have vs := vs.below bn9
  have vd := vd.below bn9
  have vp := vp.below bn9
  clear b8 bn9
  have zq : mq ≤ 100000 := by have := vq.len_; omega
  go_wp2_with fail
  refine (radd_any vp vq zp zq).mono ?_
  rintro e w10 ⟨Br, mr, cr, rfl, vr, bn10⟩
  have b10 := b9.trans (bn10.mono b9.size)
  have vs := vs.below bn10
  have vd := vd.below bn10
  have vp := vp.below bn10
  have vq := vq.below bn10
  clear b9 bn10
  have zr : mr ≤ 100000 := by have := vr.len_; omega
  go_wp2_with fail
  refine (to_any vr zr).mono ?_
  rintro e w11 ⟨Bt, mt, ct, rfl, vt, bn11⟩
  have b11 := b10.trans (bn11.mono b10.size)
  have vs := vs.below bn11
  have vd := vd.below bn11
  have vp := vp.below bn11
  have vq := vq.below bn11
  clear b10 bn11
  go_wp2_with fail
  refine (same_rd vs.rd vt vs.c60).mono ?_
  rintro e w12 ⟨rfl, bn12⟩
  have b12 := b11.trans (bn12.mono b11.size)
  have vs := vs.below bn12
  have vd := vd.below bn12
  have vp := vp.below bn12
  have vq := vq.below bn12
  clear b11 bn12
  clear vs vt vr
  go_wp2_with fail
  refine (rcmp_v vp vq zp zq).mono ?_
  rintro e w13 ⟨rfl, bn13⟩
  have b13 := b12.trans (bn13.mono b12.size)
  have vp := vp.below bn13
  have vq := vq.below bn13
  have vd := vd.below bn13
  clear b12 bn13
  go_wp2_with fail
  refine (rsub_any vp vq zp hNM).mono ?_
  rintro e w14 ⟨Bu, mu, cu, rfl, vu, bn14⟩
  have b14 := b13.trans (bn14.mono b13.size)
  have vd := vd.below bn14
  clear b13 bn14
  have zu : mu ≤ 100000 := by have := vu.len_; omega
  go_wp2_with fail
  refine (to_any vu zu).mono ?_
  rintro e w15 ⟨Bv, mv, cv, rfl, vv, bn15⟩
  have b15 := b14.trans (bn15.mono b14.size)
  have vd := vd.below bn15
  clear b14 bn15
  go_wp2_with fail
  refine (same_rd vd.rd vv vd.c60).mono ?_
  rintro e w16 ⟨rfl, bn16⟩
  have b16 := b15.trans (bn16.mono b15.size)
  clear b15 bn16
  have B16 := Lib.hid b16
  go_wp2
  go_ret
  exact ⟨rfl, B16.out⟩
theorem natSums_walk {A A' : Option Addr} {n c n' c' : Nat} {xs ys : List Int} {w : World} (ha : Told w A n c xs) (hb : Told w A' n' c' ys) :
    Calls Try.prog 3 #[.slice A n c, .slice A' n' c'] w fun e w' => e = .returned (.bool true) ∧ Below w.heap.size w w' := by
  have na := ha.c60
  have nb' := hb.c60
  by_cases h1 : 200 < n
  · go_enter Try.func3, Try.ntmps3
    go_wp2_with fail
    refine (up_v _).mono ?_
    rintro e w1 ⟨rfl, b1⟩
    go_wp2
    go_ret
    exact ⟨rfl, b1⟩
  · by_cases h2 : 200 < n'
    · go_enter Try.func3, Try.ntmps3
      go_wp2_with fail
      refine (up_v _).mono ?_
      rintro e w1 ⟨rfl, b1⟩
      go_wp2
      go_ret
      exact ⟨rfl, b1⟩
    · have a1 : Ar w A n c xs (val W xs) := ⟨ha, rfl⟩
      have a2 : Ar w A' n' c' ys (val W ys) := ⟨hb, rfl⟩
      by_cases hl : 64 < dl (val W xs) ∨ 64 < dl (val W ys)
      · exact natSums_long a1 a2 (by omega) (by omega) hl
      · rcases Int.lt_or_le (val W xs) (val W ys) with g | g
        · exact natSums_less a1 a2 (by omega) (by omega) (by omega) (by omega) g
        · exact natSums_more a1 a2 (by omega) (by omega) (by omega) (by omega) g
end Go.Proofs.Ytejggejpafpahaa
