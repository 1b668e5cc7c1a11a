/-
  A digit of a quotient: guessDigit, takeDigit.
-/
import Derived.Test.YtloajnaphenbjaaGreatDoorTimes
import Derived.Test.YtloajnaphenbjaaGreatDoorMul
import Derived.Test.YtloajnaphenbjaaGreatDoorDiv64
import Derived.Deep.CutBlock
import Derived.Deep.DeepCutAuto
namespace Go.Proofs.YtloajnaphenbjaaGreatDoor
open Go.RowKit
set_option linter.unusedVariables false
/-- The guess. -/
def gss (high low top : Int) : Int := if top ≤ high then 18446744073709551615 else (high * W + low) / top
theorem guess_any (high low top : Int) (w : World) (h0 : 0 ≤ high) (h1 : high < 18446744073709551616) (l0 : 0 ≤ low) (l1 : low < 18446744073709551616) (t0 : 9223372036854775808 ≤ top) (t1 : top < 18446744073709551616) :
    Calls Tryz.prog 119 #[.int .u64 high, .int .u64 low, .int .u64 top] w fun e w' => e = .returned (.int .u64 (gss high low top)) ∧ ∃ m, w' = w.drewN m := by
  unfold gss
  by_cases h : top ≤ high
  · rw [if_pos h]
    go_enter Tryz.func119, Tryz.ntmps119
    go_wp2
    go_ret
    exact ⟨rfl, 0, rfl⟩
  · rw [if_neg h]
    have h' : high < top := by omega
    clear h
    go_enter Tryz.func119, Tryz.ntmps119
    go_wp2_with fail
    refine (div64_any high low top _ h0 h' l0 l1 t0 t1).mono ?_
    rintro e w1 ⟨⟨r, rfl⟩, m, rfl⟩
    go_wp2
    go_ret
    exact ⟨rfl, m, rfl⟩
theorem gss_bd {high low top : Int} (h0 : 0 ≤ high) (l0 : 0 ≤ low) (l1 : low < 18446744073709551616) (t0 : 9223372036854775808 ≤ top) : 0 ≤ gss high low top ∧ gss high low top < 18446744073709551616 := by
  unfold gss
  split
  · exact ⟨by decide, by decide⟩
  · have hW : W = 18446744073709551616 := rfl
    have : 0 ≤ high * W + low := by rw [hW]; omega
    refine ⟨Int.ediv_nonneg this (by omega), Int.ediv_lt_of_lt_mul (by omega) ?_⟩
    rw [hW]; omega
/-- The guess isn't too small. -/
theorem gss_ge {high low top u v : Int} {p : Int} (hp : 0 < p) (h0 : 0 ≤ high) (l0 : 0 ≤ low) (t0 : 9223372036854775808 ≤ top) (hu : u < (high * W + low + 1) * p) (hv : top * p ≤ v) (huv : u < W * v) : u < (gss high low top + 1) * v := by
  have hb : (0 : Int) ≤ gss high low top + 1 := by
    unfold gss
    split
    · decide
    · have : 0 ≤ (high * W + low) / top := Int.ediv_nonneg (by have : W = 18446744073709551616 := rfl; rw [this]; omega) (by omega)
      omega
  have h2 : (gss high low top + 1) * (top * p) ≤ (gss high low top + 1) * v := Int.mul_le_mul_of_nonneg_left hv hb
  unfold gss at *
  split
  · have : W = 18446744073709551615 + 1 := by decide
    rw [this] at huv; exact huv
  · rename_i hc
    rw [if_neg hc] at h2
    have h1 : high * W + low + 1 ≤ ((high * W + low) / top + 1) * top := by
      have := Int.lt_ediv_add_one_mul_self (high * W + low) (show 0 < top by omega)
      omega
    have h3 := Int.mul_le_mul_of_nonneg_right h1 (show 0 ≤ p by omega)
    rw [Int.mul_assoc] at h3
    omega

theorem Turned.widen {w w' : World} {g off n m : Nat} {zs ys : List Int} (h : Turned w w' g off n zs ys) (hm : n ≤ m) : Turned w w' g off m zs ys := ⟨h.row, h.len, h.dig_, fun j hj => h.rest j (by omega), h.grown⟩
theorem Turned.trans {a b c : World} {g off n : Nat} {zs ys xs : List Int} (h : Turned a b g off n zs ys) (k : Turned b c g off n ys xs) : Turned a c g off n zs xs :=
  ⟨k.row, k.len.trans h.len, k.dig_, fun j hj => (k.rest j hj).trans (h.rest j hj), grown_trans h.grown k.grown⟩
theorem Turned.drewN {w w' : World} {g off n : Nat} {zs ys : List Int} (h : Turned w w' g off n zs ys) (m : Nat) : Turned w (w'.drewN m) g off n zs ys := ⟨h.row.drewN m, h.len, h.dig_, h.rest, grown_drewN h.grown m⟩
theorem Turned.put {w w' : World} {g off n i : Nat} {zs ys : List Int} (h : Turned w w' g off n zs ys) {v : Int} (h0 : 0 ≤ v) (h1 : v < W) (h2 : off ≤ i) (h3 : i < off + n) : Turned w (w'.setCell ⟨g, i, none⟩ (.int .u64 v)) g off n zs (ys.set i v) :=
  ⟨h.row.set _ _, by simpa using h.len, h.dig_.set h0 h1 _, fun j hj => by rw [dig_set_ne (by omega)]; exact h.rest j hj, grown_setCell h.grown _ _⟩
theorem wv_put {zs : List Int} {off n : Nat} (hk : off + n < zs.length) (v : Int) : wv (zs.set (off + n) v) off n = wv zs off n :=
  wv_congr (fun j _ h2 => dig_set_ne (by omega))

theorem quiet_any {P : Program} {f : FuncId} {args : Array Value} {w : World} {n : Nat} {v : Value}
    (h : Calls P f args (w.drewN n) fun e w' => e = .returned v ∧ ∃ m, w' = (w.drewN n).drewN m) : Calls P f args (w.drewN n) fun e w'' => e = .returned v ∧ ∃ m, w'' = w.drewN m :=
  h.mono fun _ _ ⟨he, m, hm⟩ => ⟨he, n + m, by rw [hm, World.drewN_drewN]⟩
/-- The guess isn't too small, of a window's two highest digits and the divisor's highest. -/
theorem td_guess {zs Y : List Int} {off n m : Nat} (hm : m + 1 = n) (hzd : Dig W zs) (hYd : Dig W Y) (hlow : wv zs off (n + 1) < W * vf W (dig Y) n) (h1 : 0 ≤ dig zs (off + n)) (h2 : 0 ≤ dig zs (off + m)) (ht : 9223372036854775808 ≤ dig Y m) :
    wv zs off (n + 1) < (gss (dig zs (off + n)) (dig zs (off + m)) (dig Y m) + 1) * vf W (dig Y) n := by
  subst hm
  refine gss_ge (p := W ^ m) (pow_pos' W_two m) h1 h2 ht ?_ ?_ hlow
  · have hb := wv_bd hzd off m
    have e : wv zs off (m + 1 + 1) = wv zs off m + (dig zs (off + (m + 1)) * W + dig zs (off + m)) * W ^ m := by
      rw [wv_succ, wv_succ, Int.pow_succ]; grind
    rw [e, Int.add_mul (dig zs (off + (m + 1)) * W + dig zs (off + m)) 1]
    omega
  · have hb := vf_bd (b := W) (by decide) (fun j => dig_bd (b := W) (by decide) hYd j) m
    simp only [vf]; omega
/-- u[n] and whether it is below: what stands in the window is U less D times V, and W to the n + 1 more where it is below. -/
def TdR (zs Y : List Int) (off n g : Nat) (w : World) (d b : Value) (wr : World) : Prop :=
  ∃ (ys : List Int) (D : Int) (bl : Bool), d = .int .u64 D ∧ b = .bool bl ∧ 0 ≤ D ∧ D < 18446744073709551616 ∧ Turned w wr g off (n + 1) zs ys ∧
    wv zs off (n + 1) < (D + 1) * vf W (dig Y) n ∧ (bl = true → wv zs off (n + 1) < D * vf W (dig Y) n ∧ wv ys off (n + 1) - W ^ (n + 1) = wv zs off (n + 1) - D * vf W (dig Y) n) ∧
    (bl = false → wv ys off (n + 1) = wv zs off (n + 1) - D * vf W (dig Y) n)
def TdP (zs Y : List Int) (off n g : Nat) (w : World) (e : Ending) (w' : World) : Prop :=
  ∃ (ys : List Int) (D : Int), e = .returned (.int .u64 D) ∧ 0 ≤ D ∧ D < 18446744073709551616 ∧ Turned w w' g off (n + 1) zs ys ∧ wv ys off (n + 1) = wv zs off (n + 1) - D * vf W (dig Y) n ∧ wv ys off (n + 1) < vf W (dig Y) n
theorem td_first {zs ys Y : List Int} {off n : Nat} {G over v : Int} (hlen : off + n < ys.length) (he : dig ys (off + n) = dig zs (off + n)) (h : wv ys off n - over * W ^ n = wv zs off n - G * vf W (dig Y) n) :
    wv (ys.set (off + n) v) off (n + 1) = wv zs off (n + 1) - G * vf W (dig Y) n + (v - (dig ys (off + n) - over)) * W ^ n := by
  rw [wv_set hlen, wv_succ, ← he]
  generalize wv ys off n = a at *
  generalize wv zs off n = b at *
  generalize W ^ n = p at *
  generalize vf W (dig Y) n = y at *
  grind
theorem td_back {ys xs Y : List Int} {off n : Nat} {c c' v : Int} (hlen : off + n < xs.length) (he : dig xs (off + n) = dig ys (off + n)) (h : wv xs off n + c * W ^ n = wv ys off n + vf W (dig Y) n) (e : v + W * c' = dig xs (off + n) + 0 + c) :
    wv (xs.set (off + n) v) off (n + 1) + c' * W ^ (n + 1) = wv ys off (n + 1) + vf W (dig Y) n := by
  rw [wv_set hlen, wv_succ, ← he, Int.pow_succ]
  generalize wv xs off n = a at *
  generalize wv ys off n = b at *
  generalize W ^ n = p at *
  generalize vf W (dig Y) n = y at *
  grind
theorem Turned.undrew {w w' : World} {g off n k : Nat} {zs ys : List Int} (h : Turned (w.drewN k) w' g off n zs ys) : Turned w w' g off n zs ys := ⟨h.row, h.len, h.dig_, h.rest, ⟨h.grown.os, h.grown.tape, h.grown.output, h.grown.size, h.grown.block⟩⟩
theorem td_start {zs ys Y : List Int} {off n : Nat} {G over v u1 : Int} (hlen : off + n < ys.length) (hd : Dig W ys) (he : dig ys (off + n) = dig zs (off + n)) (h : wv ys off n - over * W ^ n = wv zs off n - G * vf W (dig Y) n)
    (v0 : 0 ≤ v) (v1 : v < W) (hv : v = (u1 - over) % 18446744073709551616) (hu : dig zs (off + n) = u1) (o0 : 0 ≤ over) (o1 : over < 18446744073709551616) :
    (decide (u1 < over) = true → wv zs off (n + 1) < G * vf W (dig Y) n ∧ wv (ys.set (off + n) v) off (n + 1) - W ^ (n + 1) = wv zs off (n + 1) - G * vf W (dig Y) n) ∧
    (decide (u1 < over) = false → wv (ys.set (off + n) v) off (n + 1) = wv zs off (n + 1) - G * vf W (dig Y) n) := by
  have hf := td_first (v := v) hlen he h
  have hb := wv_bd (hd.set v0 v1 (off + n)) off (n + 1)
  have hy := dig_W hd (off + n)
  rw [he, hu] at hy hf
  have hW : W = 18446744073709551616 := rfl
  constructor
  · intro g
    have g' : u1 < over := of_decide_eq_true g
    have e : v - (u1 - over) = W := by rw [hW]; omega
    rw [e, Int.mul_comm W, ← show W ^ (n + 1) = W ^ n * W from Int.pow_succ _ _] at hf
    omega
  · intro g
    have g' : ¬ u1 < over := of_decide_eq_false g
    have e : v - (u1 - over) = 0 := by omega
    rw [e] at hf
    simpa using hf
theorem td_round {zs ys xs Y : List Int} {off n : Nat} {D c c' v : Int} (hlen : off + n < xs.length) (hd : Dig W xs) (v0 : 0 ≤ v) (v1 : v < W) (he : dig xs (off + n) = dig ys (off + n)) (h : wv xs off n + c * W ^ n = wv ys off n + vf W (dig Y) n) (e : v + W * c' = dig xs (off + n) + 0 + c)
    (hc0 : 0 ≤ c') (hc1 : c' ≤ 1) (hv : wv ys off (n + 1) - W ^ (n + 1) = wv zs off (n + 1) - D * vf W (dig Y) n) :
    ((c' == 0) = true → wv zs off (n + 1) < (D - 1) * vf W (dig Y) n ∧ wv (xs.set (off + n) v) off (n + 1) - W ^ (n + 1) = wv zs off (n + 1) - (D - 1) * vf W (dig Y) n) ∧
    ((c' == 0) = false → wv (xs.set (off + n) v) off (n + 1) = wv zs off (n + 1) - (D - 1) * vf W (dig Y) n) := by
  have hb := td_back hlen he h e
  have hbd := wv_bd (hd.set v0 v1 (off + n)) off (n + 1)
  rw [Int.sub_mul]
  constructor
  · intro g
    have : c' = 0 := by simpa using g
    subst this
    simp only [Int.zero_mul] at hb
    omega
  · intro g
    have g' : c' ≠ 0 := by simpa using g
    have : c' = 1 := by omega
    subst this
    omega
set_option maxHeartbeats 4000000 in
theorem takeDigit_any {w : World} {g off n cz c : Nat} {zs Y : List Int} {B : Option Addr} (hrow : Row w g 38 .u64 zs) (hzd : Dig W zs) (hin : off + (n + 1) ≤ zs.length) (hn0 : 0 < n) (hn : n ≤ 64)
    (hcz : n + 1 ≤ cz) (hY : Rd .u64 w B n Y) (hYd : Dig W Y) (hne : ∀ a, B = some a → a.block ≠ g) (htop : 9223372036854775808 ≤ dig Y (n - 1)) (hlow : wv zs off (n + 1) < W * vf W (dig Y) n) :
    Calls Tryz.prog 115 #[.slice (some ⟨g, off, none⟩) (n + 1) cz, .slice B n c] w (TdP zs Y off n g w) := by
  obtain ⟨m, hm⟩ : ∃ m, m + 1 = n := ⟨n - 1, by omega⟩
  have hm1 : n - 1 = m := by omega
  rw [hm1] at htop
  clear hm1
  obtain ⟨bb, bo, vt, rfl, hbb, hvt, hcv⟩ := hY.at_ (j := m) (by omega)
  have evt := dig_lt hvt
  rw [evt] at htop
  have dv := dig_W hYd m
  rw [evt] at dv
  have c1 := hrow.cell (getElem?_dig (show off + n < zs.length by omega))
  have c2 := hrow.cell (getElem?_dig (show off + m < zs.length by omega))
  have d1 := dig_W hzd (off + n)
  have d2 := dig_W hzd (off + m)
  obtain ⟨u1, hu1⟩ : ∃ v, dig zs (off + n) = v := ⟨_, rfl⟩
  obtain ⟨u2, hu2⟩ : ∃ v, dig zs (off + m) = v := ⟨_, rfl⟩
  rw [hu1] at c1 d1
  rw [hu2] at c2 d2
  have hG := gss_bd d1.1 d2.1 d2.2 htop
  have hge := td_guess (Y := Y) hm hzd hYd hlow (by rw [hu1]; exact d1.1) (by rw [hu2]; exact d2.1) (by rw [evt]; exact htop)
  rw [hu1, hu2, evt] at hge
  have HGE := Lib.hid hge
  have HU1 := Lib.hid hu1
  have HM := Lib.hid hm
  have hmn : m < n := by omega
  clear hu1 hu2 evt hvt hge hlow
  have e1 : IntKind.i64.wrap ((n : Int) - 1) = (m : Int) := by rw [IntWalk.i64_in _ (by omega)]; omega
  have e2 : (m : Int) < (n : Int) := by omega
  have e3 : (m : Int) < (n : Int) + 1 := by omega
  have e4 : (n : Int) < (n : Int) + 1 := by omega
  clear hm
  obtain ⟨G, hGe⟩ : ∃ v, gss u1 u2 vt = v := ⟨_, rfl⟩
  have hcg := fun W => guess_any u1 u2 vt W d1.1 d1.2 d2.1 d2.2 htop dv.2
  rw [hGe] at hcg hG HGE
  have HCG := Lib.hid hcg
  clear hcg hGe
  have hne' : 0 < n → ∀ a, some (⟨bb, bo, none⟩ : Addr) = some a → a.block ≠ g := fun _ => hne
  have HNE := Lib.hid hne'
  clear hne hne'
  have hbg : bb ≠ g := HNE.out hn0 _ rfl
  go_enter Tryz.func115, Tryz.ntmps115
  go_wp2_with fail
  go_quiet ((go_at_call 119; exact quiet_any (HCG.out _)))
  clear e1
  go_wp2_with fail
  refine (takeTimes_any (hrow.drewN _) hzd (by omega) (by omega) (hY.drewN _) hYd HNE.out hG.1 hG.2).mono ?_
  rintro e w1 ⟨ys, over, rfl, o0, o1, ht, hv⟩
  have HV := Lib.hid hv
  clear hv
  have hyl := ht.len
  have f1 := ht.row.frozen (off + n)
  have g1 := ht.row.cell (getElem?_dig (show off + n < ys.length by omega))
  have hr := ht.rest (off + n) (.inr (Nat.le_refl _))
  rw [hr, HU1.out] at g1
  have HR := Lib.hid hr
  have HYL := Lib.hid hyl
  clear hyl hr
  have hw0 : 0 ≤ IntKind.u64.wrap (u1 - over) ∧ IntKind.u64.wrap (u1 - over) < W := by rw [IntKind.wrap_u64]; unfold W; omega
  have hst := td_start (zs := zs) (Y := Y) (v := IntKind.u64.wrap (u1 - over)) (by have := HYL.out; omega) (ht.dig_) HR.out HV.out hw0.1 hw0.2 (IntKind.wrap_u64 _) HU1.out o0 o1
  have HST := Lib.hid hst
  have HT1 := Lib.hid ((ht.undrew.widen (Nat.le_succ n)).put hw0.1 hw0.2 (i := off + n) (by omega) (by omega))
  clear hst
  have HY1 := Lib.hid hY
  go_wp2_with fail
  clear f1 g1 hcv c1 c2 hrow
  go_loopw [6, 8] (fun d b wr => TdR zs Y off n g w d b wr) (fun d _ _ => (intOf d).toNat)
  case atStart => exact ⟨_, G, _, rfl, rfl, hG.1, hG.2, HT1.out, HGE.out, HST.out.1, HST.out.2⟩
  case round =>
    obtain ⟨xs, D, bl, rfl, rfl, D0, D1, tt, hlt, hyes, hno⟩ := hrel
    have HLT := Lib.hid hlt
    have hV0 := vf_bd (b := W) (by decide) (fun j => dig_bd (b := W) (by decide) hYd j) n
    have hU0 := wv_bd hzd off (n + 1)
    clear hlt
    cases bl with
    | true =>
      obtain ⟨hlt2, hval⟩ := hyes rfl
      have hD : 1 ≤ D := by
        rcases Int.lt_or_le 0 D with k | k
        · omega
        · have : D = 0 := by omega
          subst this; simp at hlt2; omega
      have HLT2 := Lib.hid hlt2
      have HVAL := Lib.hid hval
      have HV0 := Lib.hid hV0
      have HU0 := Lib.hid hU0
      clear hyes hno hlt2 hval hV0 hU0
      go_wp2_with fail
      refine (addBack_any tt.row tt.dig_ (by rw [tt.len]; omega) (by omega) (HY1.out.grown tt.grown (HNE.out hn0)) hYd HNE.out).mono ?_
      rintro e w2 ⟨vs, cc, rfl, k0, k1, t2, hv2⟩
      have HV2 := Lib.hid hv2
      clear hv2
      have hvl := t2.len.trans tt.len
      have f2 := t2.row.frozen (off + n)
      have g2 := t2.row.cell (getElem?_dig (show off + n < vs.length by omega))
      have dz := dig_W t2.dig_ (off + n)
      obtain ⟨z, hz⟩ : ∃ z, dig vs (off + n) = z := ⟨_, rfl⟩
      rw [hz] at g2 dz
      have HZ := Lib.hid hz
      have HVL := Lib.hid hvl
      clear hz hvl
      have hB := add64_bd dz.1 dz.2 (Int.le_refl 0) (by decide) k0 k1
      have HB := Lib.hid hB
      clear hB
      go_wp2_with (simp only [add64 z 0 cc dz.1 (Int.le_refl 0) k0 k1])
      have hrd := td_round (zs := zs) (ys := xs) (D := D) (by have := HVL.out; omega) t2.dig_ HB.out.1 HB.out.2.1 (t2.rest _ (.inr (Nat.le_refl _))) HV2.out (by rw [HZ.out]; exact HB.out.2.2.2.2) HB.out.2.2.1 HB.out.2.2.2.1 HVAL.out
      go_roundw
      case rel => exact ⟨_, D - 1, _, rfl, rfl, by omega, by omega, (tt.trans (t2.widen (Nat.le_succ n))).put HB.out.1 HB.out.2.1 (by omega) (by omega), by rw [Int.sub_add_cancel]; exact HLT2.out, hrd.1, hrd.2⟩
      case measure => simp [intOf]; omega
    | false =>
      have hval := hno rfl
      have HVAL := Lib.hid hval
      clear hyes hno hval hV0 hU0
      go_wp2
      go_ret
      exact ⟨xs, D, rfl, D0, D1, tt, HVAL.out, by rw [HVAL.out]; have := HLT.out; rw [Int.add_mul] at this; omega⟩
end Go.Proofs.YtloajnaphenbjaaGreatDoor
