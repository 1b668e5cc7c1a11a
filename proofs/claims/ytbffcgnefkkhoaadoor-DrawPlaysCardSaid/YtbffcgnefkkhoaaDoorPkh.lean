/-
  Several texts in one: Pgf, Pgb, Drm, Dlw, Pg0.
-/
import Derived.Test.YtbffcgnefkkhoaaDoorPga
import Derived.Test.YtbffcgnefkkhoaaDoorDrp
import Derived.Test.YtbffcgnefkkhoaaDoorPka
import Derived.Test.YtbffcgnefkkhoaaDoorPkg
import Derived.Test.YtbffcgnefkkhoaaDoorDrn
import Derived.Test.YtbffcgnefkkhoaaDoorPkf
/-
  The program's first draw below a number: firstBelow, over a row of draws.
-/
namespace Go.Proofs.YtbffcgnefkkhoaaDoor
open Go.RowKit
set_option linter.unusedVariables false
theorem Cn.bx {x : Nat} {w w' : World} {A : Option Addr} {n c : Nat} {N : Int} (h : Cn w A n c N) (hb : Bx x w w') (hx : ∀ a, A = some a → a.block ≠ x) : Cn w' A n c N := ⟨h.rd.bx hb hx, h.nc, h.c60, h.pos⟩
theorem Nm.bx {x : Nat} {w w' : World} {A : Option Addr} {n c : Nat} {N : Int} (h : Nm w A n c N) (hb : Bx x w w') (hx : ∀ a, A = some a → 0 < n → a.block ≠ x) : Nm w' A n c N := by
  obtain ⟨⟨xs, h1, h2, h3⟩, h4, h5, h6⟩ := h
  refine ⟨⟨xs, ?_, h2, h3⟩, h4, h5, h6⟩
  rcases Nat.eq_zero_or_pos n with g | g
  · subst g
    obtain rfl : xs = [] := List.eq_nil_of_length_eq_zero h1.len
    exact Rd.nil _ _ _
  · exact h1.bx hb fun a ha => hx a ha g
theorem Nm.bw {w w' : World} {A : Option Addr} {n c : Nat} {N : Int} (h : Nm w A n c N) (hb : Bw w w') : Nm w' A n c N := h.below hb
/-- The generator's own method, as a value. -/
def drawV (b : Nat) : Value := .func (.func 32) #[.pointer (some ⟨b, 0, none⟩)] #[]
/-- What firstBelow answers. -/
def FbP (lo hi b : Nat) (d : PgD) (seed : List Int) (M : Int) (k : Nat) (w : World) (e : Ending) (w' : World) : Prop := ∃ B m cap, e = .returned (.slice B m cap) ∧ Cn w' B m cap (blw seed M 256 k).1 ∧ (∀ a, B = some a → w.heap.size ≤ a.block) ∧ Pg w' lo hi b d seed (blw seed M 256 k).2 ∧ Bx b w w'
/-- The loop that draws. -/
def FbR (lo hi b : Nat) (d : PgD) (seed : List Int) (M : Int) (v k : Nat) (w : World) (x i : Value) (wr : World) : Prop :=
  ∃ (j : Nat) (Ax : Option Addr) (nx cx : Nat), j ≤ 256 ∧ i = .int .i64 j ∧ x = .slice Ax nx cx ∧ (0 < j → nx = v ∧ Bs wr Ax v cx (drw seed (k + j - 1) v) ∧ M ≤ dx seed M (k + j - 1)) ∧ blw seed M 256 k = blw seed M (256 - j) (k + j) ∧ Pg wr lo hi b d seed (k + j) ∧ Bx b w wr
theorem W_pow64 (k : Nat) : W ^ k = 2 ^ (64 * k) := by
  rw [show W = 2 ^ 64 by decide, ← Int.pow_mul]
theorem nb_dl64 {N : Int} (h : 0 ≤ N) (k : Nat) : nb N ≤ 64 * k ↔ dl N ≤ k :=
  ⟨fun g => dl_le h (by rw [W_pow64]; exact dg_lt_pow (by decide) h g), fun g => dg_len_le (by decide) h (by rw [← W_pow64]; exact lt_dl h g)⟩
section
variable {w : World} {lo hi b k : Nat} {d : PgD} {seed : List Int} {A : Option Addr} {n c : Nat} {M : Int}
set_option maxHeartbeats 8000000 in
set_option maxRecDepth 100000 in
theorem first_any (hT : Tabs w) (h : Pg w lo hi b d seed k) (hk : k ≤ 900000000) (hm : Nm w A n c M) (hA : ∀ a, A = some a → 0 < n → a.block ≠ b) (h0 : 0 < M) (hl : dl M ≤ 32) :
    Calls Tryd.prog 31 #[.slice A n c, drawV b] w (FbP lo hi b d seed M k w) := by
  have HD := Lib.hid h
  have HT := Lib.hid hT
  have HM := Lib.hid hm
  have HA := Lib.hid hA
  have hbl := h.lt
  obtain ⟨t, ht⟩ : ∃ t, mb M = t := ⟨_, rfl⟩
  have HTT := Lib.hid ht
  obtain ⟨v, hv⟩ : ∃ v, ms M = v := ⟨_, rfl⟩
  have HV := Lib.hid hv
  have t2 : t ≤ 2048 := by
    have h1 := dl_mono (show 0 ≤ M - 1 by omega) (show M - 1 ≤ M by omega)
    have h2 := (nb_dl64 (show 0 ≤ M - 1 by omega) 32).2 (by omega)
    unfold mb at ht; omega
  have v2 : v ≤ 256 := by rw [← hv]; unfold ms; rw [ht]; split <;> omega
  have hmax : max (1 : Int) (((t + 7) / 8 : Nat) : Int) = (v : Int) := by rw [← hv]; unfold ms; rw [ht]; split <;> omega
  clear h hT hm hA ht hv
  unfold drawV
  go_enter Tryd.func31, Tryd.ntmps31
  have hl1 : dl 1 ≤ 64 := dl_le (by decide) (by decide)
  go_wp2_with fail
  refine (sub_any (HM.out.alloc _) (one_nm w (by decide) (by decide)) (by omega) hl1 (by omega)).mono ?_
  rintro e w1 ⟨B1, m1, c1, rfl, hr1, hb1, hn1⟩
  have b01 : Bw w w1 := (Bw.alloc w _).trans hb1
  have HR1 := Lib.hid hr1
  have HB01 := Lib.hid b01
  have HD1 := Lib.hid (HD.out.bw b01)
  have HT1 := Lib.hid (HT.out.bw b01)
  have HM1 := Lib.hid (HM.out.bw b01)
  have hs1 := Below.size (show Below w.heap.size w w1 from b01)
  clear hr1 hb1 hn1 b01
  go_wp2_with fail
  refine (bits_any HR1.out.nm).mono ?_
  rintro e w2 ⟨rfl, rfl⟩
  rw [show nb (M - 1) = t from HTT.out]
  obtain ⟨u, hu⟩ : ∃ u, (t + 7) / 8 = u := ⟨_, rfl⟩
  rw [hu] at hmax
  have q1 : ((t : Int) + 7).tdiv 8 = (u : Int) := by rw [Int.tdiv_eq_ediv_of_nonneg (by omega)]; omega
  have HU := Lib.hid hu
  have u2 : u ≤ 256 := by omega
  clear hu
  go_wp2_with fail
  have hvt : t ≤ 8 * v := by have := HU.out; omega
  have hvt2 : 8 * v ≤ t + 8 := by have := HU.out; omega
  have hvt3 : 0 < t → 8 * v ≤ t + 7 := by have := HU.out; omega
  have hv1 : 1 ≤ v := by omega
  clear q1 hmax HR1 HD HT HM HU
  obtain ⟨w2, rfl⟩ : ∃ w2, w2 = w1 := ⟨_, rfl⟩
  go_loopw [9, 23] (fun x i wr => FbR lo hi b d seed M v k w2 x i wr) (fun _ i _ => 256 - (intOf i).toNat)
  case atStart => exact ⟨0, _, _, _, Nat.zero_le _, rfl, rfl, fun h => absurd h (by omega), rfl, HD1.out, Bx.refl _ _⟩
  case round =>
    obtain ⟨i, Ax, nx, cx, hi2, rfl, rfl, hx, hbl2, hdr, hbx⟩ := hrel
    have HBL := Lib.hid hbl2
    have HBX := Lib.hid hbx
    have HDR := Lib.hid hdr
    have HXX := Lib.hid hx
    have HTR := Lib.hid (HD1.out.tabs HT1.out hbx)
    have HMB := Lib.hid (HM1.out.bx hbx HA.out)
    clear hx hbl2 hdr hbx
    rcases Nat.lt_or_ge i 256 with hlt3 | hge3
    · --<L2
      have hii : (i : Int) < 256 := by omega
      go_wp2_with fail
      refine (draw_any HTR.out HDR.out (by omega) v (by omega)).mono ?_
      rintro e w4 ⟨A4, c4, rfl, bs4, hn4, hd4, hb4⟩
      have HBS := Lib.hid bs4
      have HN4 := Lib.hid hn4
      have HD4 := Lib.hid hd4
      have HM4 := Lib.hid (HMB.out.bx hb4 HA.out)
      have HB4 := Lib.hid (HBX.out.trans hb4)
      have hs4 : w.heap.size ≤ w4.heap.size := Nat.le_trans hs1 HB4.out.size
      clear bs4 hn4 hd4 hb4
      go_wp2_with fail
      refine (low_any HBS.out hv1 v2 t hvt hvt2).mono ?_
      rintro e w5 ⟨A5, n5, c5, rfl, hr5, hb5, hn5⟩
      have hb5 : Bw w4 w5 := hb5
      rw [show pv (drw seed (k + i) v) v % 2 ^ t = dx seed M (k + i) by unfold dx; rw [HTT.out, HV.out]] at hr5
      have HR5 := Lib.hid hr5
      have HN5 := Lib.hid hn5
      have HBS5 := Lib.hid (HBS.out.bw hb5)
      have HD5 := Lib.hid (HD4.out.bw hb5)
      have HM5 := Lib.hid (HM4.out.bw hb5)
      have HB5 := Lib.hid (HB4.out.trans (hb5.bx b))
      clear hr5 hn5 hb5 HBS HD4 HM4 HB4
      go_wp2_with fail
      refine (cmp_any HR5.out.nm HM5.out).mono ?_
      rintro e w7 ⟨rfl, q, rfl⟩
      have hq : Bw w5 (w5.drewN q) := below_drewN (Below.refl _ _) q
      have HB7 := Lib.hid (HB5.out.trans (hq.bx b))
      have HD7 := Lib.hid (HD5.out.bw hq)
      have HR7 := Lib.hid (HR5.out.bw hq)
      have HBS7 := Lib.hid (HBS5.out.bw hq)
      have HST := Lib.hid (show blw seed M 256 k = if dx seed M (k + i) < M then (dx seed M (k + i), k + i + 1) else blw seed M (256 - (i + 1)) (k + i + 1) by
        rw [HBL.out, show 256 - i = (256 - (i + 1)) + 1 by omega, blw])
      clear hq HB5 HD5 HR5 HBS5
      rcases Int.lt_or_le (dx seed M (k + i)) M with g | g
      · have e1 : decide (cmpI (dx seed M (k + i)) M < 0) = true := by rw [cmpI_lt g]; rfl
        have HE := Lib.hid (show blw seed M 256 k = (dx seed M (k + i), k + i + 1) by rw [HST.out, if_pos g])
        go_wp2_with fail
        go_ret
        exact ⟨_, _, _, rfl, by rw [HE.out]; exact HR7.out, fun a ha => Nat.le_trans hs4 (HN5.out a ha), by rw [HE.out]; exact HD7.out, (HB01.out.bx b).trans HB7.out⟩
      · have e1 : decide (cmpI (dx seed M (k + i)) M < 0) = false := by
          rcases Int.lt_or_eq_of_le g with q2 | q2
          · rw [cmpI_gt q2]; rfl
          · rw [← q2, cmpI_eq]; rfl
        have HE := Lib.hid (show blw seed M 256 k = blw seed M (256 - (i + 1)) (k + i + 1) by rw [HST.out, if_neg (by omega)])
        go_wp2_with fail
        go_roundw
        case rel => exact ⟨i + 1, _, _, _, by omega, by go_num, rfl, fun _ => ⟨rfl, HBS7.out, g⟩, HE.out, HD7.out, HB7.out⟩
        case measure => simp [intOf]; omega
      --L2>
    · --<END
      obtain rfl : i = 256 := by omega
      have hii : decide (((256 : Nat) : Int) < 256) = false := by decide
      obtain ⟨rfl, hbs, hge⟩ := HXX.out (by omega)
      have HBS := Lib.hid hbs
      have ht1 : 0 < t := by
        rcases Nat.eq_zero_or_pos t with g | g
        · exfalso
          have h1 := dx_bd seed M (k + 256 - 1)
          rw [HTT.out, g] at h1
          have : (2 : Int) ^ 0 = 1 := rfl
          omega
        · exact g
      obtain ⟨t', rfl⟩ : ∃ t', t = t' + 1 := ⟨t - 1, by omega⟩
      have e1 : IntKind.i64.wrap (((t' + 1 : Nat) : Int) - 1) = (t' : Int) := by rw [IntWalk.i64_in _ (by omega)]; omega
      clear hbs HXX
      go_wp2_with fail
      refine (low_any HBS.out hv1 v2 t' (by omega) (by omega)).mono ?_
      rintro e w5 ⟨A5, n5, c5, rfl, hr5, hb5, hn5⟩
      have hb5 : Bw wr w5 := hb5
      have HR5 := Lib.hid hr5
      have HN5 := Lib.hid hn5
      have HB5 := Lib.hid hb5
      clear hr5 hb5 hn5
      go_wp2_with fail
      go_ret
      have e : blw seed M 256 k = (dx seed M (k + 256 - 1) % hf M, k + 256) := HBL.out
      refine ⟨_, _, _, rfl, ?_, fun a ha => Nat.le_trans (Nat.le_trans hs1 HBX.out.size) (HN5.out a ha), by rw [e]; exact HDR.out.bw HB5.out, (HB01.out.bx b).trans (HBX.out.trans (HB5.out.bx b))⟩
      rw [e]
      have hr := HR5.out
      rw [show dx seed M (k + 256 - 1) % hf M = pv (drw seed (k + 256 - 1) nx) nx % 2 ^ t' by
        unfold dx hf
        rw [HTT.out, HV.out]
        exact Int.emod_emod_of_dvd _ ⟨2, by rw [Int.pow_succ]; rfl⟩]
      exact hr
      --END>
end
end Go.Proofs.YtbffcgnefkkhoaaDoor
/-
  What the program's Bytes and Below answer, and their errors.
-/
namespace Go.Proofs.YtbffcgnefkkhoaaDoor
open Go.RowKit
set_option linter.unusedVariables false
/-- An error that is a Code, beside nothing; the row is where it was. -/
def AnsD (code : Int) (lo hi b : Nat) (d : PgD) (seed : List Int) (k : Nat) (w : World) (e : Ending) (w' : World) : Prop :=
  e = .returned (.tuple #[.slice none 0 0, .iface 59 (.int .i64 code)]) ∧ Pg w' lo hi b d seed k ∧ Bx b w w'
set_option maxRecDepth 100000 in
theorem ne_nil0 : ∀ w : World, (binOp .neq 44 .nilIface .nilIface).run Tryd.prog w = .ok (.bool false) w := fun _ => rfl
set_option maxRecDepth 100000 in
theorem ne_nil1 (c : Int) : ∀ w : World, (binOp .neq 44 (.iface 59 (.int .i64 c)) .nilIface).run Tryd.prog w = .ok (.bool true) w := fun _ => rfl
theorem mk_fn : ∀ (fn : Fn) (first cap : Array Value) (w : World), (Instr.makeFunc fn first cap).run Tryd.prog w = .ok (.func fn first cap) w := fun _ _ _ _ => rfl
section
variable {w : World} {lo hi b k : Nat} {d : PgD} {seed : List Int} {A : Option Addr} {n c : Nat} {M : Int}
/-! ### What is refused -/
theorem oor_no (m : Nat) (h : m ≤ 4096) (w : World) : Calls Tryd.prog 28 #[.int .i64 (m : Int)] w fun e w' => e = .returned (.bool false) ∧ w = w' := by
  have e1 : decide ((m : Int) < 0) = false := by simp
  have e2 : decide ((4096 : Int) < (m : Int)) = false := by simp; omega
  go_enter Tryd.func28, Tryd.ntmps28
  go_wp2_with fail
  go_ret
  exact ⟨rfl, rfl⟩
theorem oor_yes (m : Int) (h : m < 0 ∨ 4096 < m) (w : World) : Calls Tryd.prog 28 #[.int .i64 m] w fun e w' => e = .returned (.bool true) ∧ w = w' := by
  rcases Int.lt_or_le m 0 with g | g
  · have e1 : decide (m < 0) = true := by simp; omega
    go_enter Tryd.func28, Tryd.ntmps28
    go_wp2_with fail
    go_ret
    exact ⟨rfl, rfl⟩
  · have e1 : decide (m < 0) = false := by simp; omega
    have e2 : decide ((4096 : Int) < m) = true := by simp; omega
    go_enter Tryd.func28, Tryd.ntmps28
    go_wp2_with fail
    go_ret
    exact ⟨rfl, rfl⟩
theorem nb_zero {N : Int} (h : 0 ≤ N) : nb N = 0 ↔ N = 0 := dg_nil_iff (by decide) h
theorem refu_ok (hm : Nm w A n c M) (h0 : 0 < M) (hl : dl M ≤ 32) :
    Calls Tryd.prog 30 #[.slice A n c] w fun e w' => e = .returned .nilIface ∧ w = w' := by
  have h1 := nb_zero hm.pos
  have h2 := (nb_dl64 hm.pos 32).2 hl
  have HM := Lib.hid hm
  obtain ⟨q, hq⟩ : ∃ q, nb M = q := ⟨_, rfl⟩
  have HQ := Lib.hid hq
  have e1 : (((q : Nat) : Int) == 0) = false := by simp; omega
  have e2 : decide ((2048 : Int) < (q : Int)) = false := by simp; omega
  clear hm h1 h2 hq
  go_enter Tryd.func30, Tryd.ntmps30
  go_wp2_with fail
  refine (bits_any HM.out).mono ?_
  rintro e w1 ⟨rfl, rfl⟩
  rw [HQ.out]
  go_wp2_with fail
  refine (bits_any HM.out).mono ?_
  rintro e w1 ⟨rfl, rfl⟩
  rw [HQ.out]
  go_wp2_with fail
  go_ret
  exact ⟨rfl, rfl⟩
theorem refu_arg (hm : Nm w A n c 0) :
    Calls Tryd.prog 30 #[.slice A n c] w fun e w' => e = .returned (.iface 59 (.int .i64 1)) ∧ w = w' := by
  have h1 := (nb_zero (N := 0) (by omega)).2 rfl
  have HM := Lib.hid hm
  have HQ := Lib.hid h1
  clear hm h1
  go_enter Tryd.func30, Tryd.ntmps30
  go_wp2_with fail
  refine (bits_any HM.out).mono ?_
  rintro e w1 ⟨rfl, rfl⟩
  rw [HQ.out]
  go_wp2_with fail
  go_ret
  exact ⟨rfl, rfl⟩
theorem refu_long (hm : Nm w A n c M) (hl : 32 < dl M) :
    Calls Tryd.prog 30 #[.slice A n c] w fun e w' => e = .returned (.iface 59 (.int .i64 2)) ∧ w = w' := by
  have h2 : ¬ nb M ≤ 64 * 32 := fun h => by have := (nb_dl64 hm.pos 32).1 h; omega
  have HM := Lib.hid hm
  obtain ⟨q, hq⟩ : ∃ q, nb M = q := ⟨_, rfl⟩
  have HQ := Lib.hid hq
  have e1 : (((q : Nat) : Int) == 0) = false := by simp; omega
  have e2 : decide ((2048 : Int) < (q : Int)) = true := by simp; omega
  clear hm h2 hq
  go_enter Tryd.func30, Tryd.ntmps30
  go_wp2_with fail
  refine (bits_any HM.out).mono ?_
  rintro e w1 ⟨rfl, rfl⟩
  rw [HQ.out]
  go_wp2_with fail
  refine (bits_any HM.out).mono ?_
  rintro e w1 ⟨rfl, rfl⟩
  rw [HQ.out]
  go_wp2_with fail
  go_ret
  exact ⟨rfl, rfl⟩
/-! ### Bytes -/
theorem p6bytes (hT : Tabs w) (h : Pg w lo hi b d seed k) (hk : k ≤ 100000000) (m : Nat) (hm : m ≤ 4096) :
    Calls Tryd.prog 19 #[.pointer (some ⟨b, 0, none⟩), .int .i64 m] w fun e w' => ∃ A c, e = .returned (.tuple #[.slice A m c, .nilIface]) ∧ Bs w' A m c (drw seed k m) ∧ (∀ a, A = some a → w.heap.size ≤ a.block) ∧ Pg w' lo hi b d seed (k + 1) ∧ Bx b w w' := by
  have HD := Lib.hid h
  have HT := Lib.hid hT
  clear h hT
  go_enter Tryd.func19, Tryd.ntmps19
  go_wp2_with fail
  refine (oor_no m hm w).mono ?_
  rintro e w1 ⟨rfl, rfl⟩
  go_wp2_with fail
  refine (draw_any HT.out HD.out (by omega) m hm).mono ?_
  rintro e w2 ⟨A2, c2, rfl, h1, h2, h3, h4⟩
  have H1 := Lib.hid h1
  have H2 := Lib.hid h2
  have H3 := Lib.hid h3
  have H4 := Lib.hid h4
  clear h1 h2 h3 h4
  go_wp2_with fail
  go_ret2
  exact ⟨_, _, rfl, H1.out, H2.out, H3.out, H4.out⟩
theorem p6bytes_arg (hT : Tabs w) (h : Pg w lo hi b d seed k) (m : Int) (hm : m < 0 ∨ 4096 < m) :
    Calls Tryd.prog 19 #[.pointer (some ⟨b, 0, none⟩), .int .i64 m] w (AnsD 1 lo hi b d seed k w) := by
  have HD := Lib.hid h
  clear h hT
  go_enter Tryd.func19, Tryd.ntmps19
  go_wp2_with fail
  refine (oor_yes m hm w).mono ?_
  rintro e w1 ⟨rfl, rfl⟩
  go_wp2_with fail
  go_ret2
  exact ⟨rfl, HD.out, Bx.refl _ _⟩
/-! ### Below -/
theorem p6below (hT : Tabs w) (h : Pg w lo hi b d seed k) (hk : k ≤ 100000000) (hm : Nm w A n c M) (hA : ∀ a, A = some a → 0 < n → a.block ≠ b) (h0 : 0 < M) (hl : dl M ≤ 32) :
    Calls Tryd.prog 14 #[.pointer (some ⟨b, 0, none⟩), .slice A n c] w fun e w' => ∃ B m cap, e = .returned (.tuple #[.slice B m cap, .nilIface]) ∧ Cn w' B m cap (blw seed M 256 k).1 ∧ (∀ a, B = some a → w.heap.size ≤ a.block) ∧ Pg w' lo hi b d seed (blw seed M 256 k).2 ∧ Bx b w w' := by
  have HD := Lib.hid h
  have HT := Lib.hid hT
  have HM := Lib.hid hm
  have HA := Lib.hid hA
  have he := ne_nil0
  have hf := mk_fn
  clear h hT hm hA
  go_enter Tryd.func14, Tryd.ntmps14
  go_wp2_with fail
  refine (refu_ok HM.out h0 hl).mono ?_
  rintro e w1 ⟨rfl, rfl⟩
  go_wp2_with fail
  refine (first_any HT.out HD.out (by omega) HM.out HA.out h0 hl).mono ?_
  rintro e w2 ⟨B, m, cap, rfl, h1, h2, h3, h4⟩
  have H1 := Lib.hid h1
  have H2 := Lib.hid h2
  have H3 := Lib.hid h3
  have H4 := Lib.hid h4
  clear h1 h2 h3 h4 he hf
  go_wp2_with fail
  go_ret2
  exact ⟨_, _, _, rfl, H1.out, H2.out, H3.out, H4.out⟩
theorem p6below_arg (hT : Tabs w) (h : Pg w lo hi b d seed k) (hm : Nm w A n c 0) :
    Calls Tryd.prog 14 #[.pointer (some ⟨b, 0, none⟩), .slice A n c] w (AnsD 1 lo hi b d seed k w) := by
  have HD := Lib.hid h
  have HM := Lib.hid hm
  have he := ne_nil1 1
  clear h hT hm
  go_enter Tryd.func14, Tryd.ntmps14
  go_wp2_with fail
  refine (refu_arg HM.out).mono ?_
  rintro e w1 ⟨rfl, rfl⟩
  go_wp2_with fail
  go_ret2
  exact ⟨rfl, HD.out, Bx.refl _ _⟩
theorem p6below_long (hT : Tabs w) (h : Pg w lo hi b d seed k) (hm : Nm w A n c M) (hl : 32 < dl M) :
    Calls Tryd.prog 14 #[.pointer (some ⟨b, 0, none⟩), .slice A n c] w (AnsD 2 lo hi b d seed k w) := by
  have HD := Lib.hid h
  have HM := Lib.hid hm
  have he := ne_nil1 2
  clear h hT hm
  go_enter Tryd.func14, Tryd.ntmps14
  go_wp2_with fail
  refine (refu_long HM.out hl).mono ?_
  rintro e w1 ⟨rfl, rfl⟩
  go_wp2_with fail
  go_ret2
  exact ⟨rfl, HD.out, Bx.refl _ _⟩
end
end Go.Proofs.YtbffcgnefkkhoaaDoor
/-
  What draws are, more: several numbers, one by one; a permutation has each number once.
-/
namespace Go.Proofs.YtbffcgnefkkhoaaDoor
open Go.RowKit
set_option linter.unusedVariables false
/-- The count behind i numbers below M, and number i. -/
def cnt (seed : List Int) (M : Int) (k : Nat) : Nat → Nat
  | 0 => k
  | i + 1 => (blw seed M 256 (cnt seed M k i)).2
def nmb (seed : List Int) (M : Int) (k i : Nat) : Int := (blw seed M 256 (cnt seed M k i)).1
theorem cnt_bd (seed : List Int) (M : Int) (k : Nat) : ∀ i, k ≤ cnt seed M k i ∧ cnt seed M k i ≤ k + 256 * i
  | 0 => ⟨Nat.le_refl _, Nat.le_refl _⟩
  | i + 1 => by
    have h := cnt_bd seed M k i
    have h2 := blw_count seed M 256 (cnt seed M k i)
    exact ⟨by show k ≤ (blw seed M 256 (cnt seed M k i)).2; omega, by show (blw seed M 256 (cnt seed M k i)).2 ≤ _; omega⟩
theorem nmb_bd (seed : List Int) {M : Int} (h : 0 < M) (k i : Nat) : 0 ≤ nmb seed M k i ∧ nmb seed M k i < M := blw_bd seed h 256 _
theorem dig_getElem {l : List Int} {i : Nat} (h : i < l.length) : dig l i = l[i] := dig_lt (List.getElem?_eq_getElem h)
theorem swp_perm {l : List Int} {i j : Nat} (hi : i < l.length) (hj : j < l.length) : (swp l i j).Perm l := by
  unfold swp
  rw [dig_getElem hi, dig_getElem hj]
  exact List.set_set_perm hi hj
theorem shf_perm (seed : List Int) : ∀ (i : Nat) (s : List Int × Nat), i < s.1.length → (shf seed i s).1.Perm s.1
  | 0, _, _ => List.Perm.refl _
  | i + 1, s, h => by
    have hb := blw_bd seed (M := (i : Int) + 2) (by omega) 256 s.2
    have hp := swp_perm (l := s.1) (i := i + 1) (j := (blw seed ((i : Int) + 2) 256 s.2).1.toNat) h (by omega)
    rw [shf]
    exact (shf_perm seed i _ (by simp only; rw [swp_len]; omega)).trans hp
theorem prm_perm (seed : List Int) (n k : Nat) : (prm seed n k).1.Perm (ups n) := by
  rcases Nat.eq_zero_or_pos n with g | g
  · subst g; exact List.Perm.refl _
  · exact shf_perm seed (n - 1) (ups n, k) (by simp only; rw [ups_len]; omega)
theorem ups_mem {n : Nat} {x : Int} : x ∈ ups n ↔ 0 ≤ x ∧ x < n := by
  unfold ups
  rw [List.mem_map]
  constructor
  · rintro ⟨i, hi, rfl⟩
    have := List.mem_range.1 hi
    omega
  · rintro ⟨h0, h1⟩
    exact ⟨x.toNat, List.mem_range.2 (by omega), by omega⟩
theorem ups_nodup (n : Nat) : (ups n).Nodup := by
  unfold ups
  refine List.Pairwise.map (R := fun a b : Nat => a ≠ b) _ (fun a b h => by omega) List.nodup_range
theorem prm_nodup (seed : List Int) (n k : Nat) : (prm seed n k).1.Nodup := (prm_perm seed n k).nodup_iff.2 (ups_nodup n)
theorem prm_bd (seed : List Int) (n k : Nat) {i : Nat} (h : i < n) : 0 ≤ dig (prm seed n k).1 i ∧ dig (prm seed n k).1 i < n := by
  have hl := prm_len seed n k
  rw [dig_getElem (by omega)]
  exact ups_mem.1 ((prm_perm seed n k).mem_iff.1 (List.getElem_mem _))
theorem prm_inj (seed : List Int) (n k : Nat) {i j : Nat} (hi : i < n) (hj : j < n) (h : dig (prm seed n k).1 i = dig (prm seed n k).1 j) : i = j := by
  have hl := prm_len seed n k
  rw [dig_getElem (by omega), dig_getElem (by omega)] at h
  have hp := List.pairwise_iff_getElem.1 (prm_nodup seed n k)
  rcases Nat.lt_trichotomy i j with g | g | g
  · exact absurd h (hp i j _ _ g)
  · exact g
  · exact absurd h.symm (hp j i _ _ g)
end Go.Proofs.YtbffcgnefkkhoaaDoor
/-
  Helpers of the laws of layer 6: what pick and bad answer.
-/
namespace Go.Proofs.YtbffcgnefkkhoaaDoor
open Go.RowKit
set_option linter.unusedVariables false
/-- Which of m things the raw number c speaks of. -/
def pk (c m : Int) : Int := (if c < 0 then -(c + 1) else c) % m
theorem pk_bd (c : Int) {m : Int} (h : 0 < m) : 0 ≤ pk c m ∧ pk c m < m := ⟨Int.emod_nonneg _ (by omega), Int.emod_lt_of_pos _ h⟩
set_option maxHeartbeats 1000000 in
theorem pick_any (c m : Int) (hc : -9223372036854775808 ≤ c ∧ c ≤ 9223372036854775807) (hm : 0 < m ∧ m ≤ 1000) (w : World) :
    Calls Tryd.prog 11 #[.int .i64 c, .int .i64 m] w fun e w' => e = .returned (.int .i64 (pk c m)) ∧ w = w' := by
  obtain ⟨c0, c1⟩ := hc
  obtain ⟨m0, m1⟩ := hm
  have e0 : ((m : Int) == 0) = false := by simp; omega
  have e5 : ¬ m = 0 := by omega
  rcases Int.lt_or_le c 0 with g | g
  · have e1 : pk c m = (-(c + 1)).tmod m := by unfold pk; rw [if_pos g, Int.tmod_eq_emod_of_nonneg (by omega)]
    have b := pk_bd c m0
    obtain ⟨r, hr⟩ : ∃ r, (-(c + 1)).tmod m = r := ⟨_, rfl⟩
    rw [e1, hr] at b
    have e2 : IntKind.i64.wrap (-(c + 1)) = -(c + 1) := IntWalk.i64_in _ (by omega)
    have e3 : IntKind.i64.wrap r = r := IntWalk.i64_in _ (by omega)
    have E1 := Lib.hid (e1.trans hr)
    clear e1
    go_enter Tryd.func11, Tryd.ntmps11
    go_wp2_with fail
    go_ret
    exact ⟨by rw [E1.out]; rfl, rfl⟩
  · have e1 : pk c m = c.tmod m := by unfold pk; rw [if_neg (by omega), Int.tmod_eq_emod_of_nonneg (by omega)]
    have b := pk_bd c m0
    obtain ⟨r, hr⟩ : ∃ r, c.tmod m = r := ⟨_, rfl⟩
    rw [e1, hr] at b
    have e3 : IntKind.i64.wrap r = r := IntWalk.i64_in _ (by omega)
    have t1 : decide (c < 0) = false := by simp; omega
    have E1 := Lib.hid (e1.trans hr)
    clear e1
    go_enter Tryd.func11, Tryd.ntmps11
    go_wp2_with fail
    go_ret
    exact ⟨by rw [E1.out]; rfl, rfl⟩
/-- What is amiss with a number that something is to be drawn below. -/
def bdN (N : Int) : Int := if dl N = 0 then 1 else if 32 < dl N then 2 else 0
set_option maxHeartbeats 1000000 in
theorem bad_any {A : Option Addr} {n c : Nat} {N : Int} {w : World} (h : Nm w A n c N) :
    Calls Tryd.prog 23 #[.slice A n c] w fun e w' => e = .returned (.int .i64 (bdN N)) ∧ w = w' := by
  go_enter Tryd.func23, Tryd.ntmps23
  go_wp2_with fail
  refine (Limbs_nm h).mono ?_
  rintro e w1 ⟨rfl, rfl⟩
  obtain ⟨k, hk⟩ : ∃ k, dl N = k := ⟨_, rfl⟩
  have E1 := Lib.hid (show bdN N = if k = 0 then 1 else if 32 < k then 2 else 0 by unfold bdN; rw [hk])
  rw [hk]
  clear hk h
  rcases Nat.eq_zero_or_pos k with g | g
  · subst g
    go_wp2_with fail
    go_ret
    exact ⟨by rw [E1.out]; rfl, rfl⟩
  · have t1 : ((k : Int) == 0) = false := by simp; omega
    rcases Nat.lt_or_ge 32 k with g2 | g2
    · have t2 : decide ((32 : Int) < (k : Int)) = true := by simp; omega
      go_wp2_with fail
      go_ret
      exact ⟨by rw [E1.out, if_neg (by omega), if_pos g2]; rfl, rfl⟩
    · have t2 : decide ((32 : Int) < (k : Int)) = false := by simp; omega
      go_wp2_with fail
      go_ret
      exact ⟨by rw [E1.out, if_neg (by omega), if_neg (by omega)]; rfl, rfl⟩
end Go.Proofs.YtbffcgnefkkhoaaDoor
/-
  What the program's Scalars and Perm answer, and their errors.
-/
namespace Go.Proofs.YtbffcgnefkkhoaaDoor
open Go.RowKit
set_option linter.unusedVariables false
/-- Several numbers, in memory newer than base. -/
structure Scl (w : World) (base : Nat) (A : Option Addr) (n c : Nat) (f : Nat → Int) : Prop where
  nc : n ≤ c
  cells : 0 < n → ∃ g off, A = some ⟨g, off, none⟩ ∧ base ≤ g ∧ g < w.heap.size ∧ ∀ j, j < n → ∃ Aj nj cj, w.cell? ⟨g, off + j, none⟩ = some (.slice Aj nj cj) ∧ Cn w Aj nj cj (f j) ∧ ∀ a, Aj = some a → base ≤ a.block
theorem Scl.bx {x base : Nat} {w w' : World} {A : Option Addr} {n c : Nat} {f : Nat → Int} (h : Scl w base A n c f) (hb : Bx x w w') (hx : x < base) : Scl w' base A n c f :=
  ⟨h.nc, fun hn => by
    obtain ⟨g, off, e, h1, h2, h3⟩ := h.cells hn
    refine ⟨g, off, e, h1, Nat.lt_of_lt_of_le h2 hb.size, fun j hj => ?_⟩
    obtain ⟨Aj, nj, cj, k1, k2, k3⟩ := h3 j hj
    exact ⟨Aj, nj, cj, (World.cell?_of_block (hb.block g h2 (by omega))).trans k1, k2.bx hb (fun a ha => by have := k3 a ha; omega), k3⟩⟩
theorem infoN : (Tryd.prog.info? 30).map (fun i => (i.zero, i.size, i.bytes)) = some (some (.slice none 0 0), 1, 24) := by kernel_rfl
theorem madeN (n : Nat) : madeCells (Value.cells (.slice none 0 0)) (n * 1) = (List.replicate n (Value.slice none 0 0)).toArray := by
  apply Array.ext'
  rw [Nat.mul_one]
  show (madeCells #[Value.slice none 0 0] n).toList = _
  rw [toList_madeCells_one]
theorem run_makeN (n : Nat) {C : Int} (hC : C = n) (hn : n ≤ 1000000) (w : World) : (Instr.makeSlice 56 (.int .i64 C) (.int .i64 C)).run Tryd.prog w =
    .ok (.slice (some ⟨w.heap.size, 0, none⟩) n n) (w.alloc (.cells (List.replicate n (Value.slice none 0 0)).toArray 30)) := by
  subst hC
  obtain ⟨i0, hi, hz0, hz1, hz2⟩ := info_parts infoN
  have hr := run_make (P := Tryd.prog) w 56 30 i0 (.slice none 0 0) Tryd.underlying56 hi hz0 .i64 .i64 n n (by omega) (by omega) (by rw [hz2]; omega) (by omega)
  rw [hz1, madeN] at hr
  simpa using hr
theorem infoI : (Tryd.prog.info? 3).map (fun i => (i.zero, i.size, i.bytes)) = some (some (.int .i64 0), 1, 8) := by kernel_rfl
theorem madeI (n : Nat) : madeCells (Value.cells (.int .i64 0)) (n * 1) = ((List.replicate n 0).map (Value.int .i64)).toArray := by
  apply Array.ext'
  rw [Nat.mul_one]
  show (madeCells #[Value.int .i64 0] n).toList = _
  rw [toList_madeCells_one]; simp
theorem run_makeI (n : Nat) {C : Int} (hC : C = n) (hn : n ≤ 1000000) (w : World) : (Instr.makeSlice 42 (.int .i64 C) (.int .i64 C)).run Tryd.prog w =
    .ok (.slice (some ⟨w.heap.size, 0, none⟩) n n) (w.alloc (.cells ((List.replicate n 0).map (Value.int .i64)).toArray 3)) := by
  subst hC
  obtain ⟨i0, hi, hz0, hz1, hz2⟩ := info_parts infoI
  have hr := run_make (P := Tryd.prog) w 42 3 i0 (.int .i64 0) Tryd.underlying42 hi hz0 .i64 .i64 n n (by omega) (by omega) (by rw [hz2]; omega) (by omega)
  rw [hz1, madeI] at hr
  simpa using hr
/-- What an index answers. -/
def IdxP (lo hi b : Nat) (d : PgD) (seed : List Int) (p k : Nat) (w : World) (e : Ending) (w' : World) : Prop :=
  e = .returned (.int .i64 (blw seed (p : Int) 256 k).1) ∧ Pg w' lo hi b d seed (blw seed (p : Int) 256 k).2 ∧ Bx b w w'
/-- The loop of Scalars. -/
def SclR (lo hi b : Nat) (d : PgD) (seed : List Int) (M : Int) (k m : Nat) (w : World) (i : Value) (wr : World) : Prop :=
  ∃ (j : Nat) (cur : Array Value), j ≤ m ∧ i = .int .i64 j ∧ wr.heap[w.heap.size]? = some (.cells cur 30 (0, 0)) ∧ cur.size = m ∧
    (∀ p, p < j → ∃ Aj nj cj, cur[p]? = some (.slice Aj nj cj) ∧ Cn wr Aj nj cj (nmb seed M k p) ∧ ∀ a, Aj = some a → w.heap.size < a.block) ∧ Pg wr lo hi b d seed (cnt seed M k j) ∧ Bx b w wr
/-- The loop that fills a row with 0, 1, 2 .. -/
def PfR (n : Nat) (w : World) (i : Value) (wr : World) : Prop :=
  ∃ (j : Nat) (zs : List Int), j ≤ n ∧ i = .int .i64 j ∧ Row wr w.heap.size 3 .i64 zs ∧ zs.length = n ∧ (∀ p, p < j → dig zs p = (p : Int)) ∧ Bw w wr
/-- The shuffle: what is still to be done gives the same as all of it. -/
def PsR (lo hi b : Nat) (d : PgD) (seed : List Int) (n k g : Nat) (w : World) (i : Value) (wr : World) : Prop :=
  ∃ (q : Nat) (l : List Int) (kk : Nat), i = .int .i64 q ∧ q ≤ n - 1 ∧ prm seed n k = shf seed (n - 1 - q) (l, kk) ∧ Mn 3 .i64 wr w.heap.size (some ⟨g, 0, none⟩) n n l ∧ Pg wr lo hi b d seed kk ∧ kk + 256 * (n - 1 - q) ≤ k + 256 * n ∧ Bx b w wr
section
variable {w : World} {lo hi b k : Nat} {d : PgD} {seed : List Int} {A : Option Addr} {n c : Nat} {M : Int}
/-! ### An index -/
theorem dl_less {p : Nat} (h : p ≤ 1000000) : dl (p : Int) ≤ 32 := by
  refine Nat.le_trans (dl_le (by omega) (k := 1) ?_) (by omega)
  have : W ^ 1 = 18446744073709551616 := by decide
  omega
set_option maxHeartbeats 4000000 in
set_option maxRecDepth 100000 in
theorem index_any (hT : Tabs w) (h : Pg w lo hi b d seed k) (hk : k ≤ 800000000) (p : Nat) (hp : 1 ≤ p) (hp2 : p ≤ 1000000) :
    Calls Tryd.prog 29 #[.pointer (some ⟨b, 0, none⟩), .int .i64 p] w (IdxP lo hi b d seed p k w) := by
  have HT := Lib.hid hT
  have hbl := h.lt
  have HD := Lib.hid h
  have HM := Lib.hid (one_nm w (x := (p : Int)) (by omega) (by unfold W; omega))
  have hf := mk_fn
  have e1 : IntKind.u64.wrap (p : Int) = (p : Int) := by rw [IntKind.wrap_u64]; omega
  have hbd := blw_bd seed (M := (p : Int)) (by omega) 256 k
  obtain ⟨X, hX⟩ : ∃ X, blw seed (p : Int) 256 k = X := ⟨_, rfl⟩
  rw [hX] at hbd
  have HX := Lib.hid hX
  clear h hT hX
  go_enter Tryd.func29, Tryd.ntmps29
  go_wp2_with fail
  refine (first_any (HT.out.bw (Bw.alloc _ _)) (HD.out.bw (Bw.alloc _ _)) (by omega) HM.out (fun a ha _ => by injection ha with ha; subst ha; show w.heap.size ≠ b; omega) (by omega) (dl_less hp2)).mono ?_
  rintro e w2 ⟨B, m, cap, rfl, h1, h2, h3, h4⟩
  rw [HX.out] at h1 h3
  have H3 := Lib.hid h3
  have H4 := Lib.hid ((show Bx b w _ from (Bw.alloc w _).bx b).trans h4)
  clear h2 h3 h4 hf e1
  have e2 : IntKind.i64.wrap X.1 = X.1 := IntWalk.i64_in _ (by omega)
  rcases cn_small h1 (by omega) with ⟨g, rfl⟩ | ⟨g, rfl, gb, off, rfl, hlt, hc⟩
  · clear h1
    go_wp2_with fail
    go_ret
    exact ⟨by rw [HX.out, g]; rfl, by rw [HX.out]; exact H3.out, H4.out⟩
  · clear h1
    go_wp2_with fail
    go_ret
    exact ⟨by rw [HX.out]; rfl, by rw [HX.out]; exact H3.out, H4.out⟩
/-! ### Scalars -/
theorem p6scal_arg (hT : Tabs w) (h : Pg w lo hi b d seed k) (hm : Nm w A n c M) (m : Int) (h4 : m < 0 ∨ 4096 < m) :
    Calls Tryd.prog 18 #[.pointer (some ⟨b, 0, none⟩), .slice A n c, .int .i64 m] w (AnsD 1 lo hi b d seed k w) := by
  have HD := Lib.hid h
  clear h hT hm
  go_enter Tryd.func18, Tryd.ntmps18
  go_wp2_with fail
  refine (oor_yes m h4 w).mono ?_
  rintro e w1 ⟨rfl, rfl⟩
  go_wp2_with fail
  go_ret2
  exact ⟨rfl, HD.out, Bx.refl _ _⟩
theorem p6scal_zero (hT : Tabs w) (h : Pg w lo hi b d seed k) (hm : Nm w A n c 0) (m : Nat) (h4 : m ≤ 4096) :
    Calls Tryd.prog 18 #[.pointer (some ⟨b, 0, none⟩), .slice A n c, .int .i64 m] w (AnsD 1 lo hi b d seed k w) := by
  have HD := Lib.hid h
  have HM := Lib.hid hm
  have he := ne_nil1 1
  clear h hT hm
  go_enter Tryd.func18, Tryd.ntmps18
  go_wp2_with fail
  refine (oor_no m h4 w).mono ?_
  rintro e w1 ⟨rfl, rfl⟩
  go_wp2_with fail
  refine (refu_arg HM.out).mono ?_
  rintro e w1 ⟨rfl, rfl⟩
  go_wp2_with fail
  go_ret2
  exact ⟨rfl, HD.out, Bx.refl _ _⟩
theorem p6scal_long (hT : Tabs w) (h : Pg w lo hi b d seed k) (hm : Nm w A n c M) (hl : 32 < dl M) (m : Nat) (h4 : m ≤ 4096) :
    Calls Tryd.prog 18 #[.pointer (some ⟨b, 0, none⟩), .slice A n c, .int .i64 m] w (AnsD 2 lo hi b d seed k w) := by
  have HD := Lib.hid h
  have HM := Lib.hid hm
  have he := ne_nil1 2
  clear h hT hm
  go_enter Tryd.func18, Tryd.ntmps18
  go_wp2_with fail
  refine (oor_no m h4 w).mono ?_
  rintro e w1 ⟨rfl, rfl⟩
  go_wp2_with fail
  refine (refu_long HM.out hl).mono ?_
  rintro e w1 ⟨rfl, rfl⟩
  go_wp2_with fail
  go_ret2
  exact ⟨rfl, HD.out, Bx.refl _ _⟩
set_option maxHeartbeats 4000000 in
set_option maxRecDepth 100000 in
theorem p6scal (hT : Tabs w) (h : Pg w lo hi b d seed k) (hk : k ≤ 50000000) (hm : Nm w A n c M) (hA : ∀ a, A = some a → 0 < n → a.block ≠ b) (h0 : 0 < M) (hl : dl M ≤ 32) (m : Nat) (h4 : m ≤ 4096) :
    Calls Tryd.prog 18 #[.pointer (some ⟨b, 0, none⟩), .slice A n c, .int .i64 m] w fun e w' => ∃ B cap, e = .returned (.tuple #[.slice B m cap, .nilIface]) ∧ Scl w' w.heap.size B m cap (nmb seed M k) ∧ Pg w' lo hi b d seed (cnt seed M k m) ∧ Bx b w w' := by
  have hmk := fun W => run_makeN m (C := (m : Int)) rfl (by omega) W
  obtain ⟨Z, hZ⟩ : ∃ Z : Array Value, Z = (List.replicate m (Value.slice none 0 0)).toArray := ⟨_, rfl⟩
  rw [← hZ] at hmk
  have HZ := Lib.hid (show Z.size = m by rw [hZ]; simp)
  have HD := Lib.hid h
  have HT := Lib.hid hT
  have HM := Lib.hid hm
  have HA := Lib.hid hA
  have hbl := h.lt
  have htop := h.top
  have he := ne_nil0
  clear h hT hm hA hZ
  go_enter Tryd.func18, Tryd.ntmps18
  go_wp2_with fail
  refine (oor_no m h4 w).mono ?_
  rintro e w1 ⟨rfl, rfl⟩
  go_wp2_with fail
  refine (refu_ok HM.out h0 hl).mono ?_
  rintro e w1 ⟨rfl, rfl⟩
  go_wp2_with fail
  clear hmk he
  go_loopw [22] (fun i wr => SclR lo hi b d seed M k m w i wr) (fun i _ => m - (intOf i).toNat)
  case atStart => exact ⟨0, Z, Nat.zero_le _, rfl, heap_alloc_new w _, HZ.out, fun p hp => absurd hp (Nat.not_lt_zero p), HD.out.bw (Bw.alloc _ _), (Bw.alloc w _).bx b⟩
  case round =>
    obtain ⟨j, cur, hj, rfl, hrow, hcs, hcl, hpg, hbx⟩ := hrel
    have HR := Lib.hid hrow
    have HCS := Lib.hid hcs
    have HCL := Lib.hid hcl
    have HPG := Lib.hid hpg
    have HBX := Lib.hid hbx
    clear hrow hcs hcl hpg hbx
    rcases Nat.lt_or_ge j m with hlt | hge
    · --<L
      have hjm : (j : Int) < (m : Int) := by omega
      have hf := mk_fn
      have hcb := cnt_bd seed M k j
      go_wp2_with fail
      refine (first_any (HD.out.tabs HT.out HBX.out) HPG.out (by omega) (HM.out.bx HBX.out HA.out) HA.out h0 hl).mono ?_
      rintro e w4 ⟨B, q, cap, rfl, h1, h2, h3, h4'⟩
      have hbG : w.heap.size ≠ b := by omega
      have hsz : w.heap.size < wr.heap.size := (Array.getElem?_eq_some_iff.1 HR.out).1
      have hrow4 : w4.heap[w.heap.size]? = some (.cells cur 30 (0, 0)) := (h4'.block _ hsz hbG).trans HR.out
      have hf4 := frozen_of_row w4 w.heap.size j cur _ hrow4
      have hc4 : w4.cell? ⟨w.heap.size, j, none⟩ = some (cur[j]'(by rw [HCS.out]; exact hlt)) := by
        rw [cell_of_row w4 _ _ _ _ _ hrow4]; exact Array.getElem?_eq_getElem _
      have H1 := Lib.hid h1
      have H2 := Lib.hid h2
      have H3 := Lib.hid h3
      have H4 := Lib.hid h4'
      have HR4 := Lib.hid hrow4
      clear h1 h2 h3 h4' hrow4 hf
      go_wp2_with fail
      go_roundw
      case rel =>
        have hx : Bx w.heap.size w4 (w4.setCell ⟨w.heap.size, j, none⟩ (.slice B q cap)) := Bx.set _ _ _ _
        refine ⟨j + 1, cur.setIfInBounds j (.slice B q cap), by omega, by go_num, heap_setCell_same w4 _ _ _ _ _ HR4.out, by simp [HCS.out], fun p hp => ?_, H3.out.bx hx (.inr htop), (HBX.out.trans H4.out).set_new (Nat.le_refl _) _ _⟩
        rcases Nat.lt_or_ge p j with g | g
        · obtain ⟨Aj, nj, cj, k1, k2, k3⟩ := HCL.out p g
          refine ⟨Aj, nj, cj, by rw [Array.getElem?_setIfInBounds_ne (by omega)]; exact k1, (k2.bx H4.out (fun a ha => by have := k3 a ha; omega)).bx hx (fun a ha => by have := k3 a ha; omega), k3⟩
        · obtain rfl : p = j := by omega
          have hnew : ∀ a, B = some a → w.heap.size < a.block := fun a ha => Nat.lt_of_lt_of_le hsz (H2.out a ha)
          exact ⟨B, q, cap, by rw [Array.getElem?_setIfInBounds_self_of_lt (by rw [HCS.out]; exact hlt)], H1.out.bx hx (fun a ha => by have := hnew a ha; omega), hnew⟩
      case measure => simp [intOf]; omega
      --L>
    · obtain rfl : j = m := by omega
      have hjm : decide ((j : Int) < (j : Int)) = false := by simp
      go_wp2_with fail
      go_ret2
      refine ⟨_, _, rfl, ⟨Nat.le_refl _, fun hn => ⟨w.heap.size, 0, rfl, Nat.le_refl _, (Array.getElem?_eq_some_iff.1 HR.out).1, fun p hp => ?_⟩⟩, HPG.out, HBX.out⟩
      obtain ⟨Aj, nj, cj, k1, k2, k3⟩ := HCL.out p hp
      exact ⟨Aj, nj, cj, by rw [Nat.zero_add, cell_of_row wr _ _ _ _ _ HR.out]; exact k1, k2, fun a ha => Nat.le_of_lt (k3 a ha)⟩
/-! ### Perm -/
theorem p6perm_arg (hT : Tabs w) (h : Pg w lo hi b d seed k) (m : Int) (h4 : m < 0 ∨ 4096 < m) :
    Calls Tryd.prog 12 #[.pointer (some ⟨b, 0, none⟩), .int .i64 m] w (AnsD 1 lo hi b d seed k w) := by
  have HD := Lib.hid h
  clear h hT
  go_enter Tryd.func12, Tryd.ntmps12
  go_wp2_with fail
  refine (oor_yes m h4 w).mono ?_
  rintro e w1 ⟨rfl, rfl⟩
  go_wp2_with fail
  go_ret2
  exact ⟨rfl, HD.out, Bx.refl _ _⟩
set_option maxHeartbeats 8000000 in
set_option maxRecDepth 100000 in
theorem p6perm (hT : Tabs w) (h : Pg w lo hi b d seed k) (hk : k ≤ 50000000) (m : Nat) (h4 : m ≤ 4096) :
    Calls Tryd.prog 12 #[.pointer (some ⟨b, 0, none⟩), .int .i64 m] w fun e w' => ∃ A c, e = .returned (.tuple #[.slice A m c, .nilIface]) ∧ Mn 3 .i64 w' w.heap.size A m c (prm seed m k).1 ∧ Pg w' lo hi b d seed (prm seed m k).2 ∧ Bx b w w' := by
  have hmk := fun W => run_makeI m (C := (m : Int)) rfl (by omega) W
  obtain ⟨Z, hZ⟩ : ∃ Z : List Int, Z = List.replicate m 0 := ⟨_, rfl⟩
  rw [← hZ] at hmk
  have HZ := Lib.hid (show Z.length = m by rw [hZ]; simp)
  have HD := Lib.hid h
  have HT := Lib.hid hT
  have hbl := h.lt
  have htop := h.top
  clear h hT hZ
  go_enter Tryd.func12, Tryd.ntmps12
  go_wp2_with fail
  refine (oor_no m h4 w).mono ?_
  rintro e w1 ⟨rfl, rfl⟩
  go_wp2_with fail
  clear hmk
  go_loopw [17] (fun i wr => PfR m w i wr) (fun i _ => m - (intOf i).toNat)
  case atStart => exact ⟨0, Z, Nat.zero_le _, rfl, Row.new _ _ _ _, HZ.out, fun p hp => absurd hp (Nat.not_lt_zero p), Bw.alloc w _⟩
  case round =>
    obtain ⟨j, zs, hj, rfl, hrow, hzl, hz, hb⟩ := hrel
    have HZE := Lib.hid hz
    have HZL := Lib.hid hzl
    have HB := Lib.hid hb
    clear hz hb
    rcases Nat.lt_or_ge j m with hlt | hge
    · --<L1
      have hjm : (j : Int) < (m : Int) := by omega
      have fz := hrow.frozen j
      have cz := hrow.cell (getElem?_dig (show j < zs.length by omega))
      have HR := Lib.hid hrow
      clear hzl hrow
      go_wp2_with fail
      go_roundw
      case rel =>
        refine ⟨j + 1, _, by omega, by go_num, HR.out.set _ _, by simpa using HZL.out, fun p hp => ?_, (show Below w.heap.size w wr from HB.out).setCell (Nat.le_refl _) _⟩
        rcases Nat.lt_or_ge p j with g | g
        · rw [dig_set_ne (by omega)]; exact HZE.out p g
        · obtain rfl : p = j := by omega
          rw [dig_set_same (by rw [HZL.out]; omega)]
      case measure => simp [intOf]; omega
      --L1>
    · obtain rfl : j = m := by omega
      have hjm : decide ((j : Int) < (j : Int)) = false := by simp
      have hzu : zs = ups j := ext_dig (by rw [hzl, ups_len]) (fun p hp => by rw [HZE.out p (by omega)]; unfold ups dig; simp [show p < j by omega])
      have e1 : IntKind.i64.wrap ((j : Int) - 1) = (j : Int) - 1 := IntWalk.i64_in _ (by omega)
      have HMN := Lib.hid (mn_row (n := j) (c := j) hrow hzl (Nat.le_refl _) (Nat.le_refl _))
      have HZU := Lib.hid hzu
      clear hrow hzl hzu HZE
      go_wp2_with fail
      go_loopw [27] (fun i wr => PsR lo hi b d seed j k w.heap.size w i wr) (fun i _ => j - (intOf i).toNat)
      case atStart => exact ⟨0, ups j, k, rfl, Nat.zero_le _, rfl, by rw [← HZU.out]; exact HMN.out, HD.out.bw HB.out, by omega, HB.out.bx b⟩
      case round =>
        clear hjm
        obtain ⟨q, l, kk, rfl, hq, hsh, hm, hpg, hkk, hbx⟩ := hrel
        have HSH := Lib.hid hsh
        have HMM := Lib.hid hm
        have HPG := Lib.hid hpg
        have HBX := Lib.hid hbx
        clear hsh hm hpg hbx
        rcases Int.lt_or_le (q : Int) ((j : Int) - 1) with g | g
        · --<L2
          obtain ⟨p, hp⟩ : ∃ p, j - 1 - q = p := ⟨_, rfl⟩
          have e2 : IntKind.i64.wrap ((j : Int) - 1 - (q : Int)) = (p : Int) := by rw [IntWalk.i64_in _ (by omega)]; omega
          have e3 : IntKind.i64.wrap ((p : Int) + 1) = ((p + 1 : Nat) : Int) := by rw [IntWalk.i64_in _ (by omega)]; omega
          obtain ⟨X, hX⟩ : ∃ X, blw seed ((p + 1 : Nat) : Int) 256 kk = X := ⟨_, rfl⟩
          have hXb := blw_bd seed (M := ((p + 1 : Nat) : Int)) (by omega) 256 kk
          have hXc := blw_count seed ((p + 1 : Nat) : Int) 256 kk
          rw [hX] at hXb hXc
          have HX := Lib.hid hX
          obtain ⟨xv, xk⟩ := X
          simp only at hXb hXc
          obtain ⟨jj, rfl⟩ : ∃ jj : Nat, xv = (jj : Int) := ⟨xv.toNat, by omega⟩
          have hjq : jj ≤ p := by omega
          have hp1 : 1 ≤ p := by omega
          have hpj : p < j := by omega
          have HST := Lib.hid (show prm seed j k = shf seed (j - 1 - (q + 1)) (swp l p jj, xk) by
            obtain ⟨p', rfl⟩ : ∃ p', p = p' + 1 := ⟨p - 1, by omega⟩
            rw [HSH.out, hp, shf, show ((p' : Int) + 2) = ((p' + 1 + 1 : Nat) : Int) by omega, show j - 1 - (q + 1) = p' by omega]
            simp only
            rw [HX.out]
            simp)
          have HP := Lib.hid hp
          clear hX hp
          go_wp2_with fail
          refine (index_any (HD.out.tabs HT.out HBX.out) HPG.out (by omega) (p + 1) (by omega) (by omega)).mono ?_
          rintro e w4 ⟨rfl, h1, h2⟩
          rw [HX.out] at h1 ⊢
          have hgG : w.heap.size ≠ b := by omega
          have HM4 := HMM.out.bx h2 (fun a ha => by injection ha with ha; subst ha; exact hgG)
          have HD4 := Lib.hid h1
          have HB4 := Lib.hid (HBX.out.trans h2)
          clear h1 h2 e2 e3
          have ci := HM4.cell (j := p) (by omega)
          have cj := HM4.cell (j := jj) (by omega)
          have bi1 : (p : Int) < (j : Int) := by omega
          have bi2 : (jj : Int) < (j : Int) := by omega
          have fi := HM4.frozen (j := p) (by omega)
          have fj := HM4.frozen (j := jj) (by omega)
          have cs2 := (HM4.set (j := p) (by omega) (dig l jj)).cell (j := jj) (by omega)
          have fs2 := (HM4.set (j := p) (by omega) (dig l jj)).frozen (j := jj) (by omega)
          have MS := Lib.hid (show Mn 3 .i64 ((w4.setCell ⟨w.heap.size, p, none⟩ (.int .i64 (dig l jj))).setCell ⟨w.heap.size, jj, none⟩ (.int .i64 (dig l p))) w.heap.size (some ⟨w.heap.size, 0, none⟩) j j (swp l p jj) from
            (HM4.set (by omega) _).set (by omega) _)
          have BS := Lib.hid ((HB4.out.set_new (Nat.le_refl _) p (.int .i64 (dig l jj))).set_new (Nat.le_refl _) jj (.int .i64 (dig l p)))
          have DS := Lib.hid ((HD4.out.bx (Bx.set w.heap.size p w4 (.int .i64 (dig l jj))) (.inr htop)).bx (Bx.set w.heap.size jj _ (.int .i64 (dig l p))) (.inr htop))
          obtain ⟨di, hdi⟩ : ∃ di, dig l p = di := ⟨_, rfl⟩
          obtain ⟨dj, hdj⟩ : ∃ dj, dig l jj = dj := ⟨_, rfl⟩
          rw [hdi] at ci
          rw [hdj] at cj
          rw [hdi, hdj] at MS BS DS
          rw [hdj] at cs2 fs2
          obtain ⟨v2, hv2⟩ : ∃ v2, dig (l.set p dj) jj = v2 := ⟨_, rfl⟩
          rw [hv2] at cs2
          clear hdi hdj hv2 HM4
          go_wp2_with fail
          go_region
          all_goals
            go_wp2_with fail
            go_roundw
            case rel => exact ⟨q + 1, _, _, by go_num, by omega, HST.out, MS.out.bw (Bw.drew _), DS.out.bw (Bw.drew _), by have := HP.out; omega, BS.out.trans (Bx.drew _ _)⟩
            case measure => simp [intOf]; omega
          --L2>
        · --<END
          have hf : decide ((q : Int) < (j : Int) - 1) = false := by simp; omega
          have HE := Lib.hid (show prm seed j k = (l, kk) by rw [HSH.out, show j - 1 - q = 0 by omega]; rfl)
          go_wp2_with fail
          go_ret2
          exact ⟨_, _, rfl, by rw [HE.out]; exact HMM.out, by rw [HE.out]; exact HPG.out, HBX.out⟩
          --END>
end
end Go.Proofs.YtbffcgnefkkhoaaDoor
