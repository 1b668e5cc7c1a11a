/-
  Several texts in one: Nmd, Pr3.
-/
import Derived.Test.YtcnekfpgoceblaaPca
import Derived.Test.YtcnekfpgoceblaaPkg
import Derived.Test.YtcnekfpgoceblaaPcc
import Derived.RegionTactic
import Derived.BigRegion
/-
  How numbers are read off bytes, in numbers: limbs one behind the other. No call is spoken of.
-/
namespace Go.Proofs.Ytcnekfpgoceblaa
set_option linter.unusedVariables false
/-- So many limbs off the head of some bytes. -/
def lms : Nat → List Int → List Int
  | 0, _ => []
  | n + 1, R => limV R :: lms n (R.drop 8)
theorem lms_len : ∀ (n : Nat) (R : List Int), (lms n R).length = n := fun n => by
  induction n with
  | zero => intro R; rfl
  | succ n ih => intro R; show (lms n (R.drop 8)).length + 1 = _; rw [ih]
theorem lms_at : ∀ (n : Nat) (R : List Int) (i : Nat), i < n → dig (lms n R) i = limV (R.drop (8 * i)) := fun n => by
  induction n with
  | zero => intro R i h; omega
  | succ n ih =>
    intro R i h
    cases i with
    | zero => rfl
    | succ i =>
      show dig (lms n (R.drop 8)) i = _
      rw [ih _ i (by omega), List.drop_drop]
      congr 2
      omega
theorem limN : ∀ (n : Nat) (R : List Int), limC.decN n R = if 8 * n ≤ R.length then some (lms n R, R.drop (8 * n)) else none := fun n => by
  induction n with
  | zero => intro R; rw [if_pos (by omega)]; rfl
  | succ n ih =>
    intro R
    rw [Cdc.decN, show limC.dec R = if 8 ≤ R.length then some (limV R, R.drop 8) else none from rfl]
    by_cases h : 8 ≤ R.length
    · rw [if_pos h]
      simp only
      rw [ih, List.length_drop, List.drop_drop]
      by_cases g : 8 * n ≤ R.length - 8
      · rw [if_pos g, if_pos (by omega), show 8 + 8 * n = 8 * (n + 1) by omega]; rfl
      · rw [if_neg g, if_neg (by omega)]
    · rw [if_neg h, if_neg (by omega)]
theorem numC_none {L : List Int} (h : cntC.dec L = none) : numC.dec L = none := by
  unfold numC Cdc.filt listC
  simp only [h]
theorem numC_at {L R : List Int} {n : Nat} (h : cntC.dec L = some (n, R)) :
    numC.dec L = if n ≤ 64 ∧ 8 * n ≤ R.length ∧ lastB (lms n R) = true then some (lms n R, R.drop (8 * n)) else none := by
  unfold numC Cdc.filt listC
  simp only [h, limN]
  by_cases g : 8 * n ≤ R.length
  · rw [if_pos g]
    simp only [lms_len, Bool.and_eq_true, decide_eq_true_eq]
    by_cases g2 : n ≤ 64 ∧ lastB (lms n R) = true
    · rw [if_pos g2, if_pos ⟨g2.1, g, g2.2⟩]
    · rw [if_neg g2, if_neg (by rintro ⟨a, b, c⟩; exact g2 ⟨a, c⟩)]
  · rw [if_neg g, if_neg (by rintro ⟨a, b, c⟩; exact g b)]
theorem dig_dropI (l : List Int) (a i : Nat) : dig (l.drop a) i = dig l (a + i) := by
  unfold dig
  rw [List.getD_eq_getElem?_getD, List.getD_eq_getElem?_getD, List.getElem?_drop]
theorem dig_takeI {l : List Int} {a i : Nat} (h : i < a) : dig (l.take a) i = dig l i := by
  unfold dig
  rw [List.getD_eq_getElem?_getD, List.getD_eq_getElem?_getD, List.getElem?_take_of_lt h]
theorem lms_take (n : Nat) (R : List Int) : lms n (R.take (8 * n)) = lms n R := by
  refine ext_dig (by rw [lms_len, lms_len]) fun i hi => ?_
  rw [lms_len] at hi
  rw [lms_at n _ i hi, lms_at n _ i hi]
  unfold limV
  rw [vf8, vf8]
  simp only [dig_dropI]
  rw [dig_takeI (by omega), dig_takeI (by omega), dig_takeI (by omega), dig_takeI (by omega), dig_takeI (by omega), dig_takeI (by omega), dig_takeI (by omega), dig_takeI (by omega)]
theorem lms_dig {R : List Int} (hd : Dig 256 R) : ∀ n : Nat, Dig 18446744073709551616 (lms n R) := fun n x hx => by
  obtain ⟨i, hi, rfl⟩ := List.getElem_of_mem hx
  rw [lms_len] at hi
  have h := lms_at n R i hi
  unfold dig at h
  rw [List.getD_eq_getElem?_getD, List.getElem?_eq_getElem (by rw [lms_len]; exact hi)] at h
  have h2 : (lms n R)[i]'(by rw [lms_len]; exact hi) = limV (R.drop (8 * i)) := h
  rw [h2]
  exact limV_bd fun y hy => hd y (List.mem_of_mem_drop hy)
theorem lastB_at {xs : List Int} {n : Nat} (hl : xs.length = n) (hn : 0 < n) : lastB xs = true ↔ dig xs (n - 1) ≠ 0 := by
  unfold lastB
  rw [List.getLast?_eq_getElem?, hl, bne_iff_ne]
  unfold dig
  rw [List.getD_eq_getElem?_getD, List.getElem?_eq_getElem (by omega)]
  simp
theorem lastB_nil : lastB [] = true := rfl
theorem pw8 (m : Nat) : pw (8 * m) = 256 ^ m := by
  unfold pw
  rw [show (256 : Int) = 2 ^ 8 by decide, ← Int.pow_mul]
/-- What has been told of the limbs behind k bytes. -/
structure Lmk (bs zs : List Int) (u k : Nat) : Prop where
  len : zs.length = u
  dig_ : Dig W zs
  hi : ∀ j, k / 8 < j → dig zs j = 0
  lo : ∀ j, j < k / 8 → dig zs j = limV (bs.drop (8 * j))
  cur : k / 8 < u → dig zs (k / 8) = vf 256 (fun i => dig bs (8 * (k / 8) + i)) (k % 8)
  bd : dig zs (k / 8) < pw (8 * (k % 8))
theorem Lmk.zero (bs : List Int) (u : Nat) : Lmk bs (List.replicate u 0) u 0 :=
  ⟨by simp, fun x hx => by simp at hx; rw [hx.2]; exact ⟨by decide, by decide⟩, fun j _ => dig_replicate _ _, fun j hj => absurd hj (by omega), fun _ => by rw [dig_replicate]; rfl, by rw [dig_replicate]; exact pw_pos _⟩
theorem Lmk.step {bs zs : List Int} {u k : Nat} (h : Lmk bs zs u k) (hk : k < 8 * u) {b v : Int} (hb : dig bs k = b) (b0 : 0 ≤ b) (b1 : b < 256) (hv : v = dig zs (k / 8) + pw (8 * (k % 8)) * b) : Lmk bs (zs.set (k / 8) v) u (k + 1) := by
  have hm : k / 8 < zs.length := by rw [h.len]; omega
  have hz := h.cur (by omega)
  obtain ⟨o1, o2, o3, o4⟩ := or_byte (r := k % 8) (by omega) (dig_W h.dig_ (k / 8)).1 h.bd b0 b1
  have hset : dig (zs.set (k / 8) v) (k / 8) = v := dig_set_same hm
  have e8 : 8 * (k / 8) + k % 8 = k := by omega
  have hvv : v = vf 256 (fun i => dig bs (8 * (k / 8) + i)) (k % 8 + 1) := by
    show v = vf 256 (fun i => dig bs (8 * (k / 8) + i)) (k % 8) + dig bs (8 * (k / 8) + k % 8) * 256 ^ (k % 8)
    rw [e8, hb, ← hz, hv, pw8, Int.mul_comm b]
  refine ⟨by rw [List.length_set, h.len], h.dig_.set (by rw [hv]; exact o3) (by rw [hv]; omega) _, fun j hj => ?_, fun j hj => ?_, fun hu => ?_, ?_⟩
  · rw [dig_set_ne (by omega)]; exact h.hi j (by omega)
  · rcases Nat.lt_or_ge j (k / 8) with g | g
    · rw [dig_set_ne (by omega)]; exact h.lo j g
    · obtain rfl : j = k / 8 := by omega
      rw [hset, hvv, show k % 8 + 1 = 8 by omega]
      unfold limV
      congr 1
      funext i
      rw [dig_dropI]
  · rcases Nat.lt_or_ge (k % 8) 7 with g | g
    · rw [show (k + 1) / 8 = k / 8 by omega, show (k + 1) % 8 = k % 8 + 1 by omega, hset, hvv]
    · rw [show (k + 1) / 8 = k / 8 + 1 by omega, show (k + 1) % 8 = 0 by omega, dig_set_ne (by omega), h.hi _ (by omega)]; rfl
  · rcases Nat.lt_or_ge (k % 8) 7 with g | g
    · rw [show (k + 1) / 8 = k / 8 by omega, show (k + 1) % 8 = k % 8 + 1 by omega, hset, hv]; exact o2
    · rw [show (k + 1) / 8 = k / 8 + 1 by omega, show (k + 1) % 8 = 0 by omega, dig_set_ne (by omega), h.hi _ (by omega)]; exact pw_pos _
theorem Lmk.end_ {bs zs : List Int} {u : Nat} (h : Lmk bs zs u (8 * u)) : zs = lms u bs := by
  refine ext_dig (by rw [h.len, lms_len]) fun j hj => ?_
  rw [h.len] at hj
  rw [lms_at u bs j hj, h.lo j (by omega)]
end Go.Proofs.Ytcnekfpgoceblaa
/-
  The program's reader: what number answers.
-/
namespace Go.Proofs.Ytcnekfpgoceblaa
open Go.RowKit
set_option linter.unusedVariables false
theorem Rd.ti {k : IntKind} {r : Nat} {w w' : World} {A : Option Addr} {n : Nat} {xs : List Int} (h : Rd k w A n xs) (ht : Ti r w w') (hA : ∀ a, A = some a → 0 < n → a.block ≠ r) : Rd k w' A n xs :=
  ⟨h.len, fun hn => by
    obtain ⟨b, off, e, hl, hc⟩ := h.cells hn
    exact ⟨b, off, e, Nat.lt_of_lt_of_le hl ht.size, fun j x hj => (World.cell?_of_block (a := ⟨b, off + j, none⟩) (ht.block b hl (hA _ e hn))).trans (hc j x hj)⟩⟩
def RnP (r : Nat) (L : List Int) (q : Bool) (w : World) (e : Ending) (w' : World) : Prop :=
  ∃ (A : Option Addr) (n c : Nat) (xs L' : List Int) (q' : Bool), e = .returned (.slice A n c) ∧ Rd .u64 w' A n xs ∧ Dig W xs ∧ n ≤ c ∧ n ≤ 64 ∧ (∀ a, A = some a → w.heap.size ≤ a.block) ∧ Rw w' r L' q' ∧ Ti r w w' ∧ Rx numC L q xs L' q'
def RnR (bs : List Int) (u : Nat) (w : World) (i : Value) (wr : World) : Prop :=
  ∃ (k : Nat) (zs : List Int), i = .int .i64 k ∧ k ≤ 8 * u ∧ Row wr w.heap.size 41 .u64 zs ∧ Lmk bs zs u k ∧ Below w.heap.size w wr
set_option maxHeartbeats 8000000 in
set_option maxRecDepth 100000 in
theorem rnum_any {w : World} {r : Nat} {L : List Int} {q : Bool} (h : Rw w r L q) :
    Calls Try.prog 56 #[.pointer (some ⟨r, 0, none⟩)] w (RnP r L q w) := by
  have H := Lib.hid h
  clear h
  go_enter Try.func56, Try.ntmps56
  go_wp2_with fail
  refine (rcnt_any (most := 64) H.out (by decide)).mono ?_
  rintro e w1 ⟨u, L1, q1, rfl, hu, h1, b1, x1, x2⟩
  have H1 := Lib.hid h1
  have B1 := Lib.hid b1
  have X1 := Lib.hid x1
  have X2 := Lib.hid x2
  have e8 : IntKind.u64.wrap (8 * (u : Int)) = ((8 * u : Nat) : Int) := by rw [IntKind.wrap_u64]; omega
  clear h1 b1 x1 x2
  go_wp2_with fail
  refine (rtake_any (N := 8 * u) H1.out (by omega)).mono ?_
  rintro e w2 ⟨A, n, c, bs, L2, q2, rfl, hr, hdg, hnc, h2, b2, x3⟩
  have H2 := Lib.hid h2
  have B2 := Lib.hid (B1.out.trans b2)
  have X3 := Lib.hid x3
  have R2 := Lib.hid hr
  have DG := Lib.hid hdg
  have HLN := Lib.hid hr.len
  clear h2 b2 x3 hr hdg e8
  rcases Nat.eq_zero_or_pos n with n0 | n0
  · have e0 : ((n : Int) == 0) = true := by simp; omega
    have FIN := Lib.hid (show Rx numC L q [] L2 q2 by
      have hl := HLN.out
      rcases X1.out with ⟨k1, k2, k3⟩ | ⟨k1, k2⟩
      · have h9 : cntC.dec L = some (u, L1) := by
          cases hc : cntC.dec L with
          | none => rw [cmC_none hc] at k2; cases k2
          | some x =>
            obtain ⟨v, R⟩ := x
            rw [cmC_some hc] at k2
            split at k2
            · injection k2 with k2
              injection k2 with k4 k5
              subst k4 k5
              rfl
            · cases k2
        rcases X3.out with ⟨j1, j2, j3, j4⟩ | ⟨j1, j2, j3⟩
        · have hu0 : u = 0 := by
            rw [j2, List.length_take] at hl
            omega
          subst hu0
          refine .inl ⟨k1, ?_, by rw [j4, k3]⟩
          rw [numC_at h9, if_pos ⟨by decide, by omega, rfl⟩, j3]; rfl
        · exact .inr ⟨.inr (by rw [numC_at h9, if_neg (by rintro ⟨-, a, -⟩; omega)]), j3⟩
      · refine .inr ⟨k1.imp_right fun h8 => ?_, ?_⟩
        · cases hc : cntC.dec L with
          | none => exact numC_none hc
          | some x =>
            obtain ⟨v, R⟩ := x
            rw [cmC_some hc] at h8
            split at h8
            · cases h8
            · rw [numC_at hc, if_neg (by rintro ⟨a, -⟩; omega)]
        · rcases X3.out with ⟨-, -, -, j4⟩ | ⟨-, -, j3⟩
          · rw [j4, k2]
          · exact j3)
    clear n0
    go_wp2_with fail
    go_ret
    exact ⟨none, 0, 0, [], L2, q2, rfl, Rd.nil _ _ _, fun x hx => (by cases hx), Nat.le_refl _, by decide, fun a ha => (by cases ha), H2.out, B2.out, FIN.out⟩
  · obtain ⟨hbs, hL2, hq2, hle⟩ : bs = L1.take (8 * u) ∧ L2 = L1.drop (8 * u) ∧ q2 = q1 ∧ 8 * u ≤ L1.length := by
      rcases X3.out with ⟨j1, j2, j3, j4⟩ | ⟨j1, j2, j3⟩
      · exact ⟨j2, j3, j4, j1⟩
      · have hl := HLN.out
        rw [j2] at hl
        simp at hl; omega
    have hn : n = 8 * u := by
      have hl := HLN.out
      rw [hbs, List.length_take] at hl; omega
    have u0 : 0 < u := by omega
    have hq1 : q1 = false := by
      cases q1 with
      | false => rfl
      | true => have := X2.out rfl; omega
    have HBS := Lib.hid hbs
    have HL2 := Lib.hid hL2
    have HLE := Lib.hid hle
    have HQ1 := Lib.hid hq1
    have HQ2 := Lib.hid (hq2.trans hq1)
    obtain ⟨hq, hdec⟩ : q = false ∧ cntC.dec L = some (u, L1) := by
      rcases X1.out with ⟨k1, k2, k3⟩ | ⟨k1, k2⟩
      · refine ⟨k1, ?_⟩
        cases hc : cntC.dec L with
        | none => rw [cmC_none hc] at k2; cases k2
        | some x =>
          obtain ⟨v, R⟩ := x
          rw [cmC_some hc] at k2
          split at k2
          · injection k2 with k2
            injection k2 with k4 k5
            subst k4 k5
            rfl
          · cases k2
      · rw [hq1] at k2; cases k2
    have HQ := Lib.hid hq
    have HDEC := Lib.hid hdec
    clear hbs hL2 hq2 hle hq1 hq hdec X1 X2 X3
    have HN := Lib.hid hn
    have n512 : n ≤ 512 := by omega
    have e0 : ((n : Int) == 0) = false := by simp; omega
    have e9 : (n : Int) / 8 = (u : Int) := by omega
    have hmk := fun W => run_make64 u (C := (u : Int)) rfl (by omega) W
    obtain ⟨Z, hZ⟩ : ∃ Z : List Int, Z = List.replicate u 0 := ⟨_, rfl⟩
    rw [← hZ] at hmk
    have HZ := Lib.hid hZ
    have s2 := H2.out.lt
    clear hZ hn
    go_wp2_with fail
    clear hmk e9 e0
    go_loopw [21] (fun i wr => RnR bs u w2 i wr) (fun i _ => n - (intOf i).toNat)
    case atStart => exact ⟨0, Z, rfl, Nat.zero_le _, Row.new _ _ _ _, by rw [HZ.out]; exact Lmk.zero _ _, (Below.refl _ _).alloc (Nat.le_refl _) _⟩
    case round =>
      obtain ⟨k, zs, rfl, hk, hrow, hlm, hb⟩ := hrel
      have HLM := Lib.hid hlm
      rcases Nat.lt_or_ge k n with hlt | hge
      · have hki : (k : Int) < (n : Int) := by omega
        obtain ⟨ba, oa, b, rfl, hba, hbx, hcb⟩ := R2.out.at_ (j := k) hlt
        have hcb2 := (hb.cell (p := ⟨ba, oa + k, none⟩) hba).trans hcb
        have hbe := dig_lt hbx
        have db := dig_bd (b := 256) (by decide) DG.out k
        rw [hbe] at db
        have hku : k < 8 * u := by have := HN.out; omega
        have hm1 : k / 8 < u := by omega
        have fz := hrow.frozen (k / 8)
        have cz := hrow.cell (getElem?_dig (show k / 8 < zs.length by rw [hlm.len]; exact hm1))
        have dz := dig_W hlm.dig_ (k / 8)
        obtain ⟨z, hz⟩ : ∃ z, dig zs (k / 8) = z := ⟨_, rfl⟩
        have hz1 := hlm.bd
        rw [hz] at cz dz hz1
        obtain ⟨o1, o2, o3, o4⟩ := or_byte (r := k % 8) (by omega) dz.1 hz1 db.1 db.2
        have HO1 := Lib.hid o1
        have STEP := Lib.hid (hlm.step hku hbe db.1 db.2 (v := bits .or .u64 z (IntKind.u64.wrap (b * 2 ^ (8 * (k % 8))))) (by rw [o1, hz]))
        have hnb : ba ≠ w2.heap.size := Nat.ne_of_lt hba
        have e7 : IntKind.u64.wrap b = b := by rw [IntKind.wrap_u64]; omega
        clear o1 hz hbe hbx hcb hlm o2 o3 o4 hz1
        go_wp2_with fail
        go_region
        all_goals
          go_wp2
          go_roundw
          case rel => exact ⟨k + 1, _, by go_num, by omega, (hrow.set _ _).drew, STEP.out, (hb.setCell (Nat.le_refl _) _).drew⟩
          case measure => simp [intOf]; omega
      · have hkn : k = n := by have := HN.out; omega
        have hlu : Lmk bs zs u (8 * u) := by rw [← HN.out, ← hkn]; exact hlm
        have hki : decide (k < n) = false := by simp; omega
        have HE := Lib.hid (show zs = lms u L1 by rw [hlu.end_, HBS.out, lms_take])
        obtain ⟨p, hp⟩ : ∃ p, p + 1 = u := ⟨u - 1, by omega⟩
        have hpz : p < zs.length := by rw [hlm.len]; omega
        have cz := hrow.cell (getElem?_dig hpz)
        have g2 : (u : Int) - 1 = (p : Int) := by omega
        have g3 : IntKind.i64.wrap (p : Int) = (p : Int) := IntWalk.i64_in _ (by omega)
        have g4 : (p : Int) < (u : Int) := by omega
        obtain ⟨z, hz⟩ : ∃ z, dig zs p = z := ⟨_, rfl⟩
        rw [hz] at cz
        have HZZ := Lib.hid hz
        have HP := Lib.hid hp
        have LST := Lib.hid (show lastB (lms u L1) = true ↔ z ≠ 0 by
          rw [← HE.out, lastB_at hlm.len u0, ← hp, Nat.add_sub_cancel, hz])
        have HB := Lib.hid hb
        have HR := Lib.hid (hrow.rd hlm.len (fun j x hx => by rwa [Nat.zero_add]) : Rd .u64 wr (some ⟨w2.heap.size, 0, none⟩) u zs)
        have HZD := Lib.hid hlm.dig_
        have HS := Lib.hid (Nat.le_trans B2.out.size (Nat.le_refl w2.heap.size))
        clear hz hp hlm hlu hb hkn hk hge
        by_cases z0 : z = 0
        · have e1 : ((z : Int) == 0) = true := by simp [z0]
          have Z0 := Lib.hid z0
          clear z0
          go_wp2_with fail
          refine (rfail_any (H2.out.below HB.out)).mono ?_
          rintro e w4 ⟨rfl, h4, b4⟩
          have H4 := Lib.hid h4
          have B4 := Lib.hid b4
          clear h4 b4
          go_wp2_with fail
          go_ret
          refine ⟨some ⟨w2.heap.size, 0, none⟩, u, u, zs, [], true, rfl, HR.out.ti B4.out (fun a ha _ => by injection ha with ha; subst ha; exact (Nat.ne_of_lt s2).symm), HZD.out, Nat.le_refl _, hu, fun a ha => by injection ha with ha; subst ha; exact HS.out, H4.out, (B2.out.trans (Ti.of HB.out (Nat.le_refl _))).trans B4.out, .inr ⟨.inr ?_, rfl⟩⟩
          rw [numC_at HDEC.out, if_neg]
          rintro ⟨-, -, a⟩
          exact LST.out.1 a Z0.out
        · have e1 : ((z : Int) == 0) = false := by simpa using z0
          have Z0 := Lib.hid z0
          clear z0
          go_wp2_with fail
          go_ret
          refine ⟨some ⟨w2.heap.size, 0, none⟩, u, u, zs, L2, q2, rfl, HR.out, HZD.out, Nat.le_refl _, hu, fun a ha => by injection ha with ha; subst ha; exact HS.out, H2.out.below HB.out, B2.out.trans (Ti.of HB.out (Nat.le_refl _)), .inl ⟨HQ.out, ?_, HQ2.out⟩⟩
          rw [numC_at HDEC.out, if_pos ⟨hu, HLE.out, LST.out.2 Z0.out⟩, HE.out, HL2.out]
end Go.Proofs.Ytcnekfpgoceblaa
