/-
  What nat.Cmp answers: -1, 0 or 1, as the one number stands to the other.
-/
import Derived.Test.YtloajnaphenbjaaGreatDoorNm
import Derived.Deep.QuietTactic
import Derived.BigQuiet
namespace Go.Proofs.YtloajnaphenbjaaGreatDoor
open Go.RowKit

theorem quiet_add {P : Program} {f : FuncId} {args : Array Value} {w : World} {a n : Nat} {v : Value}
    (h : Calls P f args (w.drewN (a + n)) fun e w' => e = .returned v ∧ w.drewN (a + n) = w') :
    Calls P f args (w.drewN (a + n)) fun e w'' => e = .returned v ∧ ∃ m, w'' = w.drewN (a + m) :=
  h.mono fun _ _ ⟨he, hm⟩ => ⟨he, n, hm.symm⟩
theorem quiet_one {P : Program} {f : FuncId} {args : Array Value} {w : World} {n : Nat} {v : Value}
    (h : Calls P f args (w.drewN n) fun e w' => e = .returned v ∧ w.drewN n = w') : Calls P f args (w.drewN n) fun e w'' => e = .returned v ∧ ∃ m, w'' = w.drewN m :=
  h.mono fun _ _ ⟨he, hm⟩ => ⟨he, n, hm.symm⟩

/-- -1, 0, 1. -/
def cmpI (a b : Int) : Int := if a < b then -1 else if b < a then 1 else 0
theorem cmpI_lt {a b : Int} (h : a < b) : cmpI a b = -1 := by simp [cmpI, h]
theorem cmpI_gt {a b : Int} (h : b < a) : cmpI a b = 1 := by unfold cmpI; rw [if_neg (by omega), if_pos h]
theorem cmpI_eq (a : Int) : cmpI a a = 0 := by simp [cmpI]
theorem cmpI_bd (a b : Int) : -1 ≤ cmpI a b ∧ cmpI a b ≤ 1 := by unfold cmpI; split <;> (try split) <;> omega
theorem cmpI_flip (a b : Int) : cmpI b a = -cmpI a b := by unfold cmpI; split <;> split <;> (try split) <;> omega

theorem isNaN_int (a : Int) (w : World) : Calls Tryz.prog 102 #[.int .i64 a] w fun e w' => e = .returned (.bool false) ∧ w = w' := by
  go_enter Tryz.func102, Tryz.ntmps102
  go_wp2
  go_ret
  exact ⟨by simp, rfl⟩
theorem isNaN_u64 (a : Int) (w : World) : Calls Tryz.prog 103 #[.int .u64 a] w fun e w' => e = .returned (.bool false) ∧ w = w' := by
  go_enter Tryz.func103, Tryz.ntmps103
  go_wp2
  go_ret
  exact ⟨by simp, rfl⟩
theorem compare_int (a b : Int) (w : World) : Calls Tryz.prog 62 #[.int .i64 a, .int .i64 b] w fun e w' => e = .returned (.int .i64 (cmpI a b)) ∧ w = w' := by
  rcases Int.lt_trichotomy a b with h | h | h
  · rw [cmpI_lt h]
    go_enter Tryz.func62, Tryz.ntmps62
    go_wp2_with (go_at_call 102; refine (isNaN_int _ _).mono ?_; rintro e w1 ⟨rfl, rfl⟩)
    go_ret
    exact ⟨rfl, rfl⟩
  · subst h
    rw [cmpI_eq]
    go_enter Tryz.func62, Tryz.ntmps62
    go_wp2_with (go_at_call 102; refine (isNaN_int _ _).mono ?_; rintro e w1 ⟨rfl, rfl⟩)
    go_ret
    exact ⟨rfl, rfl⟩
  · rw [cmpI_gt h]
    go_enter Tryz.func62, Tryz.ntmps62
    go_wp2_with (go_at_call 102; refine (isNaN_int _ _).mono ?_; rintro e w1 ⟨rfl, rfl⟩)
    go_ret
    exact ⟨rfl, rfl⟩
theorem compare_u64 (a b : Int) (w : World) : Calls Tryz.prog 63 #[.int .u64 a, .int .u64 b] w fun e w' => e = .returned (.int .i64 (cmpI a b)) ∧ w = w' := by
  rcases Int.lt_trichotomy a b with h | h | h
  · rw [cmpI_lt h]
    go_enter Tryz.func63, Tryz.ntmps63
    go_wp2_with (go_at_call 103; refine (isNaN_u64 _ _).mono ?_; rintro e w1 ⟨rfl, rfl⟩)
    go_ret
    exact ⟨rfl, rfl⟩
  · subst h
    rw [cmpI_eq]
    go_enter Tryz.func63, Tryz.ntmps63
    go_wp2_with (go_at_call 103; refine (isNaN_u64 _ _).mono ?_; rintro e w1 ⟨rfl, rfl⟩)
    go_ret
    exact ⟨rfl, rfl⟩
  · rw [cmpI_gt h]
    go_enter Tryz.func63, Tryz.ntmps63
    go_wp2_with (go_at_call 103; refine (isNaN_u64 _ _).mono ?_; rintro e w1 ⟨rfl, rfl⟩)
    go_ret
    exact ⟨rfl, rfl⟩

/-! ### Numbers are compared by their highest digit that differs -/
theorem vf_bd {b : Int} (hb : 1 ≤ b) {f : Nat → Int} (h : ∀ j, 0 ≤ f j ∧ f j < b) (k : Nat) : 0 ≤ vf b f k ∧ vf b f k < b ^ k := by
  induction k with
  | zero => simp [vf]
  | succ k ih =>
    have hp : 0 < b ^ k := Int.pow_pos (by omega)
    have h1 : 0 ≤ f k * b ^ k := Int.mul_nonneg (h k).1 (by omega)
    have h2 : f k * b ^ k ≤ (b - 1) * b ^ k := Int.mul_le_mul_of_nonneg_right (by have := (h k).2; omega) (by omega)
    rw [Int.sub_mul] at h2
    simp only [vf]
    rw [Int.pow_succ, Int.mul_comm (b ^ k) b]
    omega
theorem vf_same (b : Int) {f g : Nat → Int} {k m : Nat} (hm : k ≤ m) (h : ∀ j, k ≤ j → f j = g j) : vf b f m - vf b f k = vf b g m - vf b g k := by
  induction m with
  | zero => have : k = 0 := by omega
            subst this; omega
  | succ m ih =>
    rcases Nat.lt_or_ge m k with h1 | h1
    · have : k = m + 1 := by omega
      subst this; omega
    · simp only [vf]; rw [h m h1]; have := ih h1; omega
theorem vf_less {b : Int} (hb : 1 ≤ b) {f g : Nat → Int} (hf : ∀ j, 0 ≤ f j ∧ f j < b) (hg : ∀ j, 0 ≤ g j ∧ g j < b) {k m : Nat} (hm : k < m) (h : ∀ j, k < j → f j = g j) (hk : f k < g k) : vf b f m < vf b g m := by
  have h1 := vf_same b (k := k + 1) hm (fun j hj => h j (by omega))
  have h2 := vf_bd hb hf k
  have h3 := vf_bd hb hg k
  have hp : 0 < b ^ k := Int.pow_pos (by omega)
  have h4 : (f k + 1) * b ^ k ≤ g k * b ^ k := Int.mul_le_mul_of_nonneg_right (by omega) (by omega)
  rw [Int.add_mul] at h4
  simp only [vf] at h1
  omega
theorem cmp_at {N M : Int} (hN : 0 ≤ N) (hM : 0 ≤ M) {k m : Nat} (h1 : dl N = m) (h2 : dl M = m) (hm : k < m) (h : ∀ j, k < j → dig (dg W N) j = dig (dg W M) j) : cmpI N M = cmpI (dig (dg W N) k) (dig (dg W M) k) ∨ dig (dg W N) k = dig (dg W M) k := by
  have a1 := val_dl hN (m := m) (by omega)
  have a2 := val_dl hM (m := m) (by omega)
  have b1 := fun j => dig_bd (b := W) (by decide) (dig_dg W_two hN) j
  have b2 := fun j => dig_bd (b := W) (by decide) (dig_dg W_two hM) j
  rcases Int.lt_trichotomy (dig (dg W N) k) (dig (dg W M) k) with g | g | g
  · left
    have := vf_less (b := W) (by decide) b1 b2 hm h g
    rw [cmpI_lt g, cmpI_lt (by omega)]
  · exact .inr g
  · left
    have := vf_less (b := W) (by decide) b2 b1 hm (fun j hj => (h j hj).symm) g
    rw [cmpI_gt g, cmpI_gt (by omega)]
theorem cmp_all {N M : Int} (hN : 0 ≤ N) (hM : 0 ≤ M) (h : ∀ j, dig (dg W N) j = dig (dg W M) j) : cmpI N M = 0 := by
  have a1 := val_dl hN (m := max (dl N) (dl M)) (by omega)
  have a2 := val_dl hM (m := max (dl N) (dl M)) (by omega)
  rw [vf_congr W (g := dig (dg W M)) (fun j _ => h j), a2] at a1
  subst a1
  exact cmpI_eq _
theorem cmp_len {N M : Int} (hN : 0 ≤ N) (hM : 0 ≤ M) (h : dl N ≠ dl M) : cmpI N M = cmpI (dl N) (dl M) := by
  rcases Nat.lt_or_gt_of_ne h with g | g
  · rw [cmpI_lt (show (dl N : Int) < dl M by omega), cmpI_lt]
    rcases Int.lt_or_le N M with k | k
    · exact k
    · have := dl_mono hM k; omega
  · rw [cmpI_gt (show (dl M : Int) < dl N by omega), cmpI_gt]
    rcases Int.lt_or_le M N with k | k
    · exact k
    · have := dl_mono hN k; omega

theorem dig_past {N : Int} {j : Nat} (h : dl N ≤ j) : dig (dg W N) j = 0 := dig_ge h
def CmpR (N M : Int) (w : World) (i : Value) (wr : World) : Prop :=
  ∃ v : Int, i = .int .i64 v ∧ -1 ≤ v ∧ v < dl N ∧ (∀ j : Nat, v < j → dig (dg W N) j = dig (dg W M) j) ∧ ∃ q, wr = w.drewN q
/-- An int was answered; nothing was written. -/
def AnsI (v : Int) (w : World) (e : Ending) (w' : World) : Prop := e = .returned (.int .i64 v) ∧ ∃ q, w' = w.drewN q
set_option maxHeartbeats 1000000 in
theorem cmp_any {A A' : Option Addr} {n c n' c' : Nat} {N M : Int} {w : World} (h : Nm w A n c N) (h' : Nm w A' n' c' M) :
    Calls Tryz.prog 33 #[.slice A n c, .slice A' n' c'] w (AnsI (cmpI N M) w) := by
  have hx := h.lim
  have hy := h'.lim
  by_cases hl : dl N = dl M
  · have hle : dl N ≤ 17592186044416 := by have := hx.nc; have := hx.c60; omega
    have hq : ((dl N : Int) != (dl M : Int)) = false := by simp [hl]
    have HL := Lib.hid hl
    clear hl
    go_enter Tryz.func33, Tryz.ntmps33
    go_wp2_with fail
    refine (limbs_nm h).mono ?_
    rintro e w1 ⟨rfl, rfl⟩
    go_wp2_with fail
    refine (limbs_nm h').mono ?_
    rintro e w1 ⟨rfl, rfl⟩
    go_wp2_with fail
    go_loopw [7] (fun i wr => CmpR N M w i wr) (fun i _ => (intOf i + 1).toNat)
    case atStart =>
      exact ⟨_, rfl, by omega, by omega, fun j hj => by rw [dig_past (N := N) (by omega), dig_past (N := M) (by have := HL.out; omega)], 0, rfl⟩
    case round =>
      obtain ⟨v, rfl, v0, v1, hd, q, rfl⟩ := hrel
      have HD := Lib.hid hd
      clear hd
      rcases Int.lt_or_le v 0 with hv | hv
      · obtain rfl : v = -1 := by omega
        go_wp2
        go_ret
        exact ⟨by rw [cmp_all hx.pos hy.pos (fun j => HD.out j (by omega))]; rfl, q, rfl⟩
      · obtain ⟨k, rfl⟩ := Int.eq_ofNat_of_zero_le hv
        obtain ⟨b, off, x, rfl, hb, hxx, hcell⟩ := hx.rd.at_ (j := k) (by omega)
        obtain ⟨b', off', y, rfl, hb', hyy, hcell'⟩ := hy.rd.at_ (j := k) (by have := HL.out; omega)
        have e1 := dig_lt hxx
        have e2 := dig_lt hyy
        have H1 := Lib.hid e1
        have H2 := Lib.hid e2
        clear hxx hyy e1 e2
        have hk1 : (k : Int) < (dl N : Int) := v1
        have hk2 : (k : Int) < (dl M : Int) := by have := HL.out; omega
        by_cases hxy : x = y
        · subst hxy
          have hne : ((x : Int) != x) = false := by simp
          go_wp2_with fail
          go_quiet (fail)
          go_wp2
          go_roundw
          case rel =>
            refine ⟨_, rfl, by omega, by omega, fun j hj => ?_, _, rfl⟩
            rcases Nat.lt_or_ge k j with h3 | h3
            · exact HD.out j (by omega)
            · obtain rfl : j = k := by omega
              rw [H1.out, H2.out]
          case measure => simp [intOf]
        · have hne : ((x : Int) != y) = true := by simpa using hxy
          have HXY := Lib.hid hxy
          clear hxy
          go_wp2_with fail
          go_quiet (fail)
          go_wp2_with fail
          go_quiet ((go_at_call 63; exact quiet_add (compare_u64 _ _ _)))
          go_wp2
          go_ret
          refine ⟨?_, _, by rw [World.drewN_drewN, World.drewN_drewN]⟩
          rcases cmp_at hx.pos hy.pos rfl HL.out.symm (show k < dl N by omega) (fun j hj => HD.out j (by omega)) with g | g
          · rw [g, H1.out, H2.out]; rfl
          · exact absurd g (by rw [H1.out, H2.out]; exact HXY.out)
  · have hq : ((dl N : Int) != (dl M : Int)) = true := by simp; omega
    have HL := Lib.hid hl
    clear hl
    go_enter Tryz.func33, Tryz.ntmps33
    go_wp2_with fail
    refine (limbs_nm h).mono ?_
    rintro e w1 ⟨rfl, rfl⟩
    go_wp2_with fail
    refine (limbs_nm h').mono ?_
    rintro e w1 ⟨rfl, rfl⟩
    go_wp2_with fail
    refine (compare_int _ _ _).mono ?_
    rintro e w1 ⟨rfl, rfl⟩
    go_wp2
    go_ret
    exact ⟨by rw [cmp_len hx.pos hy.pos HL.out]; rfl, 0, rfl⟩
end Go.Proofs.YtloajnaphenbjaaGreatDoor
