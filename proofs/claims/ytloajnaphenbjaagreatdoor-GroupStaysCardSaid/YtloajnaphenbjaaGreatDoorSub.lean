/-
  What nat.Sub answers: the difference of two numbers, ErrLong or ErrLess.
-/
import Derived.Test.YtloajnaphenbjaaGreatDoorAdd
import Derived.Test.YtloajnaphenbjaaGreatDoorCmp
import Derived.StillTailTactics
import Derived.Deep.RegionWith
namespace Go.Proofs.YtloajnaphenbjaaGreatDoor
open Go.RowKit
theorem sub_step {X Y zs : List Int} {k : Nat} {cr v c' : Int} (hk : k < zs.length) (e : v - W * c' = dig X k - dig Y k - cr)
    (h : vf W (dig zs) k - cr * W ^ k = vf W (dig X) k - vf W (dig Y) k) : vf W (dig (zs.set k v)) (k + 1) - c' * W ^ (k + 1) = vf W (dig X) (k + 1) - vf W (dig Y) (k + 1) := by
  rw [vf_set hk]
  simp only [vf]
  rw [Int.pow_succ]
  generalize vf W (dig zs) k = a at *
  generalize vf W (dig X) k = x at *
  generalize vf W (dig Y) k = y at *
  generalize W ^ k = p at *
  grind
/-- The last borrow is 0. -/
theorem sub_last {N M : Int} {zs : List Int} {cr : Int} (h0 : 0 ≤ M) (hNM : M ≤ N) (hz : zs.length = dl N) (hd : Dig W zs) (c0 : 0 ≤ cr)
    (h : vf W (dig zs) (dl N) - cr * W ^ (dl N) = vf W (dig (dg W N)) (dl N) - vf W (dig (dg W M)) (dl N)) : val W zs = N - M := by
  rw [val_dl (by omega) (Nat.le_refl _), val_dl h0 (dl_mono h0 hNM)] at h
  have hb := vf_bd (b := W) (by decide) (fun j => dig_bd (b := W) (by decide) hd j) (dl N)
  have hp := pow_pos' W_two (dl N)
  rw [val_vf W zs (m := dl N) (by omega)]
  rcases Int.lt_or_le 0 cr with g | g
  · have : W ^ dl N ≤ cr * W ^ dl N := by
      have := Int.mul_le_mul_of_nonneg_right (show (1 : Int) ≤ cr by omega) (show 0 ≤ W ^ dl N by omega)
      omega
    omega
  · have : cr = 0 := by omega
    subst this; simpa using h
def SubR (N M : Int) (w : World) (c i : Value) (wr : World) : Prop :=
  ∃ (k : Nat) (zs : List Int) (cr : Int), k ≤ dl N ∧ i = .int .i64 k ∧ c = .int .u64 cr ∧ 0 ≤ cr ∧ cr ≤ 1 ∧ Row wr w.heap.size 38 .u64 zs ∧ zs.length = dl N ∧ Dig W zs ∧
    vf W (dig zs) k - cr * W ^ k = vf W (dig (dg W N)) k - vf W (dig (dg W M)) k ∧ Below w.heap.size w wr
set_option maxHeartbeats 1000000 in
theorem sub_any {A A' : Option Addr} {n c n' c' : Nat} {N M : Int} {w : World} (h : Nm w A n c N) (h' : Nm w A' n' c' M) (hl : dl N ≤ 64) (hl' : dl M ≤ 64) (hNM : M ≤ N) :
    Calls Tryz.prog 52 #[.slice A n c, .slice A' n' c'] w (Ans (N - M) w) := by
  have hx := h.lim
  have hy := h'.lim
  have hmk := fun W => run_make64 (dl N) (C := (dl N : Int)) rfl (by omega) W
  obtain ⟨Z, hZ⟩ : ∃ Z : List Int, Z = List.replicate (dl N) 0 := ⟨_, rfl⟩
  rw [← hZ] at hmk
  have HZ := Lib.hid hZ
  clear hZ
  have hcm : decide (cmpI N M < 0) = false := by
    rcases Int.lt_or_eq_of_le hNM with g | g
    · rw [cmpI_gt g]; rfl
    · subst g; rw [cmpI_eq]; rfl
  go_enter Tryz.func52, Tryz.ntmps52
  go_wp2_with fail
  refine (limbs_nm h).mono ?_
  rintro e w1 ⟨rfl, rfl⟩
  go_wp2_with fail
  refine (limbs_nm h').mono ?_
  rintro e w1 ⟨rfl, rfl⟩
  go_wp2_with fail
  refine (tooLong_no _ _ _ _ _ _ _ hl hl').mono ?_
  rintro e w1 ⟨rfl, rfl⟩
  go_wp2_with fail
  refine (cmp_any hx.nm hy.nm).mono ?_
  rintro e w1 ⟨rfl, q, rfl⟩
  go_wp2_with fail
  clear hmk hcm
  go_loopw [9, 29] (fun c i wr => SubR N M w c i wr) (fun _ i _ => dl N - (intOf i).toNat)
  case atStart =>
    exact ⟨0, Z, 0, Nat.zero_le _, rfl, rfl, Int.le_refl _, by decide, Row.drewN (Row.new _ _ _ _) q, by rw [HZ.out]; simp, by rw [HZ.out]; intro x hx; simp at hx; rw [hx.2]; exact ⟨by decide, by decide⟩, by simp [vf], below_drewN ((Below.refl _ _).alloc (Nat.le_refl _) _) q⟩
  case round =>
    obtain ⟨k, zs, cr, hk, rfl, rfl, c0, c1, hrow, hzl, hzd, hv, hb⟩ := hrel
    have HV := Lib.hid hv
    clear hv
    rcases Nat.lt_or_ge k (dl N) with hlt | hge
    · have d1 := dig_W (dig_dg W_two hx.pos) k
      have d2 := dig_W (dig_dg W_two hy.pos) k
      obtain ⟨b, off, x, rfl, hbb, hxx, hcell⟩ := (hx.rd.below hb).at_ hlt
      have hxe := dig_lt hxx
      rw [hxe] at d1
      have HX := Lib.hid hxe
      clear hxe hxx
      have hf := hrow.frozen k
      have hc := hrow.cell (getElem?_dig (show k < zs.length by omega))
      have HB := sub64_bd d1.1 d1.2 d2.1 d2.2 c0 c1
      have hr := hrow.set k (slo x (dig (dg W M) k) cr)
      have hbl := grow_row hrow hb k (.int .u64 (slo x (dig (dg W M) k) cr))
      go_wp2_with fail
      have hY := hy.rd.below hb
      have HSB := Lib.hid (sub64 x (dig (dg W M) k) cr d1.1 d2.1 d2.2 c0 c1)
      go_region_with (first | (go_at_call 84; refine (limbAt_any A' (dl M) c' (dg W M) k _ ?_).mono ?_; exact hY.drew; rintro e w1 ⟨rfl, rfl⟩) | simp only [HSB.out])
      all_goals
        go_wp2
        go_roundw
        case rel => exact ⟨k + 1, _, _, by omega, by go_num, rfl, HB.2.2.1, HB.2.2.2.1, hr.drew, by simpa using hzl, hzd.set HB.1 HB.2.1 k, sub_step (by omega) (by rw [HX.out]; exact HB.2.2.2.2) HV.out, hbl.drew⟩
        case measure => simp [intOf]; omega
    · obtain rfl : k = dl N := by omega
      have hval := sub_last hy.pos hNM hzl hzd c0 HV.out
      have hnm : Nm wr (some ⟨w.heap.size, 0, none⟩) (dl N) (dl N) (N - M) :=
        ⟨⟨zs, hrow.rd hzl (fun j x hx => by rwa [Nat.zero_add]), hzd, hval⟩, Nat.le_refl _, by omega, by have := hx.pos; omega⟩
      clear hval
      go_wp2_with fail
      refine (limbs_nm hnm).mono ?_
      rintro e w1 ⟨rfl, rfl⟩
      go_wp2
      go_ret2
      exact ⟨_, _, _, rfl, hnm.lim, hb, fun a ha => by injection ha with ha; subst ha; exact Nat.le_refl _⟩
theorem sub_long {A A' : Option Addr} {n c n' c' : Nat} {N M : Int} {w : World} (h : Nm w A n c N) (h' : Nm w A' n' c' M) (hl : 64 < dl N ∨ 64 < dl M) :
    Calls Tryz.prog 52 #[.slice A n c, .slice A' n' c'] w (Err1 2 w) := by
  have HL := Lib.hid hl
  clear hl
  go_enter Tryz.func52, Tryz.ntmps52
  go_wp2_with fail
  refine (limbs_nm h).mono ?_
  rintro e w1 ⟨rfl, rfl⟩
  go_wp2_with fail
  refine (limbs_nm h').mono ?_
  rintro e w1 ⟨rfl, rfl⟩
  go_wp2_with fail
  refine (tooLong_yes _ _ _ _ _ _ _ HL.out).mono ?_
  rintro e w1 ⟨rfl, rfl⟩
  go_wp2
  go_ret2
  exact ⟨rfl, Below.refl _ _⟩
theorem sub_less {A A' : Option Addr} {n c n' c' : Nat} {N M : Int} {w : World} (h : Nm w A n c N) (h' : Nm w A' n' c' M) (hl : dl N ≤ 64) (hl' : dl M ≤ 64) (hNM : N < M) :
    Calls Tryz.prog 52 #[.slice A n c, .slice A' n' c'] w (Err1 3 w) := by
  have hx := h.lim
  have hy := h'.lim
  have hcm : decide (cmpI N M < 0) = true := by rw [cmpI_lt hNM]; rfl
  go_enter Tryz.func52, Tryz.ntmps52
  go_wp2_with fail
  refine (limbs_nm h).mono ?_
  rintro e w1 ⟨rfl, rfl⟩
  go_wp2_with fail
  refine (limbs_nm h').mono ?_
  rintro e w1 ⟨rfl, rfl⟩
  go_wp2_with fail
  refine (tooLong_no _ _ _ _ _ _ _ hl hl').mono ?_
  rintro e w1 ⟨rfl, rfl⟩
  go_wp2_with fail
  refine (cmp_any hx.nm hy.nm).mono ?_
  rintro e w1 ⟨rfl, q, rfl⟩
  go_wp2
  go_ret2
  exact ⟨rfl, below_drewN (Below.refl _ _) q⟩
end Go.Proofs.YtloajnaphenbjaaGreatDoor
