/-
  What nat.From answers: the number of bytes, the highest first, or ErrLong.
-/
import Derived.Test.YtloajnaphenbjaaGreatDoorDivide
import Derived.Test.YtloajnaphenbjaaGreatDoorBytes
import Derived.RegionTactic
import Derived.BigRegion
namespace Go.Proofs.YtloajnaphenbjaaGreatDoor
open Go.RowKit
set_option linter.unusedVariables false
/-- The lowest k bytes of bytes, the highest first. -/
def low (bs : List Int) (n k : Nat) : Int := vf 256 (fun i => dig bs (n - 1 - i)) k
theorem low_succ (bs : List Int) (n k : Nat) : low bs n (k + 1) = low bs n k + dig bs (n - 1 - k) * 256 ^ k := rfl
theorem pow256 (k : Nat) : (256 : Int) ^ k = W ^ (k / 8) * pw (8 * (k % 8)) := by
  have h1 : (256 : Int) = 2 ^ 8 := by decide
  unfold pw
  rw [h1, ← Int.pow_mul, W_pow, ← Int.pow_add]
  congr 1; omega
theorem shl_byte {b : Int} {r : Nat} (h0 : 0 ≤ b) (h1 : b < 256) (hr : r < 8) : IntKind.u64.wrap (b * 2 ^ (8 * r)) = pw (8 * r) * b := by
  rw [wrap_shl b (by omega)]
  have h2 : 256 ≤ pw (64 - 8 * r) := by
    have := pow_mono (b := 2) (by decide) (show 8 ≤ 64 - 8 * r by omega)
    have e : (2 : Int) ^ 8 = 256 := by decide
    unfold pw; omega
  rw [Int.emod_eq_of_lt h0 (by omega)]
theorem or_byte {z b : Int} {r : Nat} (hr : r < 8) (z0 : 0 ≤ z) (z1 : z < pw (8 * r)) (h0 : 0 ≤ b) (h1 : b < 256) :
    bits .or .u64 z (IntKind.u64.wrap (b * 2 ^ (8 * r))) = z + pw (8 * r) * b ∧ z + pw (8 * r) * b < pw (8 * (r + 1)) ∧ 0 ≤ z + pw (8 * r) * b ∧ pw (8 * (r + 1)) ≤ W := by
  have hp := pw_pos (8 * r)
  have e1 : pw (8 * (r + 1)) = pw (8 * r) * 256 := by
    unfold pw
    rw [show 8 * (r + 1) = 8 * r + 8 by omega, Int.pow_add]; rfl
  have h2 : 256 ≤ pw (64 - 8 * r) := by
    have := pow_mono (b := 2) (by decide) (show 8 ≤ 64 - 8 * r by omega)
    have e : (2 : Int) ^ 8 = 256 := by decide
    unfold pw; omega
  rw [shl_byte h0 h1 hr, or_sum' (by omega) h0 (by omega) z0 z1, e1]
  have h3 := Int.mul_le_mul_of_nonneg_left (show b + 1 ≤ 256 by omega) (show 0 ≤ pw (8 * r) by omega)
  rw [Int.mul_add] at h3
  have h4 := Int.mul_nonneg (show 0 ≤ pw (8 * r) by omega) h0
  refine ⟨by omega, by omega, by omega, ?_⟩
  have h5 := pw_mul (s := 8 * (r + 1)) (by omega)
  have h6 := pw_pos (64 - 8 * (r + 1))
  have h7 := Int.mul_le_mul_of_nonneg_left (show (1 : Int) ≤ pw (64 - 8 * (r + 1)) by omega) (show 0 ≤ pw (8 * (r + 1)) from Int.le_of_lt (pw_pos _))
  rw [← e1]
  unfold W; omega
def FrR (bs : List Int) (n L : Nat) (w : World) (i : Value) (wr : World) : Prop :=
  ∃ (k : Nat) (zs : List Int), k ≤ n ∧ i = .int .i64 k ∧ Row wr w.heap.size 38 .u64 zs ∧ zs.length = L ∧ Dig W zs ∧ (∀ j, k / 8 < j → dig zs j = 0) ∧ dig zs (k / 8) < pw (8 * (k % 8)) ∧ vf W (dig zs) L = low bs n k ∧ Below w.heap.size w wr
theorem fr_sum {zs : List Int} {m L : Nat} {d : Int} (hl : zs.length = L) (hm : m < L) : vf W (dig (zs.set m (dig zs m + d))) L = vf W (dig zs) L + d * W ^ m := by
  have h := vf_window (rs := zs) (ys := zs.set m (dig zs m + d)) (j := m) (n := 1) (t := L) (fun i hi => dig_set_ne (by omega)) (by omega)
  have e1 : wv (zs.set m (dig zs m + d)) m 1 = dig zs m + d := by
    unfold wv; simp only [vf, Nat.add_zero]; rw [dig_set_same (by omega)]; simp
  have e2 : wv zs m 1 = dig zs m := by
    unfold wv; simp only [vf, Nat.add_zero]; simp
  rw [e1, e2, show dig zs m + d - dig zs m = d by omega, Int.mul_comm] at h
  omega
theorem fr_round {zs bs : List Int} {k n L : Nat} {z b v : Int} (hl : zs.length = L) (hm : k / 8 < L) (hz : dig zs (k / 8) = z) (hv : v = z + pw (8 * (k % 8)) * b) (h2 : z + pw (8 * (k % 8)) * b < pw (8 * (k % 8 + 1))) (h0 : ∀ j, k / 8 < j → dig zs j = 0)
    (hs : vf W (dig zs) L = low bs n k) (hb : dig bs (n - 1 - k) = b) : (∀ j, (k + 1) / 8 < j → dig (zs.set (k / 8) v) j = 0) ∧ dig (zs.set (k / 8) v) ((k + 1) / 8) < pw (8 * ((k + 1) % 8)) ∧ vf W (dig (zs.set (k / 8) v)) L = low bs n (k + 1) := by
  refine ⟨fun j hj => ?_, ?_, ?_⟩
  · rw [dig_set_ne (by omega)]; exact h0 j (by omega)
  · rcases Nat.lt_or_ge (k % 8) 7 with g | g
    · rw [show (k + 1) / 8 = k / 8 by omega, show (k + 1) % 8 = k % 8 + 1 by omega, dig_set_same (by omega), hv]; exact h2
    · rw [show (k + 1) / 8 = k / 8 + 1 by omega, dig_set_ne (by omega), h0 _ (by omega)]; exact pw_pos _
  · rw [hv, ← hz, fr_sum hl hm, hs, low_succ, hb, pow256]
    generalize W ^ (k / 8) = p
    generalize pw (8 * (k % 8)) = q
    grind
theorem from_long {A : Option Addr} {n c : Nat} {w : World} (hn : 512 < n) :
    Calls Tryz.prog 47 #[.slice A n c] w (Err1 2 w) := by
  go_enter Tryz.func47, Tryz.ntmps47
  go_wp2
  go_ret2
  exact ⟨rfl, Below.refl _ _⟩
set_option maxHeartbeats 4000000 in
theorem from_any {A : Option Addr} {n c : Nat} {bs : List Int} {w : World} (h : Rd .u8 w A n bs) (hd : Dig 256 bs) (hn : n ≤ 512) :
    Calls Tryz.prog 47 #[.slice A n c] w (Ans (low bs n n) w) := by
  obtain ⟨L, hL⟩ : ∃ L, (n + 7) / 8 = L := ⟨_, rfl⟩
  have e1 : ((n : Int) + 7) / 8 = (L : Int) := by omega
  have hmk := fun W => run_make64 L (C := (L : Int)) rfl (by omega) W
  obtain ⟨Z, hZ⟩ : ∃ Z : List Int, Z = List.replicate L 0 := ⟨_, rfl⟩
  rw [← hZ] at hmk
  have HZ := Lib.hid hZ
  have HL := Lib.hid hL
  clear hZ hL
  go_enter Tryz.func47, Tryz.ntmps47
  go_wp2_with fail
  clear hmk e1
  go_loopw [17] (fun i wr => FrR bs n L w i wr) (fun i _ => n - (intOf i).toNat)
  case atStart =>
    refine ⟨0, Z, Nat.zero_le _, rfl, Row.new _ _ _ _, by rw [HZ.out]; simp, by rw [HZ.out]; intro x hx; simp at hx; rw [hx.2]; exact ⟨by decide, by decide⟩, fun j _ => by rw [HZ.out]; exact dig_replicate _ _, by rw [HZ.out, dig_replicate]; exact pw_pos _, ?_, (Below.refl _ _).alloc (Nat.le_refl _) _⟩
    rw [HZ.out, vf_zero W (k := 0) (Nat.zero_le _) (fun j _ => dig_replicate _ j)]; simp [vf, low]
  case round =>
    obtain ⟨k, zs, hk, rfl, hrow, hzl, hzd, hz0, hz1, hv, hb⟩ := hrel
    have HV := Lib.hid hv
    have HZ0 := Lib.hid hz0
    have HZL := Lib.hid hzl
    clear hv hz0
    rcases Nat.lt_or_ge k n with hlt | hge
    · obtain ⟨p, hp⟩ : ∃ p, p + k + 1 = n := ⟨n - 1 - k, by omega⟩
      have hm1 : k / 8 < L := by have := HL.out; omega
      obtain ⟨ba, oa, b, rfl, hba, hbx, hcb⟩ := h.at_ (j := p) (by omega)
      have hcb2 := (hb.cell (p := ⟨ba, oa + p, none⟩) hba).trans hcb
      have hbe := dig_lt hbx
      have db := dig_bd (b := 256) (by decide) hd p
      rw [hbe] at db
      have fz := hrow.frozen (k / 8)
      have cz := hrow.cell (getElem?_dig (show k / 8 < zs.length by omega))
      have dz := dig_W hzd (k / 8)
      obtain ⟨z, hz⟩ : ∃ z, dig zs (k / 8) = z := ⟨_, rfl⟩
      rw [hz] at cz dz hz1
      obtain ⟨o1, o2, o3, o4⟩ := or_byte (r := k % 8) (by omega) dz.1 hz1 db.1 db.2
      have HO1 := Lib.hid o1
      have HP := Lib.hid hp
      have HZZ := Lib.hid hz
      have HBE := Lib.hid hbe
      have hnb : ba ≠ w.heap.size := Nat.ne_of_lt hba
      have g1 : (n : Int) - 1 - (k : Int) = (p : Int) := by omega
      have g2 : IntKind.i64.wrap ((n : Int) - 1) = (n : Int) - 1 := IntWalk.i64_in _ (by omega)
      have g3 : IntKind.i64.wrap (p : Int) = (p : Int) := IntWalk.i64_in _ (by omega)
      have g4 : (p : Int) < (n : Int) := by omega
      clear o1 hp hz hbe hbx hcb hzl
      have FR := Lib.hid (fr_round (bs := bs) HZL.out hm1 HZZ.out HO1.out o2 HZ0.out HV.out (show dig bs (n - 1 - k) = b by rw [show n - 1 - k = p by have := HP.out; omega]; exact HBE.out))
      have hvb : 0 ≤ bits .or .u64 z (IntKind.u64.wrap (b * 2 ^ (8 * (k % 8)))) ∧ bits .or .u64 z (IntKind.u64.wrap (b * 2 ^ (8 * (k % 8)))) < W := by rw [HO1.out]; exact ⟨o3, by omega⟩
      have HVB := Lib.hid hvb
      clear hvb o2 o3 o4
      go_wp2_with fail
      go_region
      all_goals
        clear g1 g2 g3
        go_wp2
        go_roundw
        case rel => exact ⟨k + 1, _, by omega, by go_num, (hrow.set _ _).drew, by simpa using HZL.out, hzd.set HVB.out.1 HVB.out.2 _, FR.out.1, FR.out.2.1, FR.out.2.2, (hb.setCell (Nat.le_refl _) _).drew⟩
        case measure => simp [intOf]; omega
    · obtain rfl : k = n := by omega
      have hnm : Nm wr (some ⟨w.heap.size, 0, none⟩) L L (low bs k k) :=
        ⟨⟨zs, hrow.rd hzl (fun j x hx => by rwa [Nat.zero_add]), hzd, by rw [val_vf W zs (m := L) (by omega)]; exact HV.out⟩, Nat.le_refl _, by have := HL.out; omega, by rw [← HV.out]; exact (vf_bd (b := W) (by decide) (fun j => dig_bd (b := W) (by decide) hzd j) L).1⟩
      clear hzl
      go_wp2_with fail
      refine (limbs_nm hnm).mono ?_
      rintro e w1 ⟨rfl, rfl⟩
      go_wp2
      go_ret2
      exact ⟨_, _, _, rfl, hnm.lim, hb, fun a ha => by injection ha with ha; subst ha; exact Nat.le_refl _⟩
end Go.Proofs.YtloajnaphenbjaaGreatDoor
