/-
  What nat.Mul answers: the product of two numbers, or ErrLong.
-/
import Derived.Test.YtloajnaphenbjaaGreatDoorTimes
namespace Go.Proofs.YtloajnaphenbjaaGreatDoor
open Go.RowKit
theorem vf_split (b : Int) (f : Nat → Int) (k n : Nat) : vf b f (k + n) = vf b f k + b ^ k * vf b (fun j => f (k + j)) n := by
  induction n with
  | zero => simp [vf]
  | succ n ih =>
    rw [← Nat.add_assoc]
    simp only [vf]
    rw [ih, Int.pow_add]
    grind
theorem mul_step {zs ys X : List Int} {k b : Nat} {M over : Int} (hl : k + b < ys.length) (hpre : ∀ j, j < k → dig ys j = dig zs j)
    (h : wv ys k b + over * W ^ b = wv zs k b + dig X k * M) (hv : vf W (dig zs) (k + b) = vf W (dig X) k * M) :
    vf W (dig (ys.set (k + b) over)) (k + 1 + b) = vf W (dig X) (k + 1) * M := by
  have e1 : k + 1 + b = (k + b) + 1 := by omega
  rw [e1]
  rw [vf_set hl, vf_split W (dig ys) k b, vf_congr W (f := dig ys) (g := dig zs) (k := k) (fun j hj => hpre j hj)]
  have e2 : vf W (dig zs) (k + b) = vf W (dig zs) k + W ^ k * wv zs k b := vf_split W (dig zs) k b
  have e3 : vf W (fun j => dig ys (k + j)) b = wv ys k b := rfl
  rw [e3, Int.pow_add]
  rw [e2] at hv
  simp only [vf]
  generalize vf W (dig zs) k = a at *
  generalize wv ys k b = u at *
  generalize wv zs k b = v at *
  generalize W ^ k = p at *
  generalize W ^ b = q at *
  generalize vf W (dig X) k = x at *
  generalize dig X k = d at *
  grind
theorem mul_end {zs X : List Int} {a b : Nat} {M N : Int} (hl : zs.length = a + b) (hN : vf W (dig X) a = N) (hv : vf W (dig zs) (a + b) = vf W (dig X) a * M) : val W zs = N * M := by
  rw [val_vf W zs (m := a + b) (by omega), hv, hN]
def MulR (N M : Int) (w : World) (i : Value) (wr : World) : Prop :=
  ∃ (k : Nat) (zs : List Int), k ≤ dl N ∧ i = .int .i64 k ∧ Row wr w.heap.size 38 .u64 zs ∧ zs.length = dl N + dl M ∧ Dig W zs ∧
    vf W (dig zs) (k + dl M) = vf W (dig (dg W N)) k * M ∧ Below w.heap.size w wr
set_option maxHeartbeats 1000000 in
theorem mul_any {A A' : Option Addr} {n c n' c' : Nat} {N M : Int} {w : World} (h : Nm w A n c N) (h' : Nm w A' n' c' M) (hl : dl N ≤ 64) (hl' : dl M ≤ 64) :
    Calls Tryz.prog 80 #[.slice A n c, .slice A' n' c'] w (Ans (N * M) w) := by
  have hx := h.lim
  have hy := h'.lim
  have hmk := fun W => run_make64 (dl N + dl M) (C := (dl N : Int) + (dl M : Int)) (by omega) (by omega) W
  obtain ⟨Z, hZ⟩ : ∃ Z : List Int, Z = List.replicate (dl N + dl M) 0 := ⟨_, rfl⟩
  rw [← hZ] at hmk
  have HZ := Lib.hid hZ
  clear hZ
  go_enter Tryz.func80, Tryz.ntmps80
  go_wp2_with fail
  refine (limbs_nm h).mono ?_
  rintro e w1 ⟨rfl, rfl⟩
  go_wp2_with fail
  refine (limbs_nm h').mono ?_
  rintro e w1 ⟨rfl, rfl⟩
  go_wp2_with fail
  refine (tooLong_no _ _ _ _ _ _ _ hl hl').mono ?_
  rintro e w1 ⟨rfl, rfl⟩
  go_wp2_with fail
  clear hmk
  go_loopw [26] (fun i wr => MulR N M w i wr) (fun i _ => dl N - (intOf i).toNat)
  case atStart =>
    refine ⟨0, Z, Nat.zero_le _, rfl, Row.new _ _ _ _, by rw [HZ.out]; simp, by rw [HZ.out]; intro x hx; simp at hx; rw [hx.2]; exact ⟨by decide, by decide⟩, ?_, (Below.refl _ _).alloc (Nat.le_refl _) _⟩
    rw [HZ.out, vf_zero W (k := 0) (Nat.zero_le _) (fun j _ => dig_replicate _ j)]; simp [vf]
  case round =>
    obtain ⟨k, zs, hk, rfl, hrow, hzl, hzd, hv, hb⟩ := hrel
    have HV := Lib.hid hv
    have HZL := Lib.hid hzl
    clear hv
    rcases Nat.lt_or_ge k (dl N) with hlt | hge
    · have d1 := dig_W (dig_dg W_two hx.pos) k
      obtain ⟨b, off, x, rfl, hbb, hxx, hcell⟩ := (hx.rd.below hb).at_ hlt
      have hxe := dig_lt hxx
      rw [hxe] at d1
      have HX := Lib.hid hxe
      clear hxe hxx
      have hY := hy.rd.below hb
      have hYd := dig_dg W_two hy.pos
      have hYn : 0 < dl M → ∀ a, A' = some a → a.block ≠ w.heap.size := by
        intro hp a ha
        obtain ⟨b1, o1, e1, h1, _⟩ := hy.rd.cells hp
        rw [e1] at ha; injection ha with ha; subst ha
        exact Nat.ne_of_lt h1
      have hin : k + dl M ≤ zs.length := by omega
      have hin2 : k + dl M < zs.length := by omega
      clear hzl
      have e0 : ¬ (dl N + dl M = k) := by omega
      have e1 : IntKind.i64.wrap ((k : Int) + (dl M : Int)) = (k : Int) + (dl M : Int) := IntWalk.i64_in _ (by omega)
      have e2 : 0 ≤ (k : Int) + (dl M : Int) := by omega
      have e3 : ((k : Int) + (dl M : Int)).toNat = k + dl M := by omega
      go_wp2_with fail
      go_region_with (go_at_call 109; refine (addTimes_any hrow.drew hzd hin (by omega) hY.drew hYd hYn d1.1 d1.2).mono ?_; rintro e w1 ⟨ys, over, rfl, o0, o1, ht, hv⟩; have hf1 := ht.row.frozen (k + dl M); have hc1 := ht.row.cell (getElem?_dig (show k + dl M < ys.length by have := ht.len; omega)); have HT := Lib.hid hv; clear hv)
      all_goals
        go_wp2
        go_roundw
        case rel =>
          have hm := HT.out
          rw [val_dl hy.pos (Nat.le_refl _), ← HX.out] at hm
          exact ⟨k + 1, _, by omega, by go_num, ht.row.set _ _, by rw [List.length_set, ht.len]; exact HZL.out, ht.dig_.set o0 o1 _, mul_step (by rw [ht.len]; exact hin2) (fun j hj => ht.rest j (.inl hj)) hm HV.out,
            (below_grown hb.drew ht.grown hb.size (Nat.le_refl _)).setCell (Nat.le_refl _) _⟩
        case measure => simp [intOf]; omega
    · obtain rfl : k = dl N := by omega
      have hval := mul_end (X := dg W N) (M := M) HZL.out (val_dl hx.pos (Nat.le_refl _)) HV.out
      have hnm : Nm wr (some ⟨w.heap.size, 0, none⟩) (dl N + dl M) (dl N + dl M) (N * M) :=
        ⟨⟨zs, hrow.rd HZL.out (fun j x hx => by rwa [Nat.zero_add]), hzd, hval⟩, Nat.le_refl _, by omega, Int.mul_nonneg hx.pos hy.pos⟩
      clear hval
      go_wp2_with fail
      refine (limbs_nm hnm).mono ?_
      rintro e w1 ⟨rfl, rfl⟩
      go_wp2
      go_ret2
      exact ⟨_, _, _, rfl, hnm.lim, hb, fun a ha => by injection ha with ha; subst ha; exact Nat.le_refl _⟩
theorem mul_long {A A' : Option Addr} {n c n' c' : Nat} {N M : Int} {w : World} (h : Nm w A n c N) (h' : Nm w A' n' c' M) (hl : 64 < dl N ∨ 64 < dl M) :
    Calls Tryz.prog 80 #[.slice A n c, .slice A' n' c'] w (Err1 2 w) := by
  have HL := Lib.hid hl
  clear hl
  go_enter Tryz.func80, Tryz.ntmps80
  go_wp2_with fail
  refine (limbs_nm h).mono ?_
  rintro e w1 ⟨rfl, rfl⟩
  go_wp2_with fail
  refine (limbs_nm h').mono ?_
  rintro e w1 ⟨rfl, rfl⟩
  go_wp2_with fail
  refine (tooLong_yes _ _ _ _ _ _ _ HL.out).mono ?_
  rintro e w1 ⟨rfl, rfl⟩
  go_wp2
  go_ret2
  exact ⟨rfl, Below.refl _ _⟩
end Go.Proofs.YtloajnaphenbjaaGreatDoor
