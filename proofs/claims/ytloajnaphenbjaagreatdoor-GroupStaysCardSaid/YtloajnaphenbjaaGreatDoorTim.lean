/-
  What mont's times, form and residue answer.
-/
import Derived.Test.YtloajnaphenbjaaGreatDoorAd
namespace Go.Proofs.YtloajnaphenbjaaGreatDoor
open Go.RowKit
set_option linter.unusedVariables false
theorem tim_lt {S S' K X u m : Int} (h : S' * W = S + K * X + u * m) (hS : S < 2 * m) (hK : K < 18446744073709551616) (hu : u < 18446744073709551616) (hK0 : 0 ≤ K) (hm : 0 < m) (hX : X < m) : S' < 2 * m := by
  have h1 := Int.mul_le_mul_of_nonneg_left (show X ≤ m by omega) hK0
  have h2 := Int.mul_le_mul_of_nonneg_right (show K ≤ W - 1 by unfold W; omega) (show 0 ≤ m by omega)
  have h3 := Int.mul_le_mul_of_nonneg_right (show u ≤ W - 1 by unfold W; omega) (show 0 ≤ m by omega)
  have h4 : S' * W < 2 * m * W := by
    have : 2 * m * W = 2 * m + ((W - 1) * m + (W - 1) * m) := by grind
    rw [this, h]; omega
  exact Int.lt_of_mul_lt_mul_right h4 (by decide)
theorem tim_sum {S S' K X u m y : Int} {k : Nat} (h : S' * W = S + K * X + u * m) (hv : Eqm m (S * W ^ k) (X * y)) : Eqm m (S' * W ^ (k + 1)) (X * (y + K * W ^ k)) := by
  obtain ⟨q, hv⟩ := hv
  refine ⟨q + u * W ^ k, ?_⟩
  rw [Int.pow_succ]
  have : S' * (W ^ k * W) = (S' * W) * W ^ k := by grind
  rw [this, h]
  generalize W ^ k = p at *
  grind
def TmR (ys : List Int) (X m : Int) (n : Nat) (w : World) (i : Value) (wr : World) : Prop :=
  ∃ (k : Nat) (zs : List Int), k ≤ n ∧ i = .int .i64 k ∧ Row wr w.heap.size 38 .u64 zs ∧ zs.length = n + 1 ∧ Dig W zs ∧ vf W (dig zs) (n + 1) < 2 * m ∧ Eqm m (vf W (dig zs) (n + 1) * W ^ k) (X * vf W (dig ys) k) ∧ Below w.heap.size w wr
/-- The product over 2 to the 64 n was answered. -/
def TimP (m : Int) (n : Nat) (X Y : Int) (w : World) (e : Ending) (w' : World) : Prop :=
  ∃ B cap T, e = .returned (.slice B n cap) ∧ Nm w' B n cap T ∧ Tim m n X Y T ∧ Below w.heap.size w w' ∧ ∀ a, B = some a → w.heap.size ≤ a.block
theorem tim_small {zs : List Int} {n : Nat} {m S : Int} (hd : Dig W zs) (hS : S = vf W (dig zs) (n + 1)) (hm : m < W ^ n) (h : S < m) : S = val W (zs.take n) ∨ zs.length < n := by
  rcases Nat.lt_or_ge zs.length n with g | g
  · exact .inr g
  · left
    rw [val_take W zs g]
    have e : S = vf W (dig zs) n + dig zs n * W ^ n := hS
    have b0 := (vf_bd (b := W) (by decide) (fun j => dig_bd (b := W) (by decide) hd j) n).1
    have d0 := dig_bd (b := W) (by decide) hd n
    have p0 := pow_pos' W_two n
    rcases Int.lt_or_eq_of_le d0.1 with g2 | g2
    · have := Int.mul_le_mul_of_nonneg_right (show 1 ≤ dig zs n by omega) (show 0 ≤ W ^ n by omega)
      omega
    · rw [← g2] at e; omega
theorem tim_off {zs ys : List Int} {n : Nat} {m S over : Int} (hd : Dig W ys) (hS : S = vf W (dig zs) (n + 1)) (hm : m < W ^ n) (h0 : m ≤ S) (h1 : S < 2 * m) (hv : wv ys 0 n - over * W ^ n = wv zs 0 n - m) (hl : n ≤ ys.length) : val W (ys.take n) = S - m := by
  rw [val_take W ys hl]
  have e : S = vf W (dig zs) n + dig zs n * W ^ n := hS
  have e1 : wv ys 0 n = vf W (dig ys) n := vf_congr W (fun j _ => by rw [Nat.zero_add])
  have e2 : wv zs 0 n = vf W (dig zs) n := vf_congr W (fun j _ => by rw [Nat.zero_add])
  rw [e1, e2] at hv
  have b := vf_bd (b := W) (by decide) (fun j => dig_bd (b := W) (by decide) hd j) n
  refine Eqm.eq (m := W ^ n) ⟨over - dig zs n, ?_⟩ b.1 b.2 (by omega) (by omega)
  rw [e]
  have : vf W (dig ys) n = vf W (dig zs) n - m + over * W ^ n := by omega
  rw [this]; grind
theorem rd_take_row {w : World} {g n : Nat} {zs : List Int} (h : Row w g 38 .u64 zs) (hl : zs.length = n + 1) : Rd .u64 w (some ⟨g, 0, none⟩) n (zs.take n) := h.rd0 (by omega)
set_option maxHeartbeats 4000000 in
set_option maxRecDepth 100000 in
theorem times_any {w : World} {b : Nat} {m : Int} {n : Nat} {A : Option Addr} {c : Nat} {low : Int} {B : Option Addr} {cB : Nat} {S : Option Addr} {cS : Nat} (md : Md w b m n A c low B cB S cS)
    {XA YA : Option Addr} {cx cy : Nat} {X Y : Int} (hX : Nm w XA n cx X) (hY : Nm w YA n cy Y) (hXm : X < m) :
    Calls Tryz.prog 92 #[.pointer (some ⟨b, 0, none⟩), .slice XA n cx, .slice YA n cy] w (TimP m n X Y w) := by
  obtain ⟨⟨xs, hxr, hxd, hxv⟩, -, -, X0⟩ := hX
  obtain ⟨⟨ys, hyr, hyd, hyv⟩, -, -, Y0⟩ := hY
  have n1 := md.n1
  have n32 := md.l32
  have m3 := md.m3
  have m0 : 0 < m := by omega
  have hmW : m < W ^ n := lt_dl (by omega) (Nat.le_of_eq md.len.symm)
  have hXv : vf W (dig xs) n = X := by rw [← val_vf W xs (Nat.le_of_eq hxr.len)]; exact hxv
  have hYv : vf W (dig ys) n = Y := by rw [← val_vf W ys (Nat.le_of_eq hyr.len)]; exact hyv
  have HXV := Lib.hid hXv
  have HYV := Lib.hid hYv
  have HYL := Lib.hid hyr.len
  clear hxv hyv hXv hYv
  obtain ⟨by_, oy, rfl, hby, hcy⟩ := hyr.cells (by omega)
  have LY : ∀ j, j < n → ∀ wr, Below w.heap.size w wr → wr.cell? ⟨by_, oy + j, none⟩ = some (.int .u64 (dig ys j)) := fun j hj wr hb => (hb.cell (p := ⟨by_, oy + j, none⟩) hby).trans (hcy j _ (getElem?_dig (by rw [HYL.out]; exact hj)))
  have HLY := Lib.hid LY
  clear LY hcy
  have q0 := md.c0
  have hmk := fun W => run_make64 (n + 1) (C := (n : Int) + 1) (by omega) (by omega) W
  obtain ⟨Z, hZ⟩ : ∃ Z : List Int, Z = List.replicate (n + 1) 0 := ⟨_, rfl⟩
  rw [← hZ] at hmk
  have HZ := Lib.hid hZ
  clear hZ
  go_enter Tryz.func92, Tryz.ntmps92
  go_wp2_with fail
  clear hmk q0
  go_loopw [19] (fun i wr => TmR ys X m n w i wr) (fun i _ => n - (intOf i).toNat)
  case atStart =>
    refine ⟨0, Z, Nat.zero_le _, rfl, Row.new _ _ _ _, by rw [HZ.out]; simp, by rw [HZ.out]; intro x hx; simp at hx; rw [hx]; exact ⟨by decide, by decide⟩, ?_, ?_, (Below.refl _ _).alloc (Nat.le_refl _) _⟩
    · rw [HZ.out, vf_zero W (k := 0) (Nat.zero_le _) (fun j _ => dig_replicate _ j)]; simp only [vf]; omega
    · rw [HZ.out, vf_zero W (k := 0) (Nat.zero_le _) (fun j _ => dig_replicate _ j)]; simp only [vf]; simp; exact Eqm.refl _ _
  case round =>
    obtain ⟨k, zs, hk, rfl, hrow, hzl, hzd, hlt2, hv, hb⟩ := hrel
    have HV := Lib.hid hv
    have HZL := Lib.hid hzl
    clear hv
    have mdw := md.below hb
    have q0 := mdw.c0
    rcases Nat.lt_or_ge k n with hlt | hge
    · have yk := HLY.out k hlt _ hb
      have byk := dig_W hyd k
      clear hzl
      go_wp2_with fail
      refine (addAndDrop_any md hxr hxd hb hrow HZL.out hzd byk.1 byk.2).mono ?_
      rintro e w1 ⟨zs', u, rfl, u0, u1, hrow1, hzl1, hzd1, hv1, hb1⟩
      have HV1 := Lib.hid hv1
      rw [HXV.out] at HV1
      clear hv1 q0
      have hlt3 := tim_lt HV1.out hlt2 byk.2 u1 byk.1 m0 hXm
      go_wp2
      go_roundw
      case rel =>
        refine ⟨k + 1, zs', by omega, by go_num, hrow1, hzl1, hzd1, hlt3, ?_, hb1⟩
        exact tim_sum HV1.out HV.out
      case measure => simp [intOf]; omega
    · obtain rfl : k = n := by omega
      have hS : Nm wr (some ⟨w.heap.size, 0, none⟩) (k + 1) (k + 1) (vf W (dig zs) (k + 1)) :=
        ⟨⟨zs, hrow.rd hzl (fun j x hx => by rwa [Nat.zero_add]), hzd, val_vf W zs (Nat.le_of_eq hzl)⟩, Nat.le_refl _, by omega, (vf_bd (b := W) (by decide) (fun j => dig_bd (b := W) (by decide) hzd j) _).1⟩
      obtain ⟨T, hT⟩ : ∃ T, T = vf W (dig zs) (k + 1) := ⟨_, rfl⟩
      rw [← hT] at hS hlt2
      have HV2 := HV.out
      rw [← hT, HYV.out] at HV2
      have HV3 := Lib.hid HV2
      have HT := Lib.hid hT
      clear hT HV2 HV
      go_wp2_with fail
      refine (cmp_any hS mdw.lim.nm).mono ?_
      rintro e w1 ⟨rfl, q, rfl⟩
      rcases Int.lt_or_le T m with hTm | hTm
      · have hc : decide (cmpI T m ≥ 0) = false := by rw [cmpI_lt hTm]; rfl
        go_wp2
        go_ret
        have hval : val W (zs.take k) = T := by
          rcases tim_small hzd HT.out hmW hTm with g | g
          · exact g.symm
          · omega
        exact ⟨_, _, T, rfl, ⟨⟨zs.take k, (rd_take_row hrow hzl).drewN q, fun x hx => hzd x (List.mem_of_mem_take hx), hval⟩, by omega, by omega, hS.pos⟩, ⟨hS.pos, hTm, HV3.out⟩, below_drewN hb q, fun a ha => by injection ha with ha; subst ha; exact Nat.le_refl _⟩
      · have hc : decide (cmpI T m ≥ 0) = true := by
          rcases Int.lt_or_eq_of_le hTm with g | g
          · rw [cmpI_gt g]; rfl
          · subst g; rw [cmpI_eq]; rfl
        have hLim := (mdw.lim.rd.drewN q).drew
        have hMd := dig_dg W_two (show 0 ≤ m by omega)
        have hne : 0 < k → ∀ a, A = some a → a.block ≠ w.heap.size := by
          intro hp a ha
          obtain ⟨b1, o1, e1, h1, _⟩ := md.lim.rd.cells hp
          rw [e1] at ha; injection ha with ha; subst ha
          exact Nat.ne_of_lt h1
        have g1 : (k : Int) ≤ (k : Int) + 1 := by omega
        have g2 : k ≤ k + 1 := by omega
        have hin : k ≤ zs.length := by omega
        clear hzl
        go_wp2_with fail
        go_region_with (go_at_call 111; refine (takeOff_any (hrow.drewN q).drew hzd hin (by omega) hLim hMd hne).mono ?_; rintro e w1 ⟨zs', over, rfl, o0, o1, ht, hv⟩; have HW := Lib.hid hv; clear hv)
        all_goals
          go_wp2
          go_ret
          have hv := HW.out
          rw [val_dl (show 0 ≤ m by omega) (Nat.le_of_eq mdw.len.symm)] at hv
          have hl := ht.len
          have hzl := HZL.out
          have hval := tim_off ht.dig_ HT.out hmW hTm hlt2 hv (by omega)
          refine ⟨_, _, T - m, rfl, ⟨⟨zs'.take k, rd_take_row ht.row (by omega), fun x hx => ht.dig_ x (List.mem_of_mem_take hx), hval⟩, by omega, by omega, by omega⟩, ⟨by omega, by omega, ?_⟩, below_grown (below_drewN hb q).drew ht.grown (below_drewN hb q).size (Nat.le_refl _), fun a ha => by injection ha with ha; subst ha; exact Nat.le_refl _⟩
          refine Eqm.trans ⟨-(W ^ k), ?_⟩ HV3.out
          grind
end Go.Proofs.YtloajnaphenbjaaGreatDoor
