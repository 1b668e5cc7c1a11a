/-
  The document's own products and quotients: what treenailref01.Mul, double and Div answer.
-/
import Derived.Test.YtelhkmgbpcojiaaDoorRAdd
import Derived.Test.YtelhkmgbpcojiaaDoorKit
namespace Go.Proofs.YtelhkmgbpcojiaaDoor
open Go.RowKit
set_option linter.unusedVariables false
/-- The number that n digits of 16 bits from off on are. -/
def wd (zs : List Int) (off n : Nat) : Int := vf D (fun j => dig zs (off + j)) n
theorem wd_set {zs : List Int} {off k : Nat} (hk : off + k < zs.length) (v : Int) : wd (zs.set (off + k) v) off (k + 1) = wd zs off k + v * D ^ k := by
  unfold wd
  simp only [vf]
  rw [dig_set_same hk, vf_congr D (g := fun j => dig zs (off + j)) (fun j hj => dig_set_ne (by omega))]
theorem vf_windowD {rs ys : List Int} {j n t : Nat} (hr : ∀ i, i < j ∨ j + n ≤ i → dig ys i = dig rs i) (ht : j + n ≤ t) : vf D (dig ys) t - vf D (dig rs) t = D ^ j * (wd ys j n - wd rs j n) := by
  have a := vf_split D (dig ys) j n
  have b := vf_split D (dig rs) j n
  have c := vf_same D (f := dig ys) (g := dig rs) (k := j + n) ht (fun i hi => hr i (.inr hi))
  have d := vf_congr D (f := dig ys) (g := dig rs) (k := j) (fun i hi => hr i (.inl hi))
  have ea : vf D (fun i => dig ys (j + i)) n = wd ys j n := rfl
  have eb : vf D (fun i => dig rs (j + i)) n = wd rs j n := rfl
  rw [ea] at a
  rw [eb] at b
  rw [Int.mul_sub]
  omega
theorem rm_step {zs ys Y : List Int} {i k : Nat} {x c d c' : Int} (hk : i + k < ys.length) (hr : dig ys (i + k) = dig zs (i + k)) (e : d + c' * 65536 = dig ys (i + k) + x * dig Y k + c)
    (h : wd ys i k + c * D ^ k = wd zs i k + x * vf D (dig Y) k) : wd (ys.set (i + k) d) i (k + 1) + c' * D ^ (k + 1) = wd zs i (k + 1) + x * vf D (dig Y) (k + 1) := by
  rw [wd_set hk]
  have e2 : D ^ (k + 1) = D ^ k * 65536 := Int.pow_succ _ _
  have e3 : wd zs i (k + 1) = wd zs i k + dig zs (i + k) * D ^ k := rfl
  rw [e2, e3, ← hr]
  simp only [vf]
  generalize wd ys i k = a at *
  generalize wd zs i k = b at *
  generalize vf D (dig Y) k = y at *
  generalize D ^ k = p at *
  generalize dig ys (i + k) = z at *
  generalize dig Y k = q at *
  grind
def RmI (zs Y : List Int) (x : Int) (i n' T : Nat) (w : World) (c k : Value) (wr : World) : Prop :=
  ∃ (j : Nat) (cr : Int) (ys : List Int), j ≤ n' + 1 ∧ k = .int .i64 j ∧ c = .int .i64 cr ∧ 0 ≤ cr ∧ cr ≤ 65535 ∧ (n' < j → cr = 0) ∧ Row wr w.heap.size 3 .i64 ys ∧ ys.length = T ∧ Dig D ys ∧ (∀ q, q < i ∨ i + j ≤ q → dig ys q = dig zs q) ∧
    wd ys i j + cr * D ^ j = wd zs i j + x * vf D (dig Y) j ∧ Below w.heap.size w wr
def RmO (X : List Int) (M : Int) (n n' T : Nat) (w : World) (k : Value) (wr : World) : Prop :=
  ∃ (i : Nat) (zs : List Int), i ≤ n ∧ k = .int .i64 i ∧ Row wr w.heap.size 3 .i64 zs ∧ zs.length = T ∧ Dig D zs ∧ (∀ q, i + n' ≤ q → dig zs q = 0) ∧ vf D (dig zs) T = vf D (dig X) i * M ∧ Below w.heap.size w wr
theorem made3 (n : Nat) : madeCells (Value.cells (.int .i64 0)) (n * 1) = ((List.replicate n 0).map (Value.int .i64)).toArray := by
  apply Array.ext'
  rw [Nat.mul_one]
  show (madeCells #[Value.int .i64 0] n).toList = _
  rw [toList_madeCells_one]; simp
theorem run_make3 (n : Nat) {C : Int} (hC : C = n) (hn : n ≤ 35184372088832) (w : World) : (Instr.makeSlice 29 (.int .i64 C) (.int .i64 C)).run Tryd.prog w =
    .ok (.slice (some ⟨w.heap.size, 0, none⟩) n n) (w.alloc (.cells ((List.replicate n 0).map (Value.int .i64)).toArray 3)) := by
  subst hC
  obtain ⟨i0, hi, hz0, hz1, hz2⟩ := info_parts info3
  have hr := run_make (P := Tryd.prog) w 29 3 i0 (.int .i64 0) Tryd.underlying29 hi hz0 .i64 .i64 n n (by omega) (by omega) (by rw [hz2]; omega) (by omega)
  rw [hz1, made3] at hr
  simpa using hr
set_option maxHeartbeats 8000000 in
theorem rmul_any {A A' : Option Addr} {n c n' c' : Nat} {N M : Int} {w : World} (h : Rn w A n c N) (h' : Rn w A' n' c' M) (hn : n ≤ 10000) (hn' : n' ≤ 10000) :
    Calls Tryd.prog 8 #[.slice A n c, .slice A' n' c'] w (AnsN (N * M) w) := by
  have dX := dig_D (dig_dg D_two h.pos)
  have dY := dig_D (dig_dg D_two h'.pos)
  have DX := Lib.hid dX
  have DY := Lib.hid dY
  clear dX dY
  obtain ⟨T, hT⟩ : ∃ T, T = n + n' + 1 := ⟨_, rfl⟩
  have hmk := fun W => run_make3 T (C := (n : Int) + (n' : Int) + 1) (by omega) (by omega) W
  obtain ⟨Z, hZ⟩ : ∃ Z : List Int, Z = List.replicate T 0 := ⟨_, rfl⟩
  rw [← hZ] at hmk
  have HZ := Lib.hid hZ
  have HT := Lib.hid hT
  have hT1 : n + n' < T := by omega
  have hT2 : T ≤ 20001 := by omega
  clear hZ hT
  go_enter Tryd.func8, Tryd.ntmps8
  go_wp2_with fail
  clear hmk
  go_loopw [6] (fun k wr => RmO (dg D N) M n n' T w k wr) (fun k _ => n - (intOf k).toNat)
  case atStart =>
    refine ⟨0, Z, Nat.zero_le _, rfl, Row.new _ _ _ _, by rw [HZ.out]; simp, by rw [HZ.out]; intro x hx; simp at hx; rw [hx.2]; exact ⟨by decide, by decide⟩, fun q _ => by rw [HZ.out]; exact dig_replicate _ _, ?_, (Below.refl _ _).alloc (Nat.le_refl _) _⟩
    rw [HZ.out, vf_zero D (k := 0) (Nat.zero_le _) (fun j _ => dig_replicate _ j)]; simp [vf]
  case round =>
    obtain ⟨i, zs, hi, rfl, hrow, hzl, hzd, hz, hv, hb⟩ := hrel
    have HV := Lib.hid hv
    have HZE := Lib.hid hz
    have HZL := Lib.hid hzl
    clear hv hz
    rcases Nat.lt_or_ge i n with hlt | hge
    · obtain ⟨ba, oa, x, rfl, hba, hxx, hcx⟩ := h.rd.at_ hlt
      have hxe := dig_lt hxx
      have dx := DX.out i
      rw [hxe] at dx
      have HXE := Lib.hid hxe
      clear hxx hxe hzl
      obtain ⟨wo, hwo⟩ : ∃ wo : World, wo = wr := ⟨_, rfl⟩
      go_wp2_with fail
      subst hwo
      go_loopw [7, 8] (fun c k wr => RmI zs (dg D M) x i n' T w c k wr) (fun _ k _ => n' + 2 - (intOf k).toNat)
      case atStart => exact ⟨0, 0, zs, by omega, rfl, rfl, Int.le_refl _, by decide, fun h => absurd h (by omega), hrow, HZL.out, hzd, fun _ _ => rfl, by simp [wd, vf], hb⟩
      case round =>
        obtain ⟨j, cr, ys, hj, rfl, rfl, c0, c1, hcz, yr, yl, yd, yo, yv, hb2⟩ := hrel
        have HCZ := Lib.hid hcz
        have HYO := Lib.hid yo
        have HYV := Lib.hid yv
        have HYL := Lib.hid yl
        clear hcz yo yv
        by_cases hstop : n' ≤ j ∧ cr = 0
        · obtain ⟨q1, rfl⟩ := hstop
          have hsum : vf D (dig ys) T = vf D (dig (dg D N)) (i + 1) * M := by
            have a := vf_windowD (rs := zs) (ys := ys) (j := i) (n := j) (t := T) HYO.out (by have := HT.out; omega)
            have b := HYV.out
            rw [val_dr h'.pos (by rw [← h'.len_]; exact q1)] at b
            simp only [Int.zero_mul, Int.add_zero] at b
            rw [b, HV.out] at a
            simp only [vf]
            rw [HXE.out]
            have e : wd zs i j + x * M - wd zs i j = x * M := by omega
            rw [e] at a
            generalize D ^ i = p at *
            generalize vf D (dig (dg D N)) i = u at *
            grind
          have HSUM := Lib.hid hsum
          clear hsum yl
          go_wp2
          go_roundw
          case rel => exact ⟨i + 1, ys, by omega, by go_num, yr, HYL.out, yd, fun q hq => by rw [HYO.out q (.inr (by omega))]; exact HZE.out q (by omega), HSUM.out, hb2⟩
          case measure => simp [intOf]; omega
        · have hjn : j ≤ n' := by
            rcases Nat.lt_or_ge n' j with g | g
            · exfalso; exact hstop ⟨by omega, HCZ.out g⟩
            · exact g
          have dy := DY.out j
          obtain ⟨y, hy⟩ : ∃ y, dig (dg D M) j = y := ⟨_, rfl⟩
          rw [hy] at dy
          have dz := dig_D yd (i + j)
          have cz := yr.cell (getElem?_dig (show i + j < ys.length by omega))
          have fz := yr.frozen (i + j)
          obtain ⟨z, hz⟩ : ∃ z, dig ys (i + j) = z := ⟨_, rfl⟩
          rw [hz] at dz cz
          obtain ⟨p, hp⟩ : ∃ p, x * y = p := ⟨_, rfl⟩
          have p0 : 0 ≤ p := by rw [← hp]; exact Int.mul_nonneg dx.1 dy.1
          have p1 : p ≤ 4294836225 := by
            have := Int.mul_le_mul (show x ≤ 65535 by omega) (show y ≤ 65535 by omega) dy.1 (by decide)
            rw [hp] at this; omega
          have hcnew : n' < j + 1 → (z + p + cr) / 65536 = 0 := by
            intro g
            have e1 : y = 0 := by rw [← hy]; exact dig_ge (by rw [h'.rd.len]; omega)
            have e2 : z = 0 := by rw [← hz, HYO.out (i + j) (.inr (Nat.le_refl _))]; exact HZE.out _ (by omega)
            have e3 : p = 0 := by rw [← hp, e1]; simp
            omega
          have HST := Lib.hid (rm_step (x := x) (d := (z + p + cr) % 65536) (c' := (z + p + cr) / 65536) (show i + j < ys.length by omega) (HYO.out _ (.inr (Nat.le_refl _))) (by rw [hz, hy, hp]; omega) HYV.out)
          have HCN := Lib.hid hcnew
          have HA1 := Lib.hid (fun W' (hh : Rd .i64 W' A' n' (dg D M)) => at_any A' n' c' (dg D M) j W' hh)
          have hrdb := h'.rd.below hb2
          have hcx2 := (hb2.cell (p := ⟨ba, oa + i, none⟩) hba).trans hcx
          rw [hy] at HA1
          have g1 : IntKind.i64.wrap ((i : Int) + (j : Int)) = (i : Int) + (j : Int) := IntWalk.i64_in _ (by omega)
          have g2 : 0 ≤ (i : Int) + (j : Int) := by omega
          have g3 : ((i : Int) + (j : Int)).toNat = i + j := by omega
          have g4 : (i : Int) + (j : Int) < (T : Int) := by omega
          have g5 : IntKind.i64.wrap (x * y) = p := by rw [hp]; exact IntWalk.i64_in _ (by omega)
          have g6 : IntKind.i64.wrap (z + p) = z + p := IntWalk.i64_in _ (by omega)
          have g7 : IntKind.i64.wrap (z + p + cr) = z + p + cr := IntWalk.i64_in _ (by omega)
          have g8 : (i : Int) < (n : Int) := by omega
          have hT3 : i + j < T := by omega
          clear hcnew hy hz hp yl
          rcases Nat.lt_or_ge j n' with q1 | q1
          · clear hstop
            go_wp2_with fail
            go_quiet ((go_at_call 19; exact quiet_one (HA1.out _ (hrdb.drewN _))))
            clear g1 g2 g3 g5 g6 g7
            go_wp2
            go_roundw
            case rel => exact ⟨j + 1, _, _, by omega, by go_num, rfl, by omega, by omega, HCN.out, (yr.set _ _).drewN _, by simpa using HYL.out, yd.set (by omega) (by unfold D; omega) _, fun q hq => by rw [dig_set_ne (by omega)]; exact HYO.out q (by omega), HST.out, below_drewN (hb2.setCell (Nat.le_refl _) _) _⟩
            case measure => simp [intOf]; omega
          · have q3 : 0 < cr := by
              rcases Int.lt_or_le 0 cr with g | g
              · exact g
              · exfalso; exact hstop ⟨q1, by omega⟩
            clear hstop
            go_wp2_with fail
            go_quiet ((go_at_call 19; exact quiet_one (HA1.out _ (hrdb.drewN _))))
            clear g1 g2 g3 g5 g6 g7
            go_wp2
            go_roundw
            case rel => exact ⟨j + 1, _, _, by omega, by go_num, rfl, by omega, by omega, HCN.out, (yr.set _ _).drewN _, by simpa using HYL.out, yd.set (by omega) (by unfold D; omega) _, fun q hq => by rw [dig_set_ne (by omega)]; exact HYO.out q (by omega), HST.out, below_drewN (hb2.setCell (Nat.le_refl _) _) _⟩
            case measure => simp [intOf]; omega
    · obtain rfl : i = n := by omega
      have hval : val D zs = N * M := by
        rw [val_vf D zs (m := T) (by omega), HV.out, val_dr h.pos (by rw [← h.len_]; exact Nat.le_refl _)]
      have hrd : Rd .i64 wr (some ⟨w.heap.size, 0, none⟩) T zs := hrow.rd hzl (fun j x hx => by rwa [Nat.zero_add])
      have HVL := Lib.hid hval
      clear hval hzl
      go_wp2_with fail
      refine (trim_any _ T T zs _ hrd hzd (Nat.le_refl _) (by omega)).mono ?_
      rintro e w1 ⟨rfl, rfl⟩
      go_wp2
      go_ret
      exact ⟨_, _, _, rfl, by have := trim_own hrd hzd (Nat.le_refl T) (by omega); rw [HVL.out] at this; rw [HVL.out]; exact this, hb⟩
end Go.Proofs.YtelhkmgbpcojiaaDoor
