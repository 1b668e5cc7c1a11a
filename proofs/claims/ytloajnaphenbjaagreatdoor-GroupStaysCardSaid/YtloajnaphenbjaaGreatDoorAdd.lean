/-
  What nat.Add answers: the sum of two numbers, or ErrLong.
-/
import Derived.Test.YtloajnaphenbjaaGreatDoorNm
namespace Go.Proofs.YtloajnaphenbjaaGreatDoor
open Go.RowKit

theorem info62 : (Tryz.prog.info? 38).map (fun i => (i.zero, i.size, i.bytes)) = some (some (.int .u64 0), 1, 8) := by kernel_rfl
theorem made64 (n : Nat) : madeCells (Value.cells (.int .u64 0)) (n * 1) = ((List.replicate n 0).map (Value.int .u64)).toArray := by
  apply Array.ext'
  rw [Nat.mul_one]
  show (madeCells #[Value.int .u64 0] n).toList = _
  rw [toList_madeCells_one]; simp
/-- make([]uint64, n): n noughts in a new block. -/
theorem run_make64 (n : Nat) {C : Int} (hC : C = n) (hn : n ≤ 35184372088832) (w : World) : (Instr.makeSlice 23 (.int .i64 C) (.int .i64 C)).run Tryz.prog w =
    .ok (.slice (some ⟨w.heap.size, 0, none⟩) n n) (w.alloc (.cells ((List.replicate n 0).map (Value.int .u64)).toArray 38)) := by
  subst hC
  obtain ⟨i0, hi, hz0, hz1, hz2⟩ := info_parts info62
  have hr := run_make (P := Tryz.prog) w 23 38 i0 (.int .u64 0) Tryz.underlying23 hi hz0 .i64 .i64 n n (by omega) (by omega) (by rw [hz2]; omega) (by omega)
  rw [hz1, made64] at hr
  simpa using hr
def AddR (X Y : List Int) (n : Nat) (w : World) (c i : Value) (wr : World) : Prop :=
  ∃ (k : Nat) (zs : List Int) (cr : Int), k ≤ n ∧ i = .int .i64 k ∧ c = .int .u64 cr ∧ 0 ≤ cr ∧ cr ≤ 1 ∧ Row wr w.heap.size 38 .u64 zs ∧ zs.length = n + 1 ∧ Dig W zs ∧
    vf W (dig zs) k + cr * W ^ k = vf W (dig X) k + vf W (dig Y) k ∧ Below w.heap.size w wr
theorem vf_set {zs : List Int} {k : Nat} (hk : k < zs.length) (v : Int) : vf W (dig (zs.set k v)) (k + 1) = vf W (dig zs) k + v * W ^ k := by
  simp only [vf]
  rw [dig_set_same hk, vf_congr W (g := dig zs) (fun j hj => dig_set_ne (by omega))]
theorem add_step {X Y zs : List Int} {k : Nat} {cr v c' : Int} (hk : k < zs.length) (e : v + W * c' = dig X k + dig Y k + cr)
    (h : vf W (dig zs) k + cr * W ^ k = vf W (dig X) k + vf W (dig Y) k) : vf W (dig (zs.set k v)) (k + 1) + c' * W ^ (k + 1) = vf W (dig X) (k + 1) + vf W (dig Y) (k + 1) := by
  rw [vf_set hk]
  simp only [vf]
  rw [Int.pow_succ]
  generalize vf W (dig zs) k = a at *
  generalize vf W (dig X) k = x at *
  generalize vf W (dig Y) k = y at *
  generalize W ^ k = p at *
  grind
theorem add_last {X Y zs : List Int} {m : Nat} {cr : Int} (hk : zs.length = m + 1) (hx : X.length ≤ m) (hy : Y.length ≤ m)
    (h : vf W (dig zs) m + cr * W ^ m = vf W (dig X) m + vf W (dig Y) m) : val W (zs.set m cr) = val W X + val W Y := by
  rw [val_vf W (zs.set m cr) (m := m + 1) (by simp [hk]), vf_set (by omega), val_vf W X hx, val_vf W Y hy, h]
theorem grow_row {w wr : World} {t : TypeId} {k : IntKind} {zs : List Int} (_h : Row wr w.heap.size t k zs) (hb : Below w.heap.size w wr) (i : Nat) (u : Value) : Below w.heap.size w (wr.setCell ⟨w.heap.size, i, none⟩ u) :=
  hb.setCell (Nat.le_refl _) u
set_option maxHeartbeats 400000 in
theorem add_any {A A' : Option Addr} {n c n' c' : Nat} {N M : Int} {w : World} (h : Nm w A n c N) (h' : Nm w A' n' c' M) (hl : dl N ≤ 64) (hl' : dl M ≤ 64) :
    Calls Tryz.prog 48 #[.slice A n c, .slice A' n' c'] w (Ans (N + M) w) := by
  obtain ⟨m, hm⟩ : ∃ m : Nat, max (dl N : Int) (dl M : Int) = m := ⟨max (dl N) (dl M), by omega⟩
  have hm1 : dl N ≤ m := by omega
  have hm2 : dl M ≤ m := by omega
  have hm3 : m ≤ 64 := by omega
  have hmk := fun W => run_make64 (m + 1) (C := (m : Int) + 1) (by omega) (by omega) W
  obtain ⟨Z, hZ⟩ : ∃ Z : List Int, Z = List.replicate (m + 1) 0 := ⟨_, rfl⟩
  rw [← hZ] at hmk
  have HZ := Lib.hid hZ
  clear hZ
  go_enter Tryz.func48, Tryz.ntmps48
  go_wp2_with fail
  refine (limbs_nm h).mono ?_
  rintro e w1 ⟨rfl, rfl⟩
  go_wp2_with fail
  refine (limbs_nm h').mono ?_
  rintro e w1 ⟨rfl, rfl⟩
  go_wp2_with fail
  refine (tooLong_no _ _ _ _ _ _ _ hl hl').mono ?_
  rintro e w1 ⟨rfl, rfl⟩
  go_wp2_with fail
  clear hmk hm
  have hx := h.lim
  have hy := h'.lim
  go_loopw [10, 29] (fun c i wr => AddR (dg W N) (dg W M) m w c i wr) (fun _ i _ => m - (intOf i).toNat)
  case atStart =>
    exact ⟨0, Z, 0, Nat.zero_le _, rfl, rfl, Int.le_refl _, by decide, Row.new _ _ _ _, by rw [HZ.out]; simp, by rw [HZ.out]; intro x hx; simp at hx; subst hx; exact ⟨by decide, by decide⟩, by simp [vf], (Below.refl _ _).alloc (Nat.le_refl _) _⟩
  case round =>
    obtain ⟨k, zs, cr, hk, rfl, rfl, c0, c1, hrow, hzl, hzd, hv, hb⟩ := hrel
    have HV := Lib.hid hv
    clear hv
    rcases Nat.lt_or_ge k m with hlt | hge
    · have d1 := dig_W (dig_dg W_two hx.pos) k
      have d2 := dig_W (dig_dg W_two hy.pos) k
      have hf := hrow.frozen k
      have hc := hrow.cell (getElem?_dig (show k < zs.length by omega))
      have HB := add64_bd d1.1 d1.2 d2.1 d2.2 c0 c1
      have hr := hrow.set k (alo (dig (dg W N) k) (dig (dg W M) k) cr)
      have hbl := grow_row hrow hb k (.int .u64 (alo (dig (dg W N) k) (dig (dg W M) k) cr))
      go_wp2_with fail
      refine (limbAt_any A (dl N) c (dg W N) k _ (hx.rd.below hb)).mono ?_
      rintro e w1 ⟨rfl, rfl⟩
      go_wp2_with fail
      refine (limbAt_any A' (dl M) c' (dg W M) k _ (hy.rd.below hb)).mono ?_
      rintro e w1 ⟨rfl, rfl⟩
      go_wp2_with (simp only [add64 _ _ _ d1.1 d2.1 c0 c1])
      go_roundw
      case rel => exact ⟨k + 1, _, _, by omega, by go_num, rfl, HB.2.2.1, HB.2.2.2.1, hr, by simpa using hzl, hzd.set HB.1 HB.2.1 k, add_step (by omega) HB.2.2.2.2 HV.out, hbl⟩
      case measure => simp [intOf]; omega
    · obtain rfl : k = m := by omega
      have hf := hrow.frozen k
      have hc := hrow.cell (getElem?_dig (show k < zs.length by omega))
      have hr := hrow.set k cr
      have hbl := grow_row hrow hb k (.int .u64 cr)
      have hdd := hzd.set c0 (show cr < W by unfold W; omega) k
      have hval := add_last (X := dg W N) (Y := dg W M) hzl hm1 hm2 HV.out
      rw [val_dg W_two hx.pos, val_dg W_two hy.pos] at hval
      have hnm : Nm (wr.setCell ⟨w.heap.size, k, none⟩ (.int .u64 cr)) (some ⟨w.heap.size, 0, none⟩) (k + 1) (k + 1) (N + M) :=
        ⟨⟨zs.set k cr, hr.rd (by simpa using hzl) (fun j x hx => by rwa [Nat.zero_add]), hdd, hval⟩, Nat.le_refl _, by omega, Int.add_nonneg hx.pos hy.pos⟩
      have HVAL := Lib.hid hval
      clear hval
      go_wp2_with fail
      refine (limbs_nm hnm).mono ?_
      rintro e w1 ⟨rfl, rfl⟩
      go_wp2
      go_ret2
      exact ⟨_, _, _, rfl, hnm.lim, hbl, fun a ha => by injection ha with ha; subst ha; exact Nat.le_refl _⟩
theorem add_long {A A' : Option Addr} {n c n' c' : Nat} {N M : Int} {w : World} (h : Nm w A n c N) (h' : Nm w A' n' c' M) (hl : 64 < dl N ∨ 64 < dl M) :
    Calls Tryz.prog 48 #[.slice A n c, .slice A' n' c'] w (Err1 2 w) := by
  have HL := Lib.hid hl
  clear hl
  go_enter Tryz.func48, Tryz.ntmps48
  go_wp2_with fail
  refine (limbs_nm h).mono ?_
  rintro e w1 ⟨rfl, rfl⟩
  go_wp2_with fail
  refine (limbs_nm h').mono ?_
  rintro e w1 ⟨rfl, rfl⟩
  go_wp2_with fail
  refine (tooLong_yes _ _ _ _ _ _ _ HL.out).mono ?_
  rintro e w1 ⟨rfl, rfl⟩
  go_wp2
  go_ret2
  exact ⟨rfl, Below.refl _ _⟩
end Go.Proofs.YtloajnaphenbjaaGreatDoor
