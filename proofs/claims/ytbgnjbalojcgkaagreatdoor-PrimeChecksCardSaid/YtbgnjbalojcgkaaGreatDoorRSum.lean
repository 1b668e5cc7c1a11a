/-
  What the document's Sub answers.
-/
import Derived.Test.YtbgnjbalojcgkaaGreatDoorRAdd
namespace Go.Proofs.YtbgnjbalojcgkaaGreatDoor
open Go.RowKit
set_option linter.unusedVariables false
def RsR (X Y : List Int) (n : Nat) (w : World) (o c i : Value) (wr : World) : Prop :=
  ∃ (k : Nat) (cr : Int) (L : List Int), k ≤ n ∧ i = .int .i64 k ∧ c = .int .i64 cr ∧ 0 ≤ cr ∧ cr ≤ 1 ∧ wr.ownsRow w.heap.size 3 1 o k (L.map (Value.int .i64)) ∧ Dig D L ∧ val D L - cr * D ^ k = vf D (dig X) k - vf D (dig Y) k ∧ Below w.heap.size w wr
theorem rs_step {X Y L : List Int} {k : Nat} {cr d c' : Int} (hl : L.length = k) (e : d - c' * 65536 = dig X k - dig Y k - cr) (h : val D L - cr * D ^ k = vf D (dig X) k - vf D (dig Y) k) : val D (L ++ [d]) - c' * D ^ (k + 1) = vf D (dig X) (k + 1) - vf D (dig Y) (k + 1) := by
  rw [val_snoc, hl]
  simp only [vf]
  have e2 : D ^ (k + 1) = D ^ k * 65536 := Int.pow_succ _ _
  rw [e2]
  generalize D ^ k = p at *
  generalize val D L = a at *
  generalize vf D (dig X) k = x at *
  generalize vf D (dig Y) k = y at *
  grind
theorem rs_end {N M cr : Int} {L : List Int} {n : Nat} (h0 : 0 ≤ M) (hNM : M ≤ N) (hl : L.length = n) (hn : n = dr N) (hd : Dig D L) (c0 : 0 ≤ cr) (h : val D L - cr * D ^ n = vf D (dig (dg D N)) n - vf D (dig (dg D M)) n) : val D L = N - M := by
  have hM : dr M ≤ n := by rw [hn]; exact dg_len_mono D_two h0 hNM
  rw [val_dr (by omega) (by omega), val_dr h0 hM] at h
  have hb := val_lt (b := D) (by decide) hd
  rw [hl] at hb
  have hp := pow_pos' D_two n
  rcases Int.lt_or_le 0 cr with g | g
  · have := Int.mul_le_mul_of_nonneg_right (show (1 : Int) ≤ cr by omega) (show 0 ≤ D ^ n by omega)
    omega
  · have : cr = 0 := by omega
    subst this; simpa using h
set_option maxHeartbeats 4000000 in
theorem rsub_any {A A' : Option Addr} {n c n' c' : Nat} {N M : Int} {w : World} (h : Rn w A n c N) (h' : Rn w A' n' c' M) (hn : n ≤ 100000) (hNM : M ≤ N) :
    Calls Tryz.prog 30 #[.slice A n c, .slice A' n' c'] w (AnsN (N - M) w) := by
  have dX := dig_D (dig_dg D_two h.pos)
  have dY := dig_D (dig_dg D_two h'.pos)
  have DX := Lib.hid dX
  have DY := Lib.hid dY
  clear dX dY
  go_enter Tryz.func30, Tryz.ntmps30
  go_wp2_with fail
  go_loopw [5, 6, 7] (fun o c i wr => RsR (dg D N) (dg D M) n w o c i wr) (fun _ _ i _ => n - (intOf i).toNat)
  case atStart => exact ⟨0, 0, [], Nat.zero_le _, rfl, rfl, Int.le_refl _, by decide, World.ownsRow_nil _ _ _ _, dig_nil _, by simp [vf, val], Below.refl _ _⟩
  case round =>
    obtain ⟨k, cr, L, hk, rfl, rfl, c0, c1, hown, hL, hv, hb⟩ := hrel
    have HV := Lib.hid hv
    clear hv
    have hll : L.length = k := by have := hown.1; simpa using this
    have HLL := Lib.hid hll
    clear hll
    rcases Nat.lt_or_ge k n with hlt | hge
    · have d1 := DX.out k
      have d2 := DY.out k
      obtain ⟨x, hx⟩ : ∃ x, dig (dg D N) k = x := ⟨_, rfl⟩
      obtain ⟨y, hy⟩ : ∃ y, dig (dg D M) k = y := ⟨_, rfl⟩
      rw [hx] at d1
      rw [hy] at d2
      have x0 := d1.1
      have x1 := d1.2
      have y0 := d2.1
      have y1 := d2.2
      have hbase : w.heap.size ≤ wr.heap.size := hb.size
      have HA1 := Lib.hid (at_any A n c (dg D N) k wr (h.rd.below hb))
      have HA2 := Lib.hid (at_any A' n' c' (dg D M) k wr (h'.rd.below hb))
      rw [hx] at HA1
      rw [hy] at HA2
      rcases Int.lt_or_le (x - y - cr) 0 with g | g
      · have HST := Lib.hid (rs_step (c' := 1) HLL.out (show (x - y - cr + 65536) - 1 * 65536 = dig (dg D N) k - dig (dg D M) k - cr by rw [hx, hy]; omega) HV.out)
        clear hx hy d1 d2
        go_wp2_with fail
        refine HA1.out.mono ?_
        rintro e w1 ⟨rfl, rfl⟩
        go_wp2_with fail
        refine HA2.out.mono ?_
        rintro e w1 ⟨rfl, rfl⟩
        go_wp2_with (at_builtin; refine wpList_app _ rfl _ _ 50 rfl w.heap.size 3 .i64 Tryz.underlying50 info3 _ _ L rfl (hown.alloc _) wr.heap.size (x - y - cr + 65536) rfl ?hc1 (by omega) ?hb1 ?_)
        case hc1 => simp [World.cell?_alloc_new]
        case hb1 => simp; omega
        intro v' w1 hown' hgrow
        have hb3 := own_below (hb.alloc hb.size _) (hown.alloc _) hgrow (by simp; omega) (Nat.le_refl _)
        clear hgrow hown
        go_wp2
        go_roundw
        case rel => exact ⟨k + 1, _, L ++ [x - y - cr + 65536], by omega, by go_num, rfl, by omega, by omega, by simpa using hown', hL.snoc (by omega) (by unfold D; omega), HST.out, hb3⟩
        case measure => simp [intOf]; omega
      · have HST := Lib.hid (rs_step (c' := 0) HLL.out (show (x - y - cr) - 0 * 65536 = dig (dg D N) k - dig (dg D M) k - cr by rw [hx, hy]; omega) HV.out)
        clear hx hy d1 d2
        go_wp2_with fail
        refine HA1.out.mono ?_
        rintro e w1 ⟨rfl, rfl⟩
        go_wp2_with fail
        refine HA2.out.mono ?_
        rintro e w1 ⟨rfl, rfl⟩
        go_wp2_with (at_builtin; refine wpList_app _ rfl _ _ 50 rfl w.heap.size 3 .i64 Tryz.underlying50 info3 _ _ L rfl (hown.alloc _) wr.heap.size (x - y - cr) rfl ?hc2 (by omega) ?hb2 ?_)
        case hc2 => simp [World.cell?_alloc_new]
        case hb2 => simp; omega
        intro v' w1 hown' hgrow
        have hb3 := own_below (hb.alloc hb.size _) (hown.alloc _) hgrow (by simp; omega) (Nat.le_refl _)
        clear hgrow hown
        go_wp2
        go_roundw
        case rel => exact ⟨k + 1, _, L ++ [x - y - cr], by omega, by go_num, rfl, by omega, by omega, by simpa using hown', hL.snoc (by omega) (by unfold D; omega), HST.out, hb3⟩
        case measure => simp [intOf]; omega
    · obtain rfl : k = n := by omega
      obtain ⟨A2, cap, rfl, hrd, hcap, hbl⟩ := own_rd hown
      have hval := rs_end h'.pos hNM HLL.out h.len_ hL c0 HV.out
      have HVL := Lib.hid hval
      clear hval
      go_wp2_with fail
      refine (trim_any A2 k cap L _ hrd hL hcap (by omega)).mono ?_
      rintro e w1 ⟨rfl, rfl⟩
      go_wp2
      go_ret
      exact ⟨_, _, _, rfl, by have := trim_own hrd hL hcap (by omega); rw [HVL.out] at this; rw [HVL.out]; exact this, hb⟩
end Go.Proofs.YtbgnjbalojcgkaaGreatDoor
