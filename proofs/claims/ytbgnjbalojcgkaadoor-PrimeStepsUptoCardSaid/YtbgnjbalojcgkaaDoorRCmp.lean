/-
  The document's own order and bits: what treenailref01.Cmp, Bits and Bit answer.
-/
import Derived.Test.YtbgnjbalojcgkaaDoorRSum
import Derived.Test.YtbgnjbalojcgkaaDoorBit
import Derived.Deep.QuietTactic
import Derived.BigQuiet
namespace Go.Proofs.YtbgnjbalojcgkaaDoor
open Go.RowKit
set_option linter.unusedVariables false
theorem rcmp_at {N M : Int} (hN : 0 ≤ N) (hM : 0 ≤ M) {k m : Nat} (h1 : dr N = m) (h2 : dr M = m) (hm : k < m) (h : ∀ j, k < j → dig (dg D N) j = dig (dg D M) j) : cmpI N M = cmpI (dig (dg D N) k) (dig (dg D M) k) ∨ dig (dg D N) k = dig (dg D M) k := by
  have a1 := val_dr hN (m := m) (by omega)
  have a2 := val_dr hM (m := m) (by omega)
  have b1 := fun j => dig_bd (b := D) (by decide) (dig_dg D_two hN) j
  have b2 := fun j => dig_bd (b := D) (by decide) (dig_dg D_two hM) j
  rcases Int.lt_trichotomy (dig (dg D N) k) (dig (dg D M) k) with g | g | g
  · left
    have := vf_less (b := D) (by decide) b1 b2 hm h g
    rw [cmpI_lt g, cmpI_lt (by omega)]
  · exact .inr g
  · left
    have := vf_less (b := D) (by decide) b2 b1 hm (fun j hj => (h j hj).symm) g
    rw [cmpI_gt g, cmpI_gt (by omega)]
theorem rcmp_all {N M : Int} (hN : 0 ≤ N) (hM : 0 ≤ M) (h : ∀ j, dig (dg D N) j = dig (dg D M) j) : cmpI N M = 0 := by
  have a1 := val_dr hN (m := max (dr N) (dr M)) (by omega)
  have a2 := val_dr hM (m := max (dr N) (dr M)) (by omega)
  rw [vf_congr D (g := dig (dg D M)) (fun j _ => h j), a2] at a1
  subst a1
  exact cmpI_eq _
theorem rcmp_len {N M : Int} (hN : 0 ≤ N) (hM : 0 ≤ M) (h : dr N < dr M) : N < M := by
  rcases Int.lt_or_le N M with k | k
  · exact k
  · have := dg_len_mono D_two hM k
    have e1 : (dg D N).length = dr N := rfl
    have e2 : (dg D M).length = dr M := rfl
    omega
theorem rdig_past {N : Int} {j : Nat} (h : dr N ≤ j) : dig (dg D N) j = 0 := dig_ge h
def RCmpR (N M : Int) (n : Nat) (w : World) (i : Value) (wr : World) : Prop :=
  ∃ v : Int, i = .int .i64 v ∧ -1 ≤ v ∧ v < n ∧ (∀ j : Nat, v < j → dig (dg D N) j = dig (dg D M) j) ∧ ∃ q, wr = w.drewN q
set_option maxHeartbeats 4000000 in
theorem rcmp_any {A A' : Option Addr} {n c n' c' : Nat} {N M : Int} {w : World} (h : Rn w A n c N) (h' : Rn w A' n' c' M) (hn : n ≤ 100000) (hn' : n' ≤ 100000) :
    Calls Tryd.prog 21 #[.slice A n c, .slice A' n' c'] w (AnsI (cmpI N M) w) := by
  have e1 := h.len_
  have e2 := h'.len_
  rcases Nat.lt_trichotomy n n' with g | g | g
  · have hlt := rcmp_len h.pos h'.pos (show dr N < dr M by omega)
    rw [cmpI_lt hlt]
    have hq : ((n : Int) != (n' : Int)) = true := by simp; omega
    clear e1 e2 hlt
    go_enter Tryd.func21, Tryd.ntmps21
    go_wp2
    go_ret
    exact ⟨rfl, 0, rfl⟩
  · subst g
    have hq : ((n : Int) != (n : Int)) = false := by simp
    have E1 := Lib.hid e1
    have E2 := Lib.hid e2
    clear e1 e2
    go_enter Tryd.func21, Tryd.ntmps21
    go_wp2_with fail
    go_loopw [5] (fun i wr => RCmpR N M n w i wr) (fun i _ => (intOf i + 1).toNat)
    case atStart =>
      exact ⟨_, rfl, by omega, by omega, fun j hj => by rw [rdig_past (N := N) (by have := E1.out; omega), rdig_past (N := M) (by have := E2.out; omega)], 0, rfl⟩
    case round =>
      obtain ⟨v, rfl, v0, v1, hd, q, rfl⟩ := hrel
      have HD := Lib.hid hd
      clear hd
      rcases Int.lt_or_le v 0 with hv | hv
      · obtain rfl : v = -1 := by omega
        go_wp2
        go_ret
        exact ⟨by rw [rcmp_all h.pos h'.pos (fun j => HD.out j (by omega))]; rfl, q, rfl⟩
      · obtain ⟨k, rfl⟩ := Int.eq_ofNat_of_zero_le hv
        obtain ⟨b, off, x, rfl, hb, hxx, hcell⟩ := h.rd.at_ (j := k) (by omega)
        obtain ⟨b', off', y, rfl, hb', hyy, hcell'⟩ := h'.rd.at_ (j := k) (by omega)
        have e1 := dig_lt hxx
        have e2 := dig_lt hyy
        have H1 := Lib.hid e1
        have H2 := Lib.hid e2
        clear hxx hyy e1 e2
        have hk1 : (k : Int) < (n : Int) := v1
        rcases Int.lt_trichotomy x y with g | g | g
        · have t1 : decide (x < y) = true := by simpa using g
          go_wp2_with fail
          go_quiet (fail)
          go_wp2
          go_ret
          refine ⟨?_, _, by rw [World.drewN_drewN]⟩
          rcases rcmp_at h.pos h'.pos E1.out.symm E2.out.symm (show k < n by omega) (fun j hj => HD.out j (by omega)) with f | f
          · rw [f, H1.out, H2.out, cmpI_lt g]; rfl
          · rw [H1.out, H2.out] at f; omega
        · subst g
          have t1 : decide (x < x) = false := by simp
          go_wp2_with fail
          go_quiet (fail)
          go_wp2_with fail
          go_quiet (fail)
          go_wp2
          go_roundw
          case rel =>
            refine ⟨_, rfl, by omega, by omega, fun j hj => ?_, _, by first | rfl | (rw [World.drewN_drewN, World.drewN_drewN])⟩
            rcases Nat.lt_or_ge k j with h3 | h3
            · exact HD.out j (by omega)
            · obtain rfl : j = k := by omega
              rw [H1.out, H2.out]
          case measure => simp [intOf]
        · have t1 : decide (x < y) = false := by simp; omega
          have t2 : decide (y < x) = true := by simpa using g
          go_wp2_with fail
          go_quiet (fail)
          go_wp2_with fail
          go_quiet (fail)
          go_wp2
          go_ret
          refine ⟨?_, _, by rw [World.drewN_drewN, World.drewN_drewN]⟩
          rcases rcmp_at h.pos h'.pos E1.out.symm E2.out.symm (show k < n by omega) (fun j hj => HD.out j (by omega)) with f | f
          · rw [f, H1.out, H2.out, cmpI_gt g]; rfl
          · rw [H1.out, H2.out] at f; omega
  · have hlt := rcmp_len h'.pos h.pos (show dr M < dr N by omega)
    rw [cmpI_gt hlt]
    have hq : ((n : Int) != (n' : Int)) = true := by simp; omega
    clear e1 e2 hlt
    go_enter Tryd.func21, Tryd.ntmps21
    go_wp2
    go_ret
    exact ⟨rfl, 0, rfl⟩
/-! ### Bits -/
theorem D_pow (n : Nat) : D ^ n = 2 ^ (16 * n) := by
  have : D = 2 ^ 16 := by decide
  rw [this, ← Int.pow_mul]
theorem rnb_top {N t : Int} {m r : Nat} (hN : 0 < N) (hm : dr N = m + 1) (ht : dig (dg D N) m = t) (h0 : t < 2 ^ r) (h1 : 0 < r → 2 ^ (r - 1) ≤ t) (h2 : 0 < t) : nb N = 16 * m + r := by
  have hv := val_dr (show 0 ≤ N by omega) (Nat.le_of_eq hm)
  have hlow := vf_bd (b := D) (by decide) (fun j => dig_bd (b := D) (by decide) (dig_dg D_two (show 0 ≤ N by omega)) j) m
  have hv' : vf D (dig (dg D N)) m + dig (dg D N) m * D ^ m = N := hv
  rw [ht] at hv'
  have hp := pow_pos' D_two m
  have hr : 0 < r := by
    rcases Nat.eq_zero_or_pos r with g | g
    · subst g; simp at h0; omega
    · exact g
  refine dg_len_eq (by decide) ?_ ?_ (by omega)
  · have e1 : 16 * m + r - 1 = (r - 1) + 16 * m := by omega
    rw [e1, Int.pow_add, ← D_pow]
    have := Int.mul_le_mul_of_nonneg_right (h1 hr) (show 0 ≤ D ^ m by omega)
    omega
  · have e1 : 16 * m + r = r + 16 * m := by omega
    rw [e1, Int.pow_add, ← D_pow]
    have := Int.mul_le_mul_of_nonneg_right (show t + 1 ≤ 2 ^ r by omega) (show 0 ≤ D ^ m by omega)
    rw [Int.add_mul] at this
    omega
def RbR (m : Nat) (t : Int) (c x : Value) : Prop := ∃ (r : Nat) (y : Int), c = .int .i64 (16 * (m : Int) + r) ∧ x = .int .i64 y ∧ y = t / 2 ^ r ∧ (0 < r → 2 ^ (r - 1) ≤ t) ∧ r ≤ 16
theorem half_half {t : Int} {r : Nat} : t / 2 ^ r / 2 = t / 2 ^ (r + 1) := by
  have e : (2 : Int) ^ (r + 1) = 2 ^ r * 2 := Int.pow_succ _ _
  rw [e, ← Int.ediv_ediv_of_nonneg (Int.le_of_lt (Int.pow_pos (by decide)))]
theorem le_of_half {t : Int} {r : Nat} (h : 0 < t / 2 ^ r) (h0 : 0 ≤ t) : 2 ^ r ≤ t := by
  have hp : (0 : Int) < 2 ^ r := Int.pow_pos (by decide)
  rcases Int.lt_or_le t (2 ^ r) with g | g
  · rw [Int.ediv_eq_zero_of_lt h0 g] at h; omega
  · exact g
set_option maxHeartbeats 1000000 in
theorem rbits_any {A : Option Addr} {n c : Nat} {N : Int} {w : World} (h : Rn w A n c N) (hn : n ≤ 100000) :
    Calls Tryd.prog 18 #[.slice A n c] w fun e w' => e = .returned (.int .i64 (nb N : Nat)) ∧ w = w' := by
  have e1 := h.len_
  rcases Nat.eq_zero_or_pos n with g | g
  · subst g
    have hN0 : N = 0 := (dg_nil_iff D_two h.pos).1 e1.symm
    subst hN0
    have e0 : nb 0 = 0 := by unfold nb; rw [dg_zero]; rfl
    rw [e0]
    clear e0 e1
    go_enter Tryd.func18, Tryd.ntmps18
    go_wp2
    go_ret
    exact ⟨rfl, rfl⟩
  · obtain ⟨m, hm⟩ : ∃ m, m + 1 = n := ⟨n - 1, by omega⟩
    have hN : 0 < N := by
      rcases Int.lt_or_le 0 N with q | q
      · exact q
      · have : N = 0 := by have := h.pos; omega
        subst this
        have : dr 0 = 0 := by unfold dr; rw [dg_zero]; rfl
        omega
    have htop := dg_top D_two hN
    rw [show (dg D N).length - 1 = m by have : (dg D N).length = n := e1.symm; omega] at htop
    obtain ⟨b, off, t, rfl, hb, ht, hct⟩ := h.rd.at_ (j := m) (by omega)
    have hte := dig_lt ht
    have hd := dig_D (dig_dg D_two h.pos) m
    rw [hte] at htop hd
    have HTE := Lib.hid hte
    have HM := Lib.hid hm
    have E1 := Lib.hid e1
    have hne : ((n : Int) == 0) = false := by simp; omega
    have f1 : (n : Int) - 1 = m := by omega
    have hmn : m < n := by omega
    have hm0 : (m : Int) ≤ 100000 := by omega
    clear ht hte e1 hm
    go_enter Tryd.func18, Tryd.ntmps18
    go_wp2_with fail
    go_loop [3, 4] (fun c x => RbR m t c x) (fun _ x => (intOf x).toNat)
    case atStart => exact ⟨0, t, by simp, rfl, by simp, fun h => absurd h (by omega), by omega⟩
    case round =>
      obtain ⟨r, y, rfl, rfl, hy, hr, hr16⟩ := hrel
      have HY := Lib.hid hy
      have HR := Lib.hid hr
      have y0 : 0 ≤ y := by rw [hy]; exact Int.ediv_nonneg (by omega) (Int.le_of_lt (Int.pow_pos (by decide)))
      have y1 : y ≤ 65535 := by have := Int.ediv_le_self (2 ^ r) (show 0 ≤ t by omega); rw [← hy] at this; omega
      clear hy hr
      rcases Int.lt_or_le 0 y with hp | hp
      · have hle : 2 ^ r ≤ t := le_of_half (by rw [← HY.out]; exact hp) (by omega)
        have hr15 : r ≤ 15 := by
          rcases Nat.lt_or_ge r 16 with q | q
          · omega
          · have := pow_mono (b := 2) (by decide) q
            have e16 : (2 : Int) ^ 16 = 65536 := by decide
            omega
        have HLE := Lib.hid hle
        clear hle
        go_wp2
        go_round
        case rel => exact ⟨r + 1, _, by go_num, rfl, by rw [HY.out]; exact half_half, fun _ => by simpa using HLE.out, by omega⟩
        case measure => simp [intOf]; omega
      · have hy0 : y = 0 := by omega
        have hlt : t < 2 ^ r := by
          rcases Int.lt_or_le t (2 ^ r) with q | q
          · exact q
          · have := Int.le_ediv_of_mul_le (a := 1) (b := t) (c := 2 ^ r) (Int.pow_pos (by decide)) (by omega)
            rw [← HY.out] at this; omega
        have hnb := rnb_top hN (by rw [← E1.out, HM.out]) HTE.out hlt HR.out (by omega)
        have HNB := Lib.hid hnb
        clear hnb hlt
        subst hy0
        go_wp2
        go_ret
        exact ⟨by rw [HNB.out]; go_num, rfl⟩
/-! ### Bit -/
theorem rsplit {xs : List Int} {m r : Nat} (hd : Dig D xs) (hr : r < 16) : val D xs / 2 ^ (16 * m + r) % 2 = dig xs m / 2 ^ r % 2 := by
  have h := val_vf D xs (m := m + 1 + xs.length) (by omega)
  rw [vf_split D (dig xs) (m + 1) xs.length] at h
  have hlow := vf_bd (b := D) (by decide) (fun j => dig_bd (b := D) (by decide) hd j) m
  generalize vf D (fun j => dig xs (m + 1 + j)) xs.length = hi at h
  simp only [vf] at h
  rw [h]
  have e1 : (2 : Int) ^ (16 * m + r) = D ^ m * 2 ^ r := by rw [Int.pow_add, D_pow]
  have e2 : D ^ (m + 1) = D ^ m * D := Int.pow_succ _ _
  have e3 : D = 2 ^ r * 2 ^ (15 - r) * 2 := by
    rw [← Int.pow_add, show r + (15 - r) = 15 by omega]; decide
  have hp := pow_pos' D_two m
  have hp2 : (0 : Int) < 2 ^ r := Int.pow_pos (by decide)
  have e4 : vf D (dig xs) m + dig xs m * D ^ m + D ^ (m + 1) * hi = vf D (dig xs) m + D ^ m * (dig xs m + D * hi) := by rw [e2]; grind
  rw [e4, e1, ← Int.ediv_ediv_of_nonneg (Int.le_of_lt hp), Int.add_mul_ediv_left _ _ (Int.ne_of_gt hp), Int.ediv_eq_zero_of_lt hlow.1 hlow.2, Int.zero_add]
  have e5 : dig xs m + D * hi = dig xs m + 2 ^ r * (2 * (2 ^ (15 - r) * hi)) := by
    have : D * hi = 2 ^ r * (2 * (2 ^ (15 - r) * hi)) := by
      conv => lhs; rw [e3]
      generalize (2 : Int) ^ r = p
      generalize (2 : Int) ^ (15 - r) = q
      grind
    rw [this]
  rw [e5, Int.add_mul_ediv_left _ _ (Int.ne_of_gt hp2), Int.add_mul_emod_self_left]
def RtR (t : Int) (r : Nat) (x k : Value) : Prop := ∃ (j : Nat) (y : Int), j ≤ r ∧ k = .int .i64 j ∧ x = .int .i64 y ∧ y = t / 2 ^ j ∧ 0 ≤ y ∧ y ≤ 65535
set_option maxHeartbeats 1000000 in
theorem rbit_any {A : Option Addr} {n c : Nat} {N : Int} {w : World} (h : Rn w A n c N) (hn : n ≤ 100000) (i : Int) (i1 : i ≤ 9223372036854775807) :
    Calls Tryd.prog 19 #[.slice A n c, .int .i64 i] w fun e w' => e = .returned (.bool (bt N i)) ∧ w = w' := by
  by_cases hi : i < 0
  · have e : bt N i = false := by unfold bt; simp; omega
    rw [e]
    clear e
    go_enter Tryd.func19, Tryd.ntmps19
    go_wp2
    go_ret
    exact ⟨rfl, rfl⟩
  · obtain ⟨k, rfl⟩ := Int.eq_ofNat_of_zero_le (show 0 ≤ i by omega)
    have hXd := dig_dg D_two h.pos
    have hsp := rsplit (xs := dg D N) (m := k / 16) (r := k % 16) hXd (by omega)
    rw [show 16 * (k / 16) + k % 16 = k by omega, val_dg D_two h.pos] at hsp
    have e : bt N k = decide (dig (dg D N) (k / 16) / 2 ^ (k % 16) % 2 = 1) := by
      unfold bt; rw [Int.toNat_natCast, hsp]; simp
    rw [e]
    clear e hsp hi
    rcases Nat.lt_or_ge (k / 16) n with hlt | hge
    · obtain ⟨b, off, x, rfl, hb, hxx, hcell⟩ := h.rd.at_ hlt
      rw [dig_lt hxx]
      have hd := dig_D hXd (k / 16)
      rw [dig_lt hxx] at hd
      have hkk : (k : Int) / 16 < (n : Int) := by omega
      have hr : k % 16 ≤ 15 := by omega
      clear hxx
      go_enter Tryd.func19, Tryd.ntmps19
      go_wp2_with fail
      go_loop [5, 6] (fun x' j => RtR x (k % 16) x' j) (fun _ j => k % 16 - (intOf j).toNat)
      case atStart => exact ⟨0, x, by omega, rfl, rfl, by simp, hd.1, by omega⟩
      case round =>
        obtain ⟨j, y, hj, rfl, rfl, hy, y0, y1⟩ := hrel
        have HY := Lib.hid hy
        clear hy
        rcases Nat.lt_or_ge j (k % 16) with q | q
        · have q' : (j : Int) < (k : Int) % 16 := by omega
          go_wp2
          go_round
          case rel => exact ⟨j + 1, _, by omega, by go_num, rfl, by rw [HY.out]; exact half_half, by omega, by omega⟩
          case measure => simp [intOf]; omega
        · obtain rfl : j = k % 16 := by omega
          go_wp2
          go_ret
          exact ⟨congrArg (fun b => Ending.returned (.bool b)) (by rw [← HY.out]; simp [BEq.beq]), rfl⟩
    · rw [dig_ge (by rw [h.rd.len]; exact hge)]
      have hkk : (n : Int) ≤ (k : Int) / 16 := by omega
      go_enter Tryd.func19, Tryd.ntmps19
      go_wp2
      go_ret
      exact ⟨by simp, rfl⟩
end Go.Proofs.YtbgnjbalojcgkaaDoor
