/-
  The document's own numbers: what Of answers.
-/
import Derived.Test.YtbgnjbalojcgkaaGreatDoorRef
namespace Go.Proofs.YtbgnjbalojcgkaaGreatDoor
open Go.RowKit
set_option linter.unusedVariables false
theorem Dig.snoc {b y : Int} {L : List Int} (h : Dig b L) (h0 : 0 ≤ y) (h1 : y < b) : Dig b (L ++ [y]) := by
  intro x hx
  rw [List.mem_append] at hx
  rcases hx with hx | hx
  · exact h x hx
  · simp at hx; subst hx; exact ⟨h0, h1⟩
theorem val_snoc (b : Int) (L : List Int) (y : Int) : val b (L ++ [y]) = val b L + y * b ^ L.length := by
  rw [val_append]; simp [val, Int.mul_comm]
def OfO (xs : List Int) (n : Nat) (w : World) (o i : Value) (wr : World) : Prop :=
  ∃ (k : Nat) (L : List Int), k ≤ n ∧ i = .int .i64 k ∧ wr.ownsRow w.heap.size 3 1 o (4 * k) (L.map (Value.int .i64)) ∧ Dig D L ∧ val D L = val W (xs.take k) ∧ Below w.heap.size w wr
def OfI (S : Int) (x0 : Int) (k : Nat) (w : World) (o x j : Value) (wr : World) : Prop :=
  ∃ (i : Nat) (y : Int) (L : List Int), i ≤ 4 ∧ j = .int .i64 i ∧ x = .int .u64 y ∧ 0 ≤ y ∧ y < 18446744073709551616 ∧ y * D ^ i ≤ x0 ∧ wr.ownsRow w.heap.size 3 1 o (4 * k + i) (L.map (Value.int .i64)) ∧ Dig D L ∧ val D L + y * D ^ (4 * k + i) = S + x0 * W ^ k ∧ Below w.heap.size w wr
theorem of_step {S x0 y d y' : Int} {L : List Int} {k i : Nat} (hl : L.length = 4 * k + i) (e : y = d + y' * D) (h : val D L + y * D ^ (4 * k + i) = S + x0 * W ^ k) : val D (L ++ [d]) + y' * D ^ (4 * k + (i + 1)) = S + x0 * W ^ k := by
  rw [val_snoc, hl, ← h, e, ← Nat.add_assoc, Int.pow_succ]
  generalize D ^ (4 * k + i) = p
  grind
theorem of_less {x0 y y' d : Int} {i : Nat} (e : y = d + y' * D) (d0 : 0 ≤ d) (h : y * D ^ i ≤ x0) : y' * D ^ (i + 1) ≤ x0 := by
  have hp := pow_pos' D_two i
  have : y' * D ^ (i + 1) = y' * D * D ^ i := by rw [Int.pow_succ]; grind
  rw [this]
  have h2 := Int.mul_le_mul_of_nonneg_right (show y' * D ≤ y by omega) (show 0 ≤ D ^ i by omega)
  omega
theorem of_done {x0 y : Int} (h : y * D ^ 4 ≤ x0) (y0 : 0 ≤ y) (hx : x0 < 18446744073709551616) : y = 0 := by
  have : D ^ 4 = 18446744073709551616 := by decide
  rw [this] at h
  omega
theorem val_take_succ {xs : List Int} {k : Nat} {x : Int} (h : xs[k]? = some x) : val W (xs.take (k + 1)) = val W (xs.take k) + x * W ^ k := by
  have hk : k < xs.length := by
    rcases Nat.lt_or_ge k xs.length with g | g
    · exact g
    · rw [List.getElem?_eq_none g] at h; cases h
  rw [val_take W xs (by omega), val_take W xs (by omega)]
  simp only [vf]
  rw [dig_lt h]
set_option maxHeartbeats 2000000 in
theorem of_any (A : Option Addr) (n c : Nat) (xs : List Int) (w : World) (h : Rd .u64 w A n xs) (hd : Dig W xs) (hn : n ≤ 1000) :
    Calls Tryz.prog 17 #[.slice A n c] w (AnsN (val W xs) w) := by
  go_enter Tryz.func17, Tryz.ntmps17
  go_wp2_with fail
  go_loopw [3, 4] (fun o i wr => OfO xs n w o i wr) (fun _ i _ => n - (intOf i).toNat)
  case atStart => exact ⟨0, [], Nat.zero_le _, rfl, World.ownsRow_nil _ _ _ _, dig_nil _, rfl, Below.refl _ _⟩
  case round =>
    obtain ⟨k, L, hk, rfl, hown, hL, hv, hb⟩ := hrel
    have HV := Lib.hid hv
    clear hv
    rcases Nat.lt_or_ge k n with hlt | hge
    · obtain ⟨b, off, x, rfl, hbb, hx, hcell⟩ := (h.below hb).at_ hlt
      have hdx := dig_W hd k
      rw [dig_lt hx] at hdx
      have HX := Lib.hid hx
      clear hx
      obtain ⟨wo, hwo⟩ : ∃ wo : World, wo = wr := ⟨_, rfl⟩
      go_wp2_with fail
      subst hwo
      go_loopw [3, 5, 6] (fun o x' j wr => OfI (val W (xs.take k)) x k w o x' j wr) (fun _ _ j _ => 4 - (intOf j).toNat)
      case atStart => exact ⟨0, x, L, by omega, rfl, rfl, hdx.1, hdx.2, by simp, hown, hL, by rw [HV.out, W_D]; rfl, hb⟩
      case round =>
        obtain ⟨i, y, L2, hi, rfl, rfl, y0, y1, yx, hown2, hL2, hv2, hb2⟩ := hrel
        have HV2 := Lib.hid hv2
        have HYX := Lib.hid yx
        clear hv2 yx
        have hl2 : L2.length = 4 * k + i := by have := hown2.1; simpa using this
        have HL2 := Lib.hid hl2
        clear hl2
        rcases Nat.lt_or_ge i 4 with hlt2 | hge2
        · have hbase : w.heap.size ≤ wr.heap.size := hb2.size
          go_wp2_with (at_builtin; refine wpList_app _ rfl _ _ 50 rfl w.heap.size 3 .i64 Tryz.underlying50 info3 _ _ L2 rfl (hown2.alloc _) wr.heap.size (y % 65536) rfl ?hc (by omega) ?hb ?_)
          case hc => simp [World.cell?_alloc_new]
          case hb => simp; omega
          intro v' w1 hown' hgrow
          have hb3 := own_below (hb2.alloc hb2.size _) (hown2.alloc _) hgrow (by simp; omega) (Nat.le_refl _)
          have hyd : y = y % 65536 + y / 65536 * D := by unfold D; omega
          have HST := Lib.hid (of_step HL2.out hyd HV2.out)
          have HLS := Lib.hid (of_less hyd (by omega) HYX.out)
          clear hgrow hown2 hyd
          go_wp2
          go_roundw
          case rel => exact ⟨i + 1, y / 65536, L2 ++ [y % 65536], by omega, by go_num, rfl, by omega, by omega, HLS.out, by simpa [Nat.add_assoc] using hown', hL2.snoc (by omega) (by unfold D; omega), HST.out, hb3⟩
          case measure => simp [intOf]; omega
        · obtain rfl : i = 4 := by omega
          have y00 := of_done HYX.out y0 hdx.2
          subst y00
          have hv3 : val D L2 = val W (xs.take (k + 1)) := by rw [val_take_succ HX.out]; have := HV2.out; simpa using this
          have HV3 := Lib.hid hv3
          clear hv3
          go_wp2
          go_roundw
          case rel => exact ⟨k + 1, L2, by omega, by go_num, hown2, hL2, HV3.out, hb2⟩
          case measure => simp [intOf]; omega
    · obtain rfl : k = n := by omega
      obtain ⟨A2, cap, rfl, hrd, hcap, hbl⟩ := own_rd hown
      have hv4 : val D L = val W xs := by rw [HV.out, ← h.len, List.take_length]
      go_wp2_with fail
      refine (trim_any A2 (4 * k) cap L _ hrd hL hcap (by omega)).mono ?_
      rintro e w1 ⟨rfl, rfl⟩
      go_wp2
      go_ret
      exact ⟨_, _, _, rfl, by have := trim_own hrd hL hcap (by omega); rw [hv4] at this; exact this, hb⟩
end Go.Proofs.YtbgnjbalojcgkaaGreatDoor
