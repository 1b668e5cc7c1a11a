/-
  Digits shifted by some bits: shiftLeft, shiftRight.
-/
import Derived.Test.YtloajnaphenbjaaGreatDoorTimes
import Derived.Laws.BitsLemmas
import Derived.Laws.Bits64b
namespace Go.Proofs.YtloajnaphenbjaaGreatDoor
open Go.RowKit
set_option linter.unusedVariables false
/-- 2 to the s. -/
def pw (s : Nat) : Int := 2 ^ s
theorem pw_pos (s : Nat) : 0 < pw s := Int.pow_pos (by decide)
theorem pw_mul {s : Nat} (hs : s ≤ 64) : pw s * pw (64 - s) = 18446744073709551616 := by
  unfold pw; rw [← Int.pow_add, Nat.add_sub_cancel' hs]; decide
theorem pw_nat (s : Nat) : ((2 ^ s : Nat) : Int) = pw s := by simp [pw]
theorem wrap_shl (y : Int) {s : Nat} (hs : s ≤ 64) : IntKind.u64.wrap (y * 2 ^ s) = pw s * (y % pw (64 - s)) := by
  rw [IntKind.wrap_u64, ← pw_mul hs, Int.mul_comm y]
  exact Int.mul_emod_mul_of_pos _ _ (pw_pos s)
/-- High and low bits, put together. -/
theorem or_sum {s : Nat} (hs : s ≤ 64) {q r : Int} (q0 : 0 ≤ q) (q1 : q < pw (64 - s)) (r0 : 0 ≤ r) (r1 : r < pw s) : bits .or .u64 (pw s * q) r = pw s * q + r := by
  have hm := pw_mul hs
  have hp := pw_pos s
  have hb : pw s * (q + 1) ≤ 18446744073709551616 := by rw [← hm]; exact Int.mul_le_mul_of_nonneg_left (by omega) (by omega)
  rw [Int.mul_add] at hb
  obtain ⟨a, rfl⟩ := Int.eq_ofNat_of_zero_le q0
  obtain ⟨b, rfl⟩ := Int.eq_ofNat_of_zero_le r0
  rw [← pw_nat] at hb r1 ⊢
  have e : ((2 ^ s : Nat) : Int) * (a : Int) = ((2 ^ s * a : Nat) : Int) := (Int.natCast_mul _ _).symm
  rw [e] at hb ⊢
  have hr : b < 2 ^ s := by omega
  rw [bits_or_u64_nat _ _ (by omega) (by omega), ← Nat.two_pow_add_eq_or_of_lt hr a, Int.natCast_add]
theorem or_sum' {s : Nat} (hs : s ≤ 64) {q r : Int} (q0 : 0 ≤ q) (q1 : q < pw (64 - s)) (r0 : 0 ≤ r) (r1 : r < pw s) : bits .or .u64 r (pw s * q) = pw s * q + r := by
  have hm := pw_mul hs
  have hp := pw_pos s
  have hb : pw s * (q + 1) ≤ 18446744073709551616 := by rw [← hm]; exact Int.mul_le_mul_of_nonneg_left (by omega) (by omega)
  rw [Int.mul_add] at hb
  obtain ⟨a, rfl⟩ := Int.eq_ofNat_of_zero_le q0
  obtain ⟨b, rfl⟩ := Int.eq_ofNat_of_zero_le r0
  rw [← pw_nat] at hb r1 ⊢
  have e : ((2 ^ s : Nat) : Int) * (a : Int) = ((2 ^ s * a : Nat) : Int) := (Int.natCast_mul _ _).symm
  rw [e] at hb ⊢
  have hr : b < 2 ^ s := by omega
  rw [bits_or_u64_nat _ _ (by omega) (by omega), Nat.or_comm, ← Nat.two_pow_add_eq_or_of_lt hr a, Int.natCast_add]
theorem shl_or {s : Nat} (hs : s ≤ 64) {x ov : Int} (x0 : 0 ≤ x) (x1 : x < 18446744073709551616) (o0 : 0 ≤ ov) (o1 : ov < pw s) :
    0 ≤ bits .or .u64 (IntKind.u64.wrap (x * 2 ^ s)) ov ∧ bits .or .u64 (IntKind.u64.wrap (x * 2 ^ s)) ov < W ∧ 0 ≤ x / 2 ^ (64 - s) ∧ x / 2 ^ (64 - s) < pw s ∧
      bits .or .u64 (IntKind.u64.wrap (x * 2 ^ s)) ov + W * (x / 2 ^ (64 - s)) = pw s * x + ov := by
  have hm := pw_mul hs
  have hp := pw_pos s
  have hq := pw_pos (64 - s)
  have g0 := Int.emod_nonneg x (show pw (64 - s) ≠ 0 by omega)
  have g1 := Int.emod_lt_of_pos x hq
  rw [wrap_shl x hs, or_sum hs g0 g1 o0 o1]
  have hb : pw s * (x % pw (64 - s) + 1) ≤ 18446744073709551616 := by rw [← hm]; exact Int.mul_le_mul_of_nonneg_left (by omega) (by omega)
  rw [Int.mul_add] at hb
  have h0 : 0 ≤ pw s * (x % pw (64 - s)) := Int.mul_nonneg (by omega) g0
  have e : x / 2 ^ (64 - s) = x / pw (64 - s) := rfl
  rw [e]
  have hd := Int.emod_add_mul_ediv x (pw (64 - s))
  refine ⟨by omega, by unfold W; omega, Int.ediv_nonneg x0 (by omega), Int.ediv_lt_of_lt_mul hq (by rw [hm]; exact x1), ?_⟩
  have hW : W = pw s * pw (64 - s) := hm.symm
  rw [hW]
  generalize pw s = p at *
  generalize pw (64 - s) = q at *
  generalize x % q = a at *
  generalize x / q = b at *
  grind
theorem shr_or {s : Nat} (hs : s ≤ 64) {x y : Int} (x0 : 0 ≤ x) (x1 : x < 18446744073709551616) :
    0 ≤ bits .or .u64 (x / 2 ^ s) (IntKind.u64.wrap (y * 2 ^ (64 - s))) ∧ bits .or .u64 (x / 2 ^ s) (IntKind.u64.wrap (y * 2 ^ (64 - s))) < W ∧
      pw s * bits .or .u64 (x / 2 ^ s) (IntKind.u64.wrap (y * 2 ^ (64 - s))) = x - x % pw s + W * (y % pw s) := by
  have hm := pw_mul hs
  have hp := pw_pos s
  have hq := pw_pos (64 - s)
  have es : 64 - (64 - s) = s := by omega
  have g0 := Int.emod_nonneg y (show pw s ≠ 0 by omega)
  have g1 := Int.emod_lt_of_pos y hp
  have e : x / 2 ^ s = x / pw s := rfl
  have f0 := Int.ediv_nonneg x0 (show 0 ≤ pw s by omega)
  have f1 : x / pw s < pw (64 - s) := Int.ediv_lt_of_lt_mul hp (by rw [Int.mul_comm, hm]; exact x1)
  rw [wrap_shl y (s := 64 - s) (by omega), es, e, or_sum' (s := 64 - s) (by omega) g0 (by rw [es]; exact g1) f0 f1]
  have hb : pw (64 - s) * (y % pw s + 1) ≤ 18446744073709551616 := by rw [← hm, Int.mul_comm (pw s)]; exact Int.mul_le_mul_of_nonneg_left (by omega) (by omega)
  rw [Int.mul_add] at hb
  have h0 : 0 ≤ pw (64 - s) * (y % pw s) := Int.mul_nonneg (by omega) g0
  have hd := Int.emod_add_mul_ediv x (pw s)
  refine ⟨by omega, by unfold W; omega, ?_⟩
  have hW : W = pw s * pw (64 - s) := hm.symm
  rw [hW]
  generalize pw s = p at *
  generalize pw (64 - s) = q at *
  generalize y % p = a at *
  generalize x / p = b at *
  generalize x % p = d at *
  grind
theorem shl_step {X zs : List Int} {k : Nat} {P ov v ov' : Int} (hk : k < zs.length) (e : v + W * ov' = P * dig X k + ov)
    (h : vf W (dig zs) k + ov * W ^ k = P * vf W (dig X) k) : vf W (dig (zs.set k v)) (k + 1) + ov' * W ^ (k + 1) = P * vf W (dig X) (k + 1) := by
  rw [vf_set hk]
  simp only [vf]
  rw [Int.pow_succ]
  generalize vf W (dig zs) k = a at *
  generalize vf W (dig X) k = x at *
  generalize W ^ k = p at *
  generalize dig X k = d at *
  grind
theorem shr_step {X zs : List Int} {k : Nat} {P v r0 r1 r : Int} (hk : k < zs.length) (e : P * v = dig X k - r0 + W * r1)
    (h : P * vf W (dig zs) k = vf W (dig X) k + r0 * W ^ k - r) : P * vf W (dig (zs.set k v)) (k + 1) = vf W (dig X) (k + 1) + r1 * W ^ (k + 1) - r := by
  rw [vf_set hk]
  simp only [vf]
  rw [Int.pow_succ]
  generalize vf W (dig zs) k = a at *
  generalize vf W (dig X) k = x at *
  generalize W ^ k = p at *
  generalize dig X k = d at *
  grind
def ShlR (X : List Int) (n s : Nat) (w : World) (o i : Value) (wr : World) : Prop :=
  ∃ (k : Nat) (zs : List Int) (ov : Int), k ≤ n ∧ i = .int .i64 k ∧ o = .int .u64 ov ∧ 0 ≤ ov ∧ ov < pw s ∧ Row wr w.heap.size 38 .u64 zs ∧ zs.length = n + 1 ∧ Dig W zs ∧
    vf W (dig zs) k + ov * W ^ k = pw s * vf W (dig X) k ∧ Below w.heap.size w wr
def ShlP (X : List Int) (n s : Nat) (w : World) (e : Ending) (w' : World) : Prop :=
  ∃ zs : List Int, e = .returned (.slice (some ⟨w.heap.size, 0, none⟩) (n + 1) (n + 1)) ∧ Row w' w.heap.size 38 .u64 zs ∧ zs.length = n + 1 ∧ Dig W zs ∧ vf W (dig zs) (n + 1) = pw s * vf W (dig X) n ∧ Below w.heap.size w w'
theorem pw_lt {s : Nat} (hs : s < 64) : pw s < W := by
  have := pw_mul (Nat.le_of_lt hs)
  have h1 := pw_pos s
  have h2 : 2 ≤ pw (64 - s) := by
    have h3 := pow_mono (b := 2) (by decide) (show 1 ≤ 64 - s by omega)
    unfold pw; omega
  have h4 := Int.mul_le_mul_of_nonneg_left h2 (show 0 ≤ pw s by omega)
  unfold W; omega
set_option maxHeartbeats 1000000 in
theorem shiftLeft_any {A : Option Addr} {n c : Nat} {X : List Int} {w : World} (h : Rd .u64 w A n X) (hd : Dig W X) (hn : n ≤ 64) (s : Nat) (hs : s < 64) :
    Calls Tryz.prog 114 #[.slice A n c, .int .i64 s] w (ShlP X n s w) := by
  have hmk := fun W => run_make64 (n + 1) (C := (n : Int) + 1) (by omega) (by omega) W
  obtain ⟨Z, hZ⟩ : ∃ Z : List Int, Z = List.replicate (n + 1) 0 := ⟨_, rfl⟩
  rw [← hZ] at hmk
  have HZ := Lib.hid hZ
  clear hZ
  go_enter Tryz.func114, Tryz.ntmps114
  go_wp2_with fail
  clear hmk
  go_loopw [6, 14] (fun o i wr => ShlR X n s w o i wr) (fun _ i _ => n - (intOf i).toNat)
  case atStart =>
    exact ⟨0, Z, 0, Nat.zero_le _, rfl, rfl, Int.le_refl _, pw_pos s, Row.new _ _ _ _, by rw [HZ.out]; simp, by rw [HZ.out]; intro x hx; simp at hx; subst hx; exact ⟨by decide, by decide⟩, by simp [vf], (Below.refl _ _).alloc (Nat.le_refl _) _⟩
  case round =>
    obtain ⟨k, zs, ov, hk, rfl, rfl, o0, o1, hrow, hlen, hzd, hv, hb⟩ := hrel
    have HV := Lib.hid hv
    clear hv
    have HLEN := Lib.hid hlen
    have hf := hrow.frozen k
    have hc := hrow.cell (getElem?_dig (show k < zs.length by omega))
    clear hlen
    have hs1 : (0 : Int) ≤ s := by omega
    have hs2 : (s : Int) < 64 := by omega
    rcases Nat.lt_or_ge k n with hlt | hge
    · obtain ⟨b, off, x, rfl, hbb, hx, hcell0⟩ := h.at_ hlt
      have hcell := (hb.cell (p := ⟨b, off + k, none⟩) hbb).trans hcell0
      clear hcell0
      have d1 := dig_W hd k
      have hxe := dig_lt hx
      rw [hxe] at d1
      have HX := Lib.hid hxe
      clear hx hxe
      have HB := Lib.hid (shl_or (s := s) (by omega) d1.1 d1.2 o0 o1)
      go_wp2
      go_roundw
      case rel => exact ⟨k + 1, _, _, by omega, by go_num, rfl, HB.out.2.2.1, HB.out.2.2.2.1, hrow.set _ _, by simpa using HLEN.out, hzd.set HB.out.1 HB.out.2.1 _, shl_step (by have := HLEN.out; omega) (by rw [HX.out]; exact HB.out.2.2.2.2) HV.out, hb.setCell (Nat.le_refl _) _⟩
      case measure => simp [intOf]; omega
    · obtain rfl : k = n := by omega
      have o2 := pw_lt hs
      go_wp2
      go_ret
      exact ⟨_, rfl, hrow.set _ _, by simpa using HLEN.out, hzd.set o0 (by omega) _, by rw [vf_set (by have := HLEN.out; omega)]; exact HV.out, hb.setCell (Nat.le_refl _) _⟩
def ShrR (X : List Int) (n s : Nat) (w : World) (i : Value) (wr : World) : Prop :=
  ∃ (k : Nat) (zs : List Int), k ≤ n ∧ i = .int .i64 k ∧ Row wr w.heap.size 38 .u64 zs ∧ zs.length = n ∧ Dig W zs ∧
    pw s * vf W (dig zs) k = vf W (dig X) k + (dig X k % pw s) * W ^ k - dig X 0 % pw s ∧ Below w.heap.size w wr
def ShrP (X : List Int) (n s : Nat) (w : World) (e : Ending) (w' : World) : Prop :=
  ∃ zs : List Int, e = .returned (.slice (some ⟨w.heap.size, 0, none⟩) n n) ∧ Row w' w.heap.size 38 .u64 zs ∧ zs.length = n ∧ Dig W zs ∧ pw s * vf W (dig zs) n = vf W (dig X) n - dig X 0 % pw s ∧ Below w.heap.size w w'
set_option maxHeartbeats 2000000 in
theorem shiftRight_any {A : Option Addr} {n c : Nat} {X : List Int} {w : World} (h : Rd .u64 w A n X) (hd : Dig W X) (hn : n ≤ 64) (s : Nat) (hs : s < 64) :
    Calls Tryz.prog 116 #[.slice A n c, .int .i64 s] w (ShrP X n s w) := by
  have hmk := fun W => run_make64 n (C := (n : Int)) (by omega) (by omega) W
  obtain ⟨Z, hZ⟩ : ∃ Z : List Int, Z = List.replicate n 0 := ⟨_, rfl⟩
  rw [← hZ] at hmk
  have HZ := Lib.hid hZ
  clear hZ
  go_enter Tryz.func116, Tryz.ntmps116
  go_wp2_with fail
  clear hmk
  go_loopw [12] (fun i wr => ShrR X n s w i wr) (fun i _ => n - (intOf i).toNat)
  case atStart =>
    exact ⟨0, Z, Nat.zero_le _, rfl, Row.new _ _ _ _, by rw [HZ.out]; simp, by rw [HZ.out]; intro x hx; simp at hx; rw [hx.2]; exact ⟨by decide, by decide⟩, by simp [vf], (Below.refl _ _).alloc (Nat.le_refl _) _⟩
  case round =>
    obtain ⟨k, zs, hk, rfl, hrow, hlen, hzd, hv, hb⟩ := hrel
    have HV := Lib.hid hv
    clear hv
    have HLEN := Lib.hid hlen
    have hs1 : (0 : Int) ≤ s := by omega
    have hs2 : (s : Int) < 64 := by omega
    rcases Nat.lt_or_ge k n with hlt | hge
    · have hf := hrow.frozen k
      have hc := hrow.cell (getElem?_dig (show k < zs.length by omega))
      clear hlen
      have hX := h.below hb
      obtain ⟨b, off, x, rfl, hbb, hx, hcell⟩ := hX.at_ hlt
      have d1 := dig_W hd k
      have hxe := dig_lt hx
      rw [hxe] at d1
      have HX := Lib.hid hxe
      clear hx hxe
      have HB := Lib.hid (shr_or (s := s) (y := dig X (k + 1)) (by omega) d1.1 d1.2)
      have e1 : IntKind.i64.wrap ((k : Int) + 1) = (k : Int) + 1 := IntWalk.i64_in _ (by omega)
      have e2 : (64 - (s : Int)).toNat = 64 - s := by omega
      have e3 : IntKind.i64.wrap (64 - (s : Int)) = 64 - (s : Int) := IntWalk.i64_in _ (by omega)
      have hkn : (k : Int) < (n : Int) := by omega
      go_wp2_with fail
      go_region_with (go_at_call 84; refine (limbAt_any _ n c X (k + 1) _ ?_).mono ?_; exact hX.drew; rintro e w1 ⟨rfl, rfl⟩)
      all_goals
        go_wp2
        go_roundw
        case rel => exact ⟨k + 1, _, by omega, by go_num, (hrow.set _ _).drew, by simpa using HLEN.out, hzd.set HB.out.1 HB.out.2.1 _, shr_step (by have := HLEN.out; omega) (by rw [HX.out]; exact HB.out.2.2) HV.out, (hb.setCell (Nat.le_refl _) _).drew⟩
        case measure => simp [intOf]; omega
    · obtain rfl : k = n := by omega
      go_wp2
      go_ret
      exact ⟨_, rfl, hrow, HLEN.out, hzd, by rw [HV.out, dig_ge (Nat.le_of_eq h.len)]; simp, hb⟩
end Go.Proofs.YtloajnaphenbjaaGreatDoor
