/-
  Rows of digits that are changed in place: addTimes, takeTimes, addBack.
-/
import Derived.Test.YtloajnaphenbjaaGreatDoorAdd
import Derived.Test.YtloajnaphenbjaaGreatDoorCmp
import Derived.Deep.RegionWith
namespace Go.Proofs.YtloajnaphenbjaaGreatDoor
open Go.RowKit
/-- The number that n digits from off on are. -/
def wv (zs : List Int) (off n : Nat) : Int := vf W (fun j => dig zs (off + j)) n
theorem wv_succ (zs : List Int) (off n : Nat) : wv zs off (n + 1) = wv zs off n + dig zs (off + n) * W ^ n := rfl
theorem wv_set {zs : List Int} {off k : Nat} (hk : off + k < zs.length) (v : Int) : wv (zs.set (off + k) v) off (k + 1) = wv zs off k + v * W ^ k := by
  rw [wv_succ, dig_set_same hk]
  unfold wv
  rw [vf_congr W (g := fun j => dig zs (off + j)) (fun j hj => dig_set_ne (by omega))]
theorem wv_congr {zs ys : List Int} {off n : Nat} (h : ∀ j, off ≤ j → j < off + n → dig zs j = dig ys j) : wv zs off n = wv ys off n :=
  vf_congr W (fun j hj => h (off + j) (by omega) (by omega))
theorem wv_bd {zs : List Int} (h : Dig W zs) (off n : Nat) : 0 ≤ wv zs off n ∧ wv zs off n < W ^ n :=
  vf_bd (by decide) (fun j => dig_bd (by decide) h _) n
/-- Behind a call that changed n digits of block g from off on: all else is as it was. -/
structure Turned (w w' : World) (g off n : Nat) (zs ys : List Int) : Prop where
  row : Row w' g 38 .u64 ys
  len : ys.length = zs.length
  dig_ : Dig W ys
  rest : ∀ j, j < off ∨ off + n ≤ j → dig ys j = dig zs j
  grown : w.grownBy w' (some g)
theorem Turned.refl {w : World} {g off : Nat} {zs : List Int} (h : Row w g 38 .u64 zs) (hd : Dig W zs) : Turned w w g off 0 zs zs :=
  ⟨h, rfl, hd, fun _ _ => rfl, World.grownBy.refl w _⟩
theorem Turned.step {w w' : World} {g off n : Nat} {zs ys : List Int} (h : Turned w w' g off n zs ys) {v : Int} (h0 : 0 ≤ v) (h1 : v < W) : Turned w (w'.setCell ⟨g, off + n, none⟩ (.int .u64 v)) g off (n + 1) zs (ys.set (off + n) v) :=
  ⟨h.row.set _ _, by simpa using h.len, h.dig_.set h0 h1 _, fun j hj => by rw [dig_set_ne (by omega)]; exact h.rest j (by omega), grown_setCell h.grown _ _⟩
theorem Turned.drew {w w' : World} {g off n : Nat} {zs ys : List Int} (h : Turned w w' g off n zs ys) : Turned w w'.drew g off n zs ys := ⟨h.row.drew, h.len, h.dig_, h.rest, grown_drew h.grown⟩

/-! ### addTimes -/
theorem times_step {z y K over lo hi l1 c1 z' c2 : Int} (h0 : lo + W * hi = y * K) (h1 : l1 + W * c1 = lo + over + 0) (h2 : z' + W * c2 = z + l1 + 0) : z' + W * (hi + c1 + c2) = z + y * K + over := by
  grind
theorem times_fits {z y K over a b : Int} (hz : z < 18446744073709551616) (hy0 : 0 ≤ y) (hy : y < 18446744073709551616) (hK0 : 0 ≤ K) (hK : K < 18446744073709551616) (ho : over < 18446744073709551616) (ha : 0 ≤ a) (h : a + 18446744073709551616 * b = z + y * K + over) : b < 18446744073709551616 := by
  have h2 : y * K ≤ 18446744073709551615 * 18446744073709551615 := Int.mul_le_mul (by omega) (by omega) hK0 (by decide)
  omega
theorem times_sum {zs ys Y : List Int} {off k : Nat} {K over over' v : Int} (hk : off + k < ys.length) (hr : dig ys (off + k) = dig zs (off + k))
    (e : v + W * over' = dig ys (off + k) + dig Y k * K + over) (h : wv ys off k + over * W ^ k = wv zs off k + K * vf W (dig Y) k) :
    wv (ys.set (off + k) v) off (k + 1) + over' * W ^ (k + 1) = wv zs off (k + 1) + K * vf W (dig Y) (k + 1) := by
  rw [wv_set hk, wv_succ, ← hr]
  simp only [vf]
  rw [Int.pow_succ]
  generalize wv ys off k = a at *
  generalize wv zs off k = b at *
  generalize vf W (dig Y) k = d at *
  generalize W ^ k = p at *
  generalize dig ys (off + k) = z at *
  generalize dig Y k = y at *
  grind
def TimesR (zs Y : List Int) (off n g : Nat) (K : Int) (w : World) (o i : Value) (wr : World) : Prop :=
  ∃ (k : Nat) (ys : List Int) (over : Int), k ≤ n ∧ i = .int .i64 k ∧ o = .int .u64 over ∧ 0 ≤ over ∧ over < 18446744073709551616 ∧ Turned w wr g off k zs ys ∧ wv ys off k + over * W ^ k = wv zs off k + K * vf W (dig Y) k
def TimesP (zs Y : List Int) (off n g : Nat) (K : Int) (w : World) (e : Ending) (w' : World) : Prop :=
  ∃ (ys : List Int) (over : Int), e = .returned (.int .u64 over) ∧ 0 ≤ over ∧ over < 18446744073709551616 ∧ Turned w w' g off n zs ys ∧ wv ys off n + over * W ^ n = wv zs off n + K * vf W (dig Y) n
set_option maxHeartbeats 1000000 in
theorem addTimes_any {w : World} {g off n cz c : Nat} {zs Y : List Int} {B : Option Addr} {K : Int} (hrow : Row w g 38 .u64 zs) (hzd : Dig W zs) (hin : off + n ≤ zs.length) (hn : n ≤ 17592186044416)
    (hY : Rd .u64 w B n Y) (hYd : Dig W Y) (hne : 0 < n → ∀ a, B = some a → a.block ≠ g) (hK0 : 0 ≤ K) (hK : K < 18446744073709551616) :
    Calls Tryz.prog 109 #[.slice (some ⟨g, off, none⟩) n cz, .slice B n c, .int .u64 K] w (TimesP zs Y off n g K w) := by
  go_enter Tryz.func109, Tryz.ntmps109
  go_wp2_with fail
  go_loopw [7, 14] (fun o i wr => TimesR zs Y off n g K w o i wr) (fun _ i _ => n - (intOf i).toNat)
  case atStart => exact ⟨0, zs, 0, Nat.zero_le _, rfl, rfl, Int.le_refl _, by decide, Turned.refl hrow hzd, by simp [wv, vf]⟩
  case round =>
    obtain ⟨k, ys, over, hk, rfl, rfl, o0, o1, ht, hv⟩ := hrel
    have HV := Lib.hid hv
    clear hv
    rcases Nat.lt_or_ge k n with hlt | hge
    · have hlen := ht.len
      obtain ⟨b, bo, y, rfl, hbb, hyy, hcell⟩ := (hY.grown ht.grown (hne (by omega))).at_ hlt
      have hye := dig_lt hyy
      have dy := dig_W hYd k
      rw [hye] at dy
      have HY := Lib.hid hye
      have hf := ht.row.frozen (off + k)
      have hc := ht.row.cell (getElem?_dig (show off + k < ys.length by omega))
      have dz := dig_W ht.dig_ (off + k)
      obtain ⟨z, hz⟩ : ∃ z, z = dig ys (off + k) := ⟨_, rfl⟩
      rw [← hz] at hc dz
      have HZ := Lib.hid hz
      have HLEN := Lib.hid hlen
      clear hz hyy hye hlen
      have hM := mul64_bd dy.1 dy.2 hK0 hK
      have hA := add64_bd hM.1 hM.2.1 o0 o1 (Int.le_refl 0) (by decide)
      have hB := add64_bd dz.1 dz.2 hA.1 hA.2.1 (Int.le_refl 0) (by decide)
      have hS := times_step hM.2.2.2.2 hA.2.2.2.2 hB.2.2.2.2
      have hF := times_fits dz.2 dy.1 dy.2 hK0 hK o1 hB.1 hS
      have HM := Lib.hid hM
      have HA := Lib.hid hA
      have HB := Lib.hid hB
      have HS := Lib.hid hS
      have m1 := hM.2.2.1
      have m2 := hM.2.2.2.1
      have a1 := hA.2.2.1
      have a2 := hA.2.2.2.1
      have b1 := hB.2.2.1
      clear hM hA hB hS
      go_wp2_with fail
      refine (mul64 y K _ dy.1 dy.2 hK0 hK).mono ?_
      rintro e w1 ⟨rfl, rfl⟩
      go_wp2_with (first | simp only [add64 _ _ _ HM.out.1 o0 (Int.le_refl 0) (by decide)] | simp only [add64 _ _ _ dz.1 HA.out.1 (Int.le_refl 0) (by decide)])
      go_roundw
      case rel => exact ⟨k + 1, _, _, by omega, by go_num, rfl, by omega, hF, ht.step HB.out.1 HB.out.2.1, times_sum (by have := HLEN.out; omega) (ht.rest _ (.inr (Nat.le_refl _))) (by rw [← HZ.out, HY.out]; exact HS.out) HV.out⟩
      case measure => simp [intOf]; omega
    · obtain rfl : k = n := by omega
      go_wp2
      go_ret
      exact ⟨ys, over, rfl, o0, o1, ht, HV.out⟩

/-! ### takeTimes -/
theorem take_step {z y K over lo hi l1 c1 z' c2 : Int} (h0 : lo + W * hi = y * K) (h1 : l1 + W * c1 = lo + over + 0) (h2 : z' - W * c2 = z - l1 - 0) : z' - W * (hi + c1 + c2) = z - y * K - over := by
  grind
theorem take_fits {z y K over a b : Int} (hz : 0 ≤ z) (hy0 : 0 ≤ y) (hy : y < 18446744073709551616) (hK0 : 0 ≤ K) (hK : K < 18446744073709551616) (ho : over < 18446744073709551616) (ha : a < 18446744073709551616) (h : a - 18446744073709551616 * b = z - y * K - over) : b < 18446744073709551616 := by
  have h2 : y * K ≤ 18446744073709551615 * 18446744073709551615 := Int.mul_le_mul (by omega) (by omega) hK0 (by decide)
  omega
theorem take_sum {zs ys Y : List Int} {off k : Nat} {K over over' v : Int} (hk : off + k < ys.length) (hr : dig ys (off + k) = dig zs (off + k))
    (e : v - W * over' = dig ys (off + k) - dig Y k * K - over) (h : wv ys off k - over * W ^ k = wv zs off k - K * vf W (dig Y) k) :
    wv (ys.set (off + k) v) off (k + 1) - over' * W ^ (k + 1) = wv zs off (k + 1) - K * vf W (dig Y) (k + 1) := by
  rw [wv_set hk, wv_succ, ← hr]
  simp only [vf]
  rw [Int.pow_succ]
  generalize wv ys off k = a at *
  generalize wv zs off k = b at *
  generalize vf W (dig Y) k = d at *
  generalize W ^ k = p at *
  generalize dig ys (off + k) = z at *
  generalize dig Y k = y at *
  grind
def TakeR (zs Y : List Int) (off n g : Nat) (K : Int) (w : World) (o i : Value) (wr : World) : Prop :=
  ∃ (k : Nat) (ys : List Int) (over : Int), k ≤ n ∧ i = .int .i64 k ∧ o = .int .u64 over ∧ 0 ≤ over ∧ over < 18446744073709551616 ∧ Turned w wr g off k zs ys ∧ wv ys off k - over * W ^ k = wv zs off k - K * vf W (dig Y) k
def TakeP (zs Y : List Int) (off n g : Nat) (K : Int) (w : World) (e : Ending) (w' : World) : Prop :=
  ∃ (ys : List Int) (over : Int), e = .returned (.int .u64 over) ∧ 0 ≤ over ∧ over < 18446744073709551616 ∧ Turned w w' g off n zs ys ∧ wv ys off n - over * W ^ n = wv zs off n - K * vf W (dig Y) n
set_option maxHeartbeats 1000000 in
theorem takeTimes_any {w : World} {g off n cz c : Nat} {zs Y : List Int} {B : Option Addr} {K : Int} (hrow : Row w g 38 .u64 zs) (hzd : Dig W zs) (hin : off + n ≤ zs.length) (hn : n ≤ 17592186044416)
    (hY : Rd .u64 w B n Y) (hYd : Dig W Y) (hne : 0 < n → ∀ a, B = some a → a.block ≠ g) (hK0 : 0 ≤ K) (hK : K < 18446744073709551616) :
    Calls Tryz.prog 120 #[.slice (some ⟨g, off, none⟩) n cz, .slice B n c, .int .u64 K] w (TakeP zs Y off n g K w) := by
  go_enter Tryz.func120, Tryz.ntmps120
  go_wp2_with fail
  go_loopw [7, 14] (fun o i wr => TakeR zs Y off n g K w o i wr) (fun _ i _ => n - (intOf i).toNat)
  case atStart => exact ⟨0, zs, 0, Nat.zero_le _, rfl, rfl, Int.le_refl _, by decide, Turned.refl hrow hzd, by simp [wv, vf]⟩
  case round =>
    obtain ⟨k, ys, over, hk, rfl, rfl, o0, o1, ht, hv⟩ := hrel
    have HV := Lib.hid hv
    clear hv
    rcases Nat.lt_or_ge k n with hlt | hge
    · have hlen := ht.len
      obtain ⟨b, bo, y, rfl, hbb, hyy, hcell⟩ := (hY.grown ht.grown (hne (by omega))).at_ hlt
      have hye := dig_lt hyy
      have dy := dig_W hYd k
      rw [hye] at dy
      have HY := Lib.hid hye
      have hf := ht.row.frozen (off + k)
      have hc := ht.row.cell (getElem?_dig (show off + k < ys.length by omega))
      have dz := dig_W ht.dig_ (off + k)
      obtain ⟨z, hz⟩ : ∃ z, z = dig ys (off + k) := ⟨_, rfl⟩
      rw [← hz] at hc dz
      have HZ := Lib.hid hz
      have HLEN := Lib.hid hlen
      clear hz hyy hye hlen
      have hM := mul64_bd dy.1 dy.2 hK0 hK
      have hA := add64_bd hM.1 hM.2.1 o0 o1 (Int.le_refl 0) (by decide)
      have hB := sub64_bd dz.1 dz.2 hA.1 hA.2.1 (Int.le_refl 0) (by decide)
      have hS := take_step hM.2.2.2.2 hA.2.2.2.2 hB.2.2.2.2
      have hF := take_fits dz.1 dy.1 dy.2 hK0 hK o1 hB.2.1 hS
      have HM := Lib.hid hM
      have HA := Lib.hid hA
      have HB := Lib.hid hB
      have HS := Lib.hid hS
      have m1 := hM.2.2.1
      have m2 := hM.2.2.2.1
      have a1 := hA.2.2.1
      have a2 := hA.2.2.2.1
      have b1 := hB.2.2.1
      clear hM hA hB hS
      go_wp2_with fail
      refine (mul64 y K _ dy.1 dy.2 hK0 hK).mono ?_
      rintro e w1 ⟨rfl, rfl⟩
      go_wp2_with (first | simp only [add64 _ _ _ HM.out.1 o0 (Int.le_refl 0) (by decide)] | simp only [sub64 _ _ _ dz.1 HA.out.1 HA.out.2.1 (Int.le_refl 0) (by decide)])
      go_roundw
      case rel => exact ⟨k + 1, _, _, by omega, by go_num, rfl, by omega, hF, ht.step HB.out.1 HB.out.2.1, take_sum (by have := HLEN.out; omega) (ht.rest _ (.inr (Nat.le_refl _))) (by rw [← HZ.out, HY.out]; exact HS.out) HV.out⟩
      case measure => simp [intOf]; omega
    · obtain rfl : k = n := by omega
      go_wp2
      go_ret
      exact ⟨ys, over, rfl, o0, o1, ht, HV.out⟩

/-! ### addBack -/
theorem back_sum {zs ys Y : List Int} {off k : Nat} {over over' v : Int} (hk : off + k < ys.length) (hr : dig ys (off + k) = dig zs (off + k))
    (e : v + W * over' = dig ys (off + k) + dig Y k + over) (h : wv ys off k + over * W ^ k = wv zs off k + vf W (dig Y) k) :
    wv (ys.set (off + k) v) off (k + 1) + over' * W ^ (k + 1) = wv zs off (k + 1) + vf W (dig Y) (k + 1) := by
  rw [wv_set hk, wv_succ, ← hr]
  simp only [vf]
  rw [Int.pow_succ]
  generalize wv ys off k = a at *
  generalize wv zs off k = b at *
  generalize vf W (dig Y) k = d at *
  generalize W ^ k = p at *
  generalize dig ys (off + k) = z at *
  generalize dig Y k = y at *
  grind
def BackR (zs Y : List Int) (off n g : Nat) (w : World) (o i : Value) (wr : World) : Prop :=
  ∃ (k : Nat) (ys : List Int) (over : Int), k ≤ n ∧ i = .int .i64 k ∧ o = .int .u64 over ∧ 0 ≤ over ∧ over ≤ 1 ∧ Turned w wr g off k zs ys ∧ wv ys off k + over * W ^ k = wv zs off k + vf W (dig Y) k
def BackP (zs Y : List Int) (off n g : Nat) (w : World) (e : Ending) (w' : World) : Prop :=
  ∃ (ys : List Int) (over : Int), e = .returned (.int .u64 over) ∧ 0 ≤ over ∧ over ≤ 1 ∧ Turned w w' g off n zs ys ∧ wv ys off n + over * W ^ n = wv zs off n + vf W (dig Y) n
set_option maxHeartbeats 1000000 in
theorem addBack_any {w : World} {g off n cz c : Nat} {zs Y : List Int} {B : Option Addr} (hrow : Row w g 38 .u64 zs) (hzd : Dig W zs) (hin : off + n ≤ zs.length) (hn : n ≤ 17592186044416)
    (hY : Rd .u64 w B n Y) (hYd : Dig W Y) (hne : 0 < n → ∀ a, B = some a → a.block ≠ g) :
    Calls Tryz.prog 121 #[.slice (some ⟨g, off, none⟩) n cz, .slice B n c] w (BackP zs Y off n g w) := by
  go_enter Tryz.func121, Tryz.ntmps121
  go_wp2_with fail
  go_loopw [5, 9] (fun o i wr => BackR zs Y off n g w o i wr) (fun _ i _ => n - (intOf i).toNat)
  case atStart => exact ⟨0, zs, 0, Nat.zero_le _, rfl, rfl, Int.le_refl _, by decide, Turned.refl hrow hzd, by simp [wv, vf]⟩
  case round =>
    obtain ⟨k, ys, over, hk, rfl, rfl, o0, o1, ht, hv⟩ := hrel
    have HV := Lib.hid hv
    clear hv
    rcases Nat.lt_or_ge k n with hlt | hge
    · have hlen := ht.len
      obtain ⟨b, bo, y, rfl, hbb, hyy, hcell⟩ := (hY.grown ht.grown (hne (by omega))).at_ hlt
      have hye := dig_lt hyy
      have dy := dig_W hYd k
      rw [hye] at dy
      have HY := Lib.hid hye
      have hf := ht.row.frozen (off + k)
      have hc := ht.row.cell (getElem?_dig (show off + k < ys.length by omega))
      have dz := dig_W ht.dig_ (off + k)
      obtain ⟨z, hz⟩ : ∃ z, z = dig ys (off + k) := ⟨_, rfl⟩
      rw [← hz] at hc dz
      have HZ := Lib.hid hz
      have HLEN := Lib.hid hlen
      clear hz hyy hye hlen
      have hB := add64_bd dz.1 dz.2 dy.1 dy.2 o0 o1
      have HB := Lib.hid hB
      clear hB
      have HSB := Lib.hid (add64 z y over dz.1 dy.1 o0 o1)
      have hkn : (k : Int) < (n : Int) := by omega
      go_wp2_with fail
      go_region_with (simp only [HSB.out])
      all_goals
        go_wp2
        go_roundw
        case rel => exact ⟨k + 1, _, _, by omega, by go_num, rfl, HB.out.2.2.1, HB.out.2.2.2.1, (ht.step HB.out.1 HB.out.2.1).drew, back_sum (by have := HLEN.out; omega) (ht.rest _ (.inr (Nat.le_refl _))) (by rw [← HZ.out, HY.out]; exact HB.out.2.2.2.2) HV.out⟩
        case measure => simp [intOf]; omega
    · obtain rfl : k = n := by omega
      go_wp2
      go_ret
      exact ⟨ys, over, rfl, o0, o1, ht, HV.out⟩
end Go.Proofs.YtloajnaphenbjaaGreatDoor
