/-
  What mont.takeOff and mont's addAndDrop do to a row of digits.
-/
import Derived.Test.YtloajnaphenbjaaGreatDoorTp
import Derived.Test.YtloajnaphenbjaaGreatDoorDivide
import Derived.Deep.RegionWith
namespace Go.Proofs.YtloajnaphenbjaaGreatDoor
open Go.RowKit
set_option linter.unusedVariables false
/-! ### takeOff -/
theorem off_sum {zs ys Y : List Int} {k : Nat} {over over' v : Int} (hk : 0 + k < ys.length) (hr : dig ys (0 + k) = dig zs (0 + k))
    (e : v - W * over' = dig ys (0 + k) - dig Y k - over) (h : wv ys 0 k - over * W ^ k = wv zs 0 k - vf W (dig Y) k) :
    wv (ys.set (0 + k) v) 0 (k + 1) - over' * W ^ (k + 1) = wv zs 0 (k + 1) - vf W (dig Y) (k + 1) := by
  rw [wv_set hk, wv_succ, ← hr]
  simp only [vf]
  rw [Int.pow_succ]
  generalize wv ys 0 k = a at *
  generalize wv zs 0 k = b at *
  generalize vf W (dig Y) k = d at *
  generalize W ^ k = p at *
  generalize dig ys (0 + k) = z at *
  generalize dig Y k = y at *
  grind
def OffR (zs Y : List Int) (n g : Nat) (w : World) (o i : Value) (wr : World) : Prop :=
  ∃ (k : Nat) (ys : List Int) (over : Int), k ≤ n ∧ i = .int .i64 k ∧ o = .int .u64 over ∧ 0 ≤ over ∧ over ≤ 1 ∧ Turned w wr g 0 k zs ys ∧ wv ys 0 k - over * W ^ k = wv zs 0 k - vf W (dig Y) k
def OffP (zs Y : List Int) (n g : Nat) (w : World) (e : Ending) (w' : World) : Prop :=
  ∃ (ys : List Int) (over : Int), e = .returned (.tuple #[]) ∧ 0 ≤ over ∧ over ≤ 1 ∧ Turned w w' g 0 n zs ys ∧ wv ys 0 n - over * W ^ n = wv zs 0 n - vf W (dig Y) n
set_option maxHeartbeats 1000000 in
theorem takeOff_any {w : World} {g n cz c : Nat} {zs Y : List Int} {B : Option Addr} (hrow : Row w g 38 .u64 zs) (hzd : Dig W zs) (hin : n ≤ zs.length) (hn : n ≤ 17592186044416)
    (hY : Rd .u64 w B n Y) (hYd : Dig W Y) (hne : 0 < n → ∀ a, B = some a → a.block ≠ g) :
    Calls Tryz.prog 111 #[.slice (some ⟨g, 0, none⟩) n cz, .slice B n c] w (OffP zs Y n g w) := by
  go_enter Tryz.func111, Tryz.ntmps111
  go_wp2_with fail
  go_loopw [4, 8] (fun o i wr => OffR zs Y n g w o i wr) (fun _ i _ => n - (intOf i).toNat)
  case atStart => exact ⟨0, zs, 0, Nat.zero_le _, rfl, rfl, Int.le_refl _, by decide, Turned.refl hrow hzd, by simp [wv, vf]⟩
  case round =>
    obtain ⟨k, ys, over, hk, rfl, rfl, o0, o1, ht, hv⟩ := hrel
    have HV := Lib.hid hv
    clear hv
    rcases Nat.lt_or_ge k n with hlt | hge
    · have hlen := ht.len
      obtain ⟨b, bo, y, rfl, hbb, hyy, hcell⟩ := (hY.grown ht.grown (hne (by omega))).at_ hlt
      have hye := dig_lt hyy
      have dy := dig_W hYd k
      rw [hye] at dy
      have HY := Lib.hid hye
      have hf := ht.row.frozen k
      have hc := ht.row.cell (getElem?_dig (show k < ys.length by omega))
      have dz := dig_W ht.dig_ k
      obtain ⟨z, hz⟩ : ∃ z, z = dig ys k := ⟨_, rfl⟩
      rw [← hz] at hc dz
      have HZ := Lib.hid hz
      have HLEN := Lib.hid hlen
      clear hz hyy hye hlen
      have HB := Lib.hid (sub64_bd dz.1 dz.2 dy.1 dy.2 o0 o1)
      have HSB := Lib.hid (sub64 z y over dz.1 dy.1 dy.2 o0 o1)
      have hkn : (k : Int) < (n : Int) := by omega
      have HT := Lib.hid (ht.step (v := slo z y over) HB.out.1 HB.out.2.1)
      rw [Nat.zero_add] at HT
      go_wp2_with fail
      go_region_with (simp only [HSB.out])
      all_goals
        go_wp2
        go_roundw
        case rel => exact ⟨k + 1, _, _, by omega, by go_num, rfl, HB.out.2.2.1, HB.out.2.2.2.1, HT.out.drew, by have := off_sum (zs := zs) (Y := Y) (v := slo z y over) (over' := shi z y over) (by have := HLEN.out; omega) (ht.rest _ (.inr (Nat.le_refl _))) (by rw [Nat.zero_add, ← HZ.out, HY.out]; exact HB.out.2.2.2.2) HV.out; rwa [Nat.zero_add] at this⟩
        case measure => simp [intOf]; omega
    · obtain rfl : k = n := by omega
      go_wp2
      exact bodyPost_ret (v := .tuple #[]) (by simp [results, Tryz.results111, go_sem]) rfl ⟨ys, over, rfl, o0, o1, ht, HV.out⟩
end Go.Proofs.YtloajnaphenbjaaGreatDoor
