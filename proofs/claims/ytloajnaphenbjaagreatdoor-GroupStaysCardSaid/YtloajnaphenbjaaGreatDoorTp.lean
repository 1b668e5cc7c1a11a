/-
  Small calls of package mont: timesPlus, inverseOfLimb, widen.
-/
import Derived.Test.YtloajnaphenbjaaGreatDoorMo
import Derived.Test.YtloajnaphenbjaaGreatDoorKit0
namespace Go.Proofs.YtloajnaphenbjaaGreatDoor
open Go.RowKit
set_option linter.unusedVariables false
/-- The two halves of a product and two numbers more. -/
def tph (a b c d : Int) : Int := (a * b + c + d) / 18446744073709551616
def tpl (a b c d : Int) : Int := (a * b + c + d) % 18446744073709551616
theorem tp_bd {a b c d : Int} (a0 : 0 ≤ a) (a1 : a < 18446744073709551616) (b0 : 0 ≤ b) (b1 : b < 18446744073709551616) (c0 : 0 ≤ c) (c1 : c < 18446744073709551616) (d0 : 0 ≤ d) (d1 : d < 18446744073709551616) :
    0 ≤ tpl a b c d ∧ tpl a b c d < 18446744073709551616 ∧ 0 ≤ tph a b c d ∧ tph a b c d < 18446744073709551616 ∧ tpl a b c d + 18446744073709551616 * tph a b c d = a * b + c + d := by
  have h1 : 0 ≤ a * b := Int.mul_nonneg a0 b0
  have h2 : a * b ≤ 18446744073709551615 * 18446744073709551615 := Int.mul_le_mul (by omega) (by omega) b0 (by decide)
  unfold tpl tph; omega
theorem tp_eq {a b c d lo hi l1 c1 l2 c2 : Int} (h0 : lo + 18446744073709551616 * hi = a * b) (h1 : l1 + 18446744073709551616 * c1 = lo + c + 0) (h2 : l2 + 18446744073709551616 * c2 = l1 + d + 0) (l0 : 0 ≤ l2) (l1' : l2 < 18446744073709551616) :
    hi + c1 + c2 = tph a b c d ∧ l2 = tpl a b c d := by
  unfold tph tpl
  rw [← h0]; omega
theorem timesPlus_any (a b c d : Int) (w : World) (a0 : 0 ≤ a) (a1 : a < 18446744073709551616) (b0 : 0 ≤ b) (b1 : b < 18446744073709551616) (c0 : 0 ≤ c) (c1 : c < 18446744073709551616) (d0 : 0 ≤ d) (d1 : d < 18446744073709551616) :
    Calls Tryz.prog 118 #[.int .u64 a, .int .u64 b, .int .u64 c, .int .u64 d] w fun e w' => e = .returned (.tuple #[.int .u64 (tph a b c d), .int .u64 (tpl a b c d)]) ∧ w = w' := by
  have hM := mul64_bd a0 a1 b0 b1
  have hA := add64_bd hM.1 hM.2.1 c0 c1 (Int.le_refl 0) (by decide)
  have hB := add64_bd hA.1 hA.2.1 d0 d1 (Int.le_refl 0) (by decide)
  have hT := tp_bd a0 a1 b0 b1 c0 c1 d0 d1
  have hE := tp_eq hM.2.2.2.2 hA.2.2.2.2 hB.2.2.2.2 hB.1 hB.2.1
  have m1 := hM.2.2.1
  have m2 := hM.2.2.2.1
  have x1 := hA.2.2.1
  have x2 := hA.2.2.2.1
  have y1 := hB.2.2.1
  have y2 : mhi a b + ahi (mlo a b) c 0 + ahi (alo (mlo a b) c 0) d 0 < 18446744073709551616 := by rw [hE.1]; exact hT.2.2.2.1
  have HM := Lib.hid hM
  have HA := Lib.hid hA
  have HE := Lib.hid hE
  clear hM hA hB hT hE
  go_enter Tryz.func118, Tryz.ntmps118
  go_wp2_with fail
  refine (mul64 a b _ a0 a1 b0 b1).mono ?_
  rintro e w1 ⟨rfl, rfl⟩
  go_wp2_with (first | simp only [add64 _ _ _ HM.out.1 c0 (Int.le_refl 0) (by decide)] | simp only [add64 _ _ _ HA.out.1 d0 (Int.le_refl 0) (by decide)])
  go_ret2
  exact ⟨by rw [HE.out.1, HE.out.2]; rfl, rfl⟩
/-! ### inverseOfLimb -/
def InvR (a : Int) (z i : Value) : Prop := ∃ (k : Nat) (v : Int), k ≤ 5 ∧ i = .int .i64 k ∧ z = .int .u64 v ∧ 0 ≤ v ∧ v < 18446744073709551616 ∧ Eqm (far k) (a * v) 1
def InvP (a : Int) (w : World) (e : Ending) (w' : World) : Prop := (∃ v : Int, e = .returned (.int .u64 v) ∧ 0 ≤ v ∧ v < 18446744073709551616 ∧ Eqm W (a * v) 1) ∧ w = w'
theorem wrap_u (x : Int) : ∃ t : Int, IntKind.u64.wrap x = x + t * 18446744073709551616 ∧ 0 ≤ IntKind.u64.wrap x ∧ IntKind.u64.wrap x < 18446744073709551616 := by
  rw [IntKind.wrap_u64]
  exact ⟨-(x / 18446744073709551616), by omega, by omega, by omega⟩
theorem inv_round {a z : Int} {k : Nat} (hk : k < 5) (h : Eqm (far k) (a * z) 1) : 
    0 ≤ IntKind.u64.wrap (z * IntKind.u64.wrap (2 - IntKind.u64.wrap (a * z))) ∧ IntKind.u64.wrap (z * IntKind.u64.wrap (2 - IntKind.u64.wrap (a * z))) < 18446744073709551616 ∧
      Eqm (far (k + 1)) (a * IntKind.u64.wrap (z * IntKind.u64.wrap (2 - IntKind.u64.wrap (a * z)))) 1 := by
  obtain ⟨t1, e1, -, -⟩ := wrap_u (a * z)
  obtain ⟨t2, e2, -, -⟩ := wrap_u (2 - IntKind.u64.wrap (a * z))
  obtain ⟨t3, e3, h0, h1⟩ := wrap_u (z * IntKind.u64.wrap (2 - IntKind.u64.wrap (a * z)))
  refine ⟨h0, h1, far_step (t := t3 + z * (t2 - t1)) hk h ?_⟩
  rw [e3, e2, e1]
  grind
set_option maxHeartbeats 400000 in
theorem inverseOfLimb_any (a : Int) (w : World) (a0 : 0 ≤ a) (a1 : a < 18446744073709551616) (ha : a % 2 = 1) :
    Calls Tryz.prog 100 #[.int .u64 a] w (InvP a w) := by
  have HS := Lib.hid (far_start ha)
  clear ha
  go_enter Tryz.func100, Tryz.ntmps100
  go_wp2_with fail
  go_loop [3, 5] (fun z i => InvR a z i) (fun _ i => 5 - (intOf i).toNat)
  case atStart => exact ⟨0, a, by omega, rfl, rfl, a0, a1, HS.out⟩
  case round =>
    obtain ⟨k, v, hk, rfl, rfl, v0, v1, hv⟩ := hrel
    have HV := Lib.hid hv
    clear hv
    rcases Nat.lt_or_ge k 5 with hlt | hge
    · have HR := Lib.hid (inv_round hlt HV.out)
      go_wp2
      go_round
      case rel => exact ⟨k + 1, _, by omega, by go_num, rfl, HR.out.1, HR.out.2.1, HR.out.2.2⟩
      case measure => simp [intOf]; omega
    · obtain rfl : k = 5 := by omega
      go_wp2
      go_ret
      exact ⟨⟨v, rfl, v0, v1, HV.out⟩, rfl⟩
/-! ### widen -/
theorem splice_some {Z X : List Value} (h : X.length ≤ Z.length) : splice Z 0 X = X ++ Z.drop X.length := by
  unfold splice
  rw [List.take_zero, List.nil_append, Nat.zero_add]
theorem val_pad (b : Int) (xs : List Int) (k : Nat) : val b (xs ++ List.replicate k 0) = val b xs := by
  rw [val_append, val_zeros b (xs := List.replicate k 0) (by intro x hx; simp at hx; exact hx.2)]; simp
/-- A number in new memory, told in n digits. -/
def AnsW (N : Int) (n : Nat) (w : World) (e : Ending) (w' : World) : Prop :=
  ∃ B cap, e = .returned (.slice B n cap) ∧ Nm w' B n cap N ∧ Below w.heap.size w w' ∧ ∀ a, B = some a → w.heap.size ≤ a.block
set_option maxHeartbeats 1000000 in
theorem widen_any {A : Option Addr} {l c : Nat} {N : Int} {w : World} (h : Nm w A l c N) (n : Nat) (hl : l ≤ n) (hn : n ≤ 64) :
    Calls Tryz.prog 101 #[.slice A l c, .int .i64 n] w (AnsW N n w) := by
  have hmk := fun W => run_make64 n (C := (n : Int)) rfl (by omega) W
  obtain ⟨Z, hZ⟩ : ∃ Z : List Int, Z = List.replicate n 0 := ⟨_, rfl⟩
  rw [← hZ] at hmk
  have HZ := Lib.hid hZ
  clear hZ
  obtain ⟨⟨X, hxr, hxd, hxv⟩, h4, h5, h6⟩ := h
  have HV := Lib.hid hxv
  clear hxv
  go_enter Tryz.func101, Tryz.ntmps101
  go_wp2_with (with_reducible refine wpList_copy_splice rfl (.tmp 8) (.tmp 9) 23 23 rfl 38 Tryz.underlying23 (by kernel_rfl) _ _ _ _ _ _ rfl rfl w.heap.size 0 (Z.map (Value.int .u64)) 38 ?hg (X.map (Value.int .u64)) ?hn ?hpos ?hfit ?h1 w.heap.size w ?hb (Nat.le_refl _) ?_)
  case hg => exact Row.new _ _ _ _
  case hn => rw [List.length_map, hxr.len]; exact (Nat.min_eq_left hl).symm
  case hpos => exact rd_pos hxr
  case hfit => rw [List.length_map, List.length_map, hxr.len, HZ.out]; simp; omega
  case h1 => exact ints_oneCell _ _
  case hb => exact (Below.refl _ _).alloc (Nat.le_refl _) _
  intro w2 hrow hb
  clear hmk
  go_wp2
  go_ret
  have hr := hrow.out
  have hxl := hxr.len
  rw [splice_some (by rw [List.length_map, List.length_map, hxr.len, HZ.out]; simp; omega), List.length_map, HZ.out, List.map_replicate, List.drop_replicate, ← List.map_replicate, ← List.map_append] at hr
  have hr2 : Row w2 w.heap.size 38 .u64 (X ++ List.replicate (n - X.length) 0) := hr
  refine ⟨_, _, rfl, ⟨⟨X ++ List.replicate (n - X.length) 0, hr2.rd (by rw [List.length_append, List.length_replicate]; omega) (fun j x hx => by rwa [Nat.zero_add]), ?_, by rw [val_pad]; exact HV.out⟩, Nat.le_refl _, by omega, h6⟩, hb, fun a ha => by injection ha with ha; subst ha; exact Nat.le_refl _⟩
  intro x hx
  rw [List.mem_append] at hx
  rcases hx with hx | hx
  · exact hxd x hx
  · simp at hx; rw [hx.2]; exact ⟨by decide, by decide⟩
end Go.Proofs.YtloajnaphenbjaaGreatDoor
