/-
  What Reduce and Sub answer, modulo a number.
-/
import Derived.Test.YtloajnaphenbjaaGreatDoorMk
namespace Go.Proofs.YtloajnaphenbjaaGreatDoor
open Go.RowKit
set_option linter.unusedVariables false
section
variable {w : World} {b : Nat} {m : Int} {n : Nat} {A : Option Addr} {c : Nat} {low : Int} {B : Option Addr} {cB : Nat} {S : Option Addr} {cS : Nat}
theorem Md.dlm (md : Md w b m n A c low B cB S cS) : dl m ≤ 64 := by have := md.len; have := md.l32; omega
theorem Md.rest (md : Md w b m n A c low B cB S cS) (X : Int) : 0 ≤ X % m ∧ X % m < m ∧ dl (X % m) ≤ 32 ∧ dl (X % m) ≤ 64 := by
  have h3 := md.m3
  have h0 := Int.emod_nonneg X (show m ≠ 0 by omega)
  have h1 := Int.emod_lt_of_pos X (show 0 < m by omega)
  have h2 := dl_mono h0 (show X % m ≤ m by omega)
  have := md.len
  have := md.l32
  exact ⟨h0, h1, by omega, by omega⟩
theorem reduce_any (md : Md w b m n A c low B cB S cS) {XA : Option Addr} {l cx : Nat} {X : Int} (hX : Nm w XA l cx X) (hl : dl X ≤ 64) :
    Calls Tryz.prog 81 #[.pointer (some ⟨b, 0, none⟩), .slice XA l cx] w (Ans (X % m) w) := by
  have q0 := md.c0
  have m3 := md.m3
  go_enter Tryz.func81, Tryz.ntmps81
  go_wp2_with fail
  refine (div_any hX md.lim.nm hl md.dlm (by omega)).mono ?_
  rintro e w1 ⟨B1, n1, c1, B2, n2, c2, rfl, -, k1, b1, -, hn⟩
  go_wp2
  go_ret2
  exact ⟨_, _, _, rfl, k1, b1, hn⟩
theorem reduce_long (md : Md w b m n A c low B cB S cS) {XA : Option Addr} {l cx : Nat} {X : Int} (hX : Nm w XA l cx X) (hl : 64 < dl X) :
    Calls Tryz.prog 81 #[.pointer (some ⟨b, 0, none⟩), .slice XA l cx] w (Err1 2 w) := by
  have q0 := md.c0
  go_enter Tryz.func81, Tryz.ntmps81
  go_wp2_with fail
  refine (div_long hX md.lim.nm (.inl hl)).mono ?_
  rintro e w1 ⟨rfl, b1⟩
  go_wp2
  go_ret2
  exact ⟨rfl, b1⟩
/-- Two residues and no error. -/
def Both (X Y : Int) (w : World) (e : Ending) (w' : World) : Prop :=
  ∃ B1 n1 c1 B2 n2 c2, e = .returned (.tuple #[.slice B1 n1 c1, .slice B2 n2 c2, .nilIface]) ∧ Cn w' B1 n1 c1 X ∧ Cn w' B2 n2 c2 Y ∧ Below w.heap.size w w'
theorem both_any (md : Md w b m n A c low B cB S cS) {XA YA : Option Addr} {l cx l' cy : Nat} {X Y : Int} (hX : Nm w XA l cx X) (hY : Nm w YA l' cy Y) (hl : dl X ≤ 64) (hl' : dl Y ≤ 64) :
    Calls Tryz.prog 79 #[.pointer (some ⟨b, 0, none⟩), .slice XA l cx, .slice YA l' cy] w (Both (X % m) (Y % m) w) := by
  go_enter Tryz.func79, Tryz.ntmps79
  go_wp2_with fail
  refine (reduce_any md hX hl).mono ?_
  rintro e w1 ⟨B1, n1, c1, rfl, k1, b1, -⟩
  go_wp2_with fail
  refine (reduce_any (md.below b1) (hY.below b1) hl').mono ?_
  rintro e w2 ⟨B2, n2, c2, rfl, k2, b2, -⟩
  go_wp2
  refine bodyPost_ret (v := .tuple #[.slice B1 n1 c1, .slice B2 n2 c2, .nilIface]) (by simp [results, Tryz.results79, go_sem]) rfl ?_
  exact ⟨_, _, _, _, _, _, rfl, k1.below b2, k2, b1.trans (b2.mono b1.size)⟩
theorem both_long (md : Md w b m n A c low B cB S cS) {XA YA : Option Addr} {l cx l' cy : Nat} {X Y : Int} (hX : Nm w XA l cx X) (hY : Nm w YA l' cy Y) (hl : 64 < dl X ∨ 64 < dl Y) :
    Calls Tryz.prog 79 #[.pointer (some ⟨b, 0, none⟩), .slice XA l cx, .slice YA l' cy] w (Err2 2 w) := by
  have HL := Lib.hid hl
  clear hl
  rcases Nat.lt_or_ge 64 (dl X) with g | g
  · go_enter Tryz.func79, Tryz.ntmps79
    go_wp2_with fail
    refine (reduce_long md hX g).mono ?_
    rintro e w1 ⟨rfl, b1⟩
    go_wp2
    refine bodyPost_ret (v := .tuple #[.slice none 0 0, .slice none 0 0, .iface 39 (.int .i64 2)]) (by simp [results, Tryz.results79, go_sem]) rfl ⟨rfl, b1⟩
  · have g2 : 64 < dl Y := by have := HL.out; omega
    go_enter Tryz.func79, Tryz.ntmps79
    go_wp2_with fail
    refine (reduce_any md hX g).mono ?_
    rintro e w1 ⟨B1, n1, c1, rfl, k1, b1, -⟩
    go_wp2_with fail
    refine (reduce_long (md.below b1) (hY.below b1) g2).mono ?_
    rintro e w2 ⟨rfl, b2⟩
    go_wp2
    refine bodyPost_ret (v := .tuple #[.slice none 0 0, .slice none 0 0, .iface 39 (.int .i64 2)]) (by simp [results, Tryz.results79, go_sem]) rfl ⟨rfl, b1.trans (b2.mono b1.size)⟩
theorem sub_ge {m X Y : Int} (h0 : 0 ≤ Y % m) (h1 : X % m < m) (hm : 0 < m) (h : Y % m ≤ X % m) : X % m - Y % m = (X - Y) % m :=
  Eqm.rest ((Eqm.mod m X).sub (Eqm.mod m Y)) (by omega) (by omega)
theorem sub_lt {m X Y : Int} (h0 : 0 ≤ X % m) (h1 : Y % m < m) (hm : 0 < m) (h : X % m < Y % m) : m - (Y % m - X % m) = (X - Y) % m :=
  Eqm.rest (Eqm.trans ⟨1, by omega⟩ ((Eqm.mod m X).sub (Eqm.mod m Y))) (by omega) (by omega)
theorem msub_any (md : Md w b m n A c low B cB S cS) {XA YA : Option Addr} {l cx l' cy : Nat} {X Y : Int} (hX : Nm w XA l cx X) (hY : Nm w YA l' cy Y) (hl : dl X ≤ 64) (hl' : dl Y ≤ 64) :
    Calls Tryz.prog 85 #[.pointer (some ⟨b, 0, none⟩), .slice XA l cx, .slice YA l' cy] w (Ans ((X - Y) % m) w) := by
  have rx := md.rest X
  have ry := md.rest Y
  have m3 := md.m3
  rcases Int.lt_or_le (X % m) (Y % m) with g | g
  · have hc : decide (cmpI (X % m) (Y % m) ≥ 0) = false := by rw [cmpI_lt g]; rfl
    have rs : dl (Y % m - X % m) ≤ 64 := by have := dl_mono (N := Y % m - X % m) (M := Y % m) (by omega) (by omega); omega
    have HE := Lib.hid (sub_lt rx.1 ry.2.1 (by omega) g)
    have d1 := rx.2.2.2
    have d2 := ry.2.2.2
    have hle : X % m ≤ Y % m := by omega
    have hle2 : Y % m - X % m ≤ m := by omega
    clear rx ry
    go_enter Tryz.func85, Tryz.ntmps85
    go_wp2_with fail
    refine (both_any md hX hY hl hl').mono ?_
    rintro e w1 ⟨B1, n1, c1, B2, n2, c2, rfl, k1, k2, b1⟩
    go_wp2_with fail
    refine (cmp_any k1.nm k2.nm).mono ?_
    rintro e w2 ⟨rfl, q, rfl⟩
    have k1' := k1.drewN q
    have k2' := k2.drewN q
    have b12 := below_drewN b1 q
    clear k1 k2 b1
    go_wp2_with fail
    refine (sub_any k2'.nm k1'.nm d2 d1 hle).mono ?_
    rintro e w3 ⟨B3, n3, c3, rfl, k3, b3, -⟩
    have b13 := b12.trans (b3.mono b12.size)
    have md3 := md.below b13
    have q0 := md3.c0
    clear k1' k2' b12 b3
    go_wp2_with fail
    refine (sub_any md3.lim.nm k3.nm md.dlm rs hle2).mono ?_
    rintro e w4 ⟨B4, n4, c4, rfl, k4, b4, hn⟩
    rw [HE.out] at k4
    go_wp2
    go_ret2
    exact ⟨_, _, _, rfl, k4, b13.trans (b4.mono b13.size), fun a ha => Nat.le_trans b13.size (hn a ha)⟩
  · have hc : decide (cmpI (X % m) (Y % m) ≥ 0) = true := by
      rcases Int.lt_or_eq_of_le g with g | g
      · rw [cmpI_gt g]; rfl
      · rw [g, cmpI_eq]; rfl
    have HE := Lib.hid (sub_ge ry.1 rx.2.1 (by omega) g)
    have d1 := rx.2.2.2
    have d2 := ry.2.2.2
    clear rx ry
    go_enter Tryz.func85, Tryz.ntmps85
    go_wp2_with fail
    refine (both_any md hX hY hl hl').mono ?_
    rintro e w1 ⟨B1, n1, c1, B2, n2, c2, rfl, k1, k2, b1⟩
    go_wp2_with fail
    refine (cmp_any k1.nm k2.nm).mono ?_
    rintro e w2 ⟨rfl, q, rfl⟩
    have k1' := k1.drewN q
    have k2' := k2.drewN q
    have b12 := below_drewN b1 q
    clear k1 k2 b1
    go_wp2_with fail
    refine (sub_any k1'.nm k2'.nm d1 d2 g).mono ?_
    rintro e w3 ⟨B3, n3, c3, rfl, k3, b3, hn⟩
    rw [HE.out] at k3
    go_wp2
    go_ret2
    exact ⟨_, _, _, rfl, k3, b12.trans (b3.mono b12.size), fun a ha => Nat.le_trans b12.size (hn a ha)⟩
theorem msub_long (md : Md w b m n A c low B cB S cS) {XA YA : Option Addr} {l cx l' cy : Nat} {X Y : Int} (hX : Nm w XA l cx X) (hY : Nm w YA l' cy Y) (hl : 64 < dl X ∨ 64 < dl Y) :
    Calls Tryz.prog 85 #[.pointer (some ⟨b, 0, none⟩), .slice XA l cx, .slice YA l' cy] w (Err1 2 w) := by
  have HL := Lib.hid hl
  clear hl
  go_enter Tryz.func85, Tryz.ntmps85
  go_wp2_with fail
  refine (both_long md hX hY HL.out).mono ?_
  rintro e w1 ⟨rfl, b1⟩
  go_wp2
  go_ret2
  exact ⟨rfl, b1⟩
end
end Go.Proofs.YtloajnaphenbjaaGreatDoor
