/-
  What mont's form and residue answer.
-/
import Derived.Test.YtloajnaphenbjaaGreatDoorTim
namespace Go.Proofs.YtloajnaphenbjaaGreatDoor
open Go.RowKit
set_option linter.unusedVariables false
/-- A form was answered. -/
def FormP (m : Int) (n : Nat) (v : Int) (w : World) (e : Ending) (w' : World) : Prop :=
  ∃ B cap T, e = .returned (.slice B n cap) ∧ Nm w' B n cap T ∧ Form m n v T ∧ Below w.heap.size w w'
set_option maxHeartbeats 4000000 in
theorem form_any {w : World} {b : Nat} {m : Int} {n : Nat} {A : Option Addr} {c : Nat} {low : Int} {B : Option Addr} {cB : Nat} {S : Option Addr} {cS : Nat} (md : Md w b m n A c low B cB S cS)
    {XA : Option Addr} {l cx : Nat} {X : Int} (hX : Nm w XA l cx X) (hl : l ≤ n) (hXm : X < m) :
    Calls Tryz.prog 90 #[.pointer (some ⟨b, 0, none⟩), .slice XA l cx] w (FormP m n X w) := by
  have n32 := md.l32
  have q0 := md.c0
  have q3 := md.c3
  have hbd : Below w.heap.size w w.drew := (Below.refl _ _).drew
  have mdd := md.below hbd
  have hXd := hX.below hbd
  have HM := Lib.hid mdd
  have HX := Lib.hid hXd
  have HB := Lib.hid hbd
  clear mdd hXd hbd
  go_enter Tryz.func90, Tryz.ntmps90
  go_wp2_with fail
  go_region_with (first
    | (go_at_call 101; refine (widen_any HX.out n hl (by omega)).mono ?_; rintro e w1 ⟨B1, cap1, rfl, hN, hb1, -⟩; have hm1 := HM.out.below hb1; have q31 := hm1.c3; have HM1 := Lib.hid hm1; have HB1 := Lib.hid hb1; clear hb1 hm1)
    | (go_at_call 92; refine (times_any HM1.out hN HM1.out.shift hXm).mono ?_; rintro e w2 ⟨B2, cap2, T, rfl, hN2, hT, hb2, -⟩; have HT := Lib.hid hT; clear hT))
  all_goals
    go_wp2
    go_ret
    exact ⟨_, _, T, rfl, hN2, HT.out.formed md.odd (Eqm.refl _ _) (Eqm.mod _ _), HB.out.trans ((HB1.out.mono HB.out.size).trans (hb2.mono (by have := HB.out.size; have := HB1.out.size; omega)))⟩
set_option maxHeartbeats 4000000 in
theorem residue_any {w : World} {b : Nat} {m : Int} {n : Nat} {A : Option Addr} {c : Nat} {low : Int} {B : Option Addr} {cB : Nat} {S : Option Addr} {cS : Nat} (md : Md w b m n A c low B cB S cS)
    {XA : Option Addr} {cx : Nat} {X v : Int} (hX : Nm w XA n cx X) (hF : Form m n v X) :
    Calls Tryz.prog 94 #[.pointer (some ⟨b, 0, none⟩), .slice XA n cx] w (Ans1 (v % m) w) := by
  have n32 := md.l32
  have n1 := md.n1
  have hlt := md.lt
  have q0 := md.c0
  have HF := Lib.hid hF
  clear hF
  have hl := lit_one w 1 (by decide) (by decide)
  have hb0 : Below w.heap.size w (w.alloc (.cells #[.int .u64 1] 38)) := (Below.refl _ _).alloc (Nat.le_refl _) _
  have HL := Lib.hid hl
  have HB0 := Lib.hid hb0
  clear hl hb0
  go_enter Tryz.func94, Tryz.ntmps94
  go_wp2_with fail
  refine (widen_any HL.out n (by omega) (by omega)).mono ?_
  rintro e w1 ⟨B1, cap1, rfl, hN, hb1, -⟩
  have b1 := HB0.out.trans (hb1.mono HB0.out.size)
  clear hb1
  go_wp2_with fail
  refine (times_any (md.below b1) (hX.below b1) hN HF.out.lt).mono ?_
  rintro e w2 ⟨B2, cap2, T, rfl, hN2, hT, hb2, -⟩
  have b2 := b1.trans (hb2.mono b1.size)
  have hv := hT.residue md.odd HF.out
  subst hv
  clear hb2 hT
  go_wp2_with fail
  refine (norm_any hN2).mono ?_
  rintro e w3 ⟨B3, m3, cap3, rfl, hN3, hb3, hnew⟩
  have b3 := b2.trans (hb3.mono b2.size)
  go_wp2
  go_ret
  exact ⟨_, _, _, rfl, hN3, b3, fun a ha => Nat.le_trans b2.size (hnew a ha)⟩
end Go.Proofs.YtloajnaphenbjaaGreatDoor
