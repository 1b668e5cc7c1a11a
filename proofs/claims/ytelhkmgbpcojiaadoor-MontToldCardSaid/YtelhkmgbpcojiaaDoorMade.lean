/-
  What the statements' own call made answers.
-/
import Derived.Test.YtelhkmgbpcojiaaDoorUp2
namespace Go.Proofs.YtelhkmgbpcojiaaDoor
open Go.RowKit
set_option linter.unusedVariables false
/-- No modulus, and that is as it should be. -/
def MadeNo (w : World) (e : Ending) (w' : World) : Prop := e = .returned (.tuple #[.pointer none, .bool true, .bool false]) ∧ Below w.heap.size w w'
/-- What reckons modulo m. -/
def MadeOk (m : Int) (n : Nat) (w : World) (e : Ending) (w' : World) : Prop :=
  ∃ b A c low B cB S cS, e = .returned (.tuple #[.pointer (some ⟨b, 0, none⟩), .bool true, .bool true]) ∧ Md w' b m n A c low B cB S cS ∧ Below w.heap.size w w'
theorem dgD_head {N : Int} (h : 0 < N) : dig (dg D N) 0 = N % 65536 ∧ 0 < dr N := by
  unfold dr
  rw [dg_pos D_two h]
  exact ⟨rfl, by simp⟩
theorem dr_one {N : Int} (h : 0 < N) : dr N = 1 ↔ N < 65536 := by
  unfold dr
  rw [dg_pos D_two h]
  have h0 : 0 ≤ N / D := Int.ediv_nonneg (by omega) (by decide)
  have := dg_nil_iff D_two h0
  rw [List.length_cons]
  have e : N / D = N / 65536 := rfl
  rw [e] at this h0 ⊢
  omega
set_option maxHeartbeats 4000000 in
theorem made_long {A : Option Addr} {n c : Nat} {xs : List Int} {N : Int} {w : World} (h : Ar w A n c xs N) (hn : n ≤ 300) (hl : 32 < dl N) :
    Calls Tryd.prog 5 #[.slice A n c] w (MadeNo w) := by
  have q1 := eql_code 2 2
  have t1 : decide ((32 : Int) < (dl N : Int)) = true := by simp; omega
  go_enter Tryd.func5, Tryd.ntmps5
  go_wp2_with fail
  refine (new_long h.nm hl).mono ?_
  rintro e w1 ⟨rfl, b1⟩
  have h1 := h.below b1
  go_wp2_with fail
  refine (of_ar h1 (by omega)).mono ?_
  rintro e w2 ⟨B2, n2, c2, rfl, k2, b2⟩
  have b12 := b1.trans (b2.mono b1.size)
  have h2 := h1.below b2
  clear h1 b1 b2
  go_wp2_with fail
  refine (Limbs_nm h2.nm).mono ?_
  rintro e w3 ⟨rfl, rfl⟩
  have B12 := Lib.hid b12
  go_wp2_with fail
  go_quiet (fail)
  go_wp2
  refine bodyPost_ret (v := .tuple #[.pointer none, .bool true, .bool false]) (by simp [results, Tryd.results5, go_sem]) rfl ⟨rfl, below_drewN B12.out _⟩
set_option maxHeartbeats 4000000 in
theorem made_even {A : Option Addr} {n c : Nat} {xs : List Int} {N : Int} {w : World} (h : Ar w A n c xs N) (hn : n ≤ 300) (hl : dl N ≤ 32) (he : N % 2 = 0 ∨ N < 3) :
    Calls Tryd.prog 5 #[.slice A n c] w (MadeNo w) := by
  have q1 := eql_code 5 5
  have t1 : decide ((32 : Int) < (dl N : Int)) = false := by simp; omega
  have HE := Lib.hid he
  have N0 := h.nm.pos
  clear he
  go_enter Tryd.func5, Tryd.ntmps5
  go_wp2_with fail
  refine (new_even h.nm hl HE.out).mono ?_
  rintro e w1 ⟨rfl, b1⟩
  have h1 := h.below b1
  go_wp2_with fail
  refine (of_ar h1 (by omega)).mono ?_
  rintro e w2 ⟨B2, n2, c2, rfl, k2, b2⟩
  have b12 := b1.trans (b2.mono b1.size)
  have h2 := h1.below b2
  clear h1 b1 b2
  go_wp2_with fail
  refine (Limbs_nm h2.nm).mono ?_
  rintro e w3 ⟨rfl, rfl⟩
  have B12 := Lib.hid b12
  clear b12
  rcases Int.lt_or_eq_of_le N0 with hN | hN
  · obtain ⟨e1, e2⟩ := dgD_head hN
    have hr := k2.rd
    obtain rfl := k2.len_
    obtain ⟨bb, oo, x, rfl, hbb, hx, hcell⟩ := hr.at_ (j := 0) e2
    have hxe := dig_lt hx
    rw [e1] at hxe
    rw [Nat.add_zero, ← hxe] at hcell
    have HC := Lib.hid hcell
    clear hx hxe e1
    have z0 : ((dr N : Int) == 0) = false := by simp; omega
    have z0' : (dr N == 0) = false := by simp; omega
    obtain ⟨y, hy⟩ : ∃ y, y = N % 65536 := ⟨_, rfl⟩
    rw [← hy] at hcell
    have y0 : 0 ≤ y := by omega
    have HY := Lib.hid hy
    clear hy
    rcases Int.emod_two_eq N with g | g
    · have z1 : ((y % 2 : Int) == 0) = true := by have := HY.out; simp; omega
      go_wp2_with fail
      go_quiet (fail)
      go_wp2
      refine bodyPost_ret (v := .tuple #[.pointer none, .bool true, .bool false]) (by simp [results, Tryd.results5, go_sem]) rfl ⟨rfl, below_drewN B12.out _⟩
    · have z1 : ((y % 2 : Int) == 0) = false := by have := HY.out; simp; omega
      have hN1 : N = 1 := by have := HE.out; omega
      have hd1 := (dr_one hN).2 (by omega)
      have z2 : ((dr N : Int) == 1) = true := by simp; omega
      have z2' : (dr N == 1) = true := by simp; omega
      have z3 : decide (y < 3) = true := by have := HY.out; simp; omega
      clear hN1 hd1
      go_wp2_with fail
      go_quiet (fail)
      go_wp2
      refine bodyPost_ret (v := .tuple #[.pointer none, .bool true, .bool false]) (by simp [results, Tryd.results5, go_sem]) rfl ⟨rfl, below_drewN B12.out _⟩
  · subst hN
    obtain rfl : n2 = 0 := by have := k2.len_; rw [this]; unfold dr; rw [dg_zero]; rfl
    go_wp2_with fail
    go_quiet (fail)
    go_wp2
    refine bodyPost_ret (v := .tuple #[.pointer none, .bool true, .bool false]) (by simp [results, Tryd.results5, go_sem]) rfl ⟨rfl, below_drewN B12.out _⟩
set_option maxHeartbeats 4000000 in
theorem made_any {A : Option Addr} {n c : Nat} {xs : List Int} {N : Int} {w : World} (h : Ar w A n c xs N) (hn : n ≤ 300) (hl : dl N ≤ 32) (odd : N % 2 = 1) (h3 : 3 ≤ N) :
    Calls Tryd.prog 5 #[.slice A n c] w (MadeOk N (dl N) w) := by
  have t1 : decide ((32 : Int) < (dl N : Int)) = false := by simp; omega
  have N0 : 0 < N := by omega
  have HO := Lib.hid odd
  clear odd
  go_enter Tryd.func5, Tryd.ntmps5
  go_wp2_with fail
  refine (new_any h.nm hl HO.out h3).mono ?_
  rintro e w1 ⟨b, A1, c1, low, B1, cB, S, cS, rfl, md, b1, -, -, -, -⟩
  have h1 := h.below b1
  go_wp2_with fail
  refine (of_ar h1 (by omega)).mono ?_
  rintro e w2 ⟨B2, n2, c2, rfl, k2, b2⟩
  have b12 := b1.trans (b2.mono b1.size)
  have h2 := h1.below b2
  have md2 := md.below b2
  clear h1 b1 b2 md
  go_wp2_with fail
  refine (Limbs_nm h2.nm).mono ?_
  rintro e w3 ⟨rfl, rfl⟩
  have B12 := Lib.hid b12
  have MD2 := Lib.hid md2
  clear b12 md2
  obtain ⟨e1, e2⟩ := dgD_head N0
  have hr := k2.rd
  obtain rfl := k2.len_
  obtain ⟨bb, oo, x, rfl, hbb, hx, hcell⟩ := hr.at_ (j := 0) e2
  have hxe := dig_lt hx
  rw [e1] at hxe
  rw [Nat.add_zero, ← hxe] at hcell
  clear hx hxe e1
  have z0 : ((dr N : Int) == 0) = false := by simp; omega
  have z0' : (dr N == 0) = false := by simp; omega
  obtain ⟨y, hy⟩ : ∃ y, y = N % 65536 := ⟨_, rfl⟩
  rw [← hy] at hcell
  have y0 : 0 ≤ y := by omega
  have HY := Lib.hid hy
  clear hy
  have z1 : ((y % 2 : Int) == 0) = false := by have := HY.out; have := HO.out; simp; omega
  by_cases g : dr N = 1
  · have z2 : ((dr N : Int) == 1) = true := by simp; omega
    have z2' : (dr N == 1) = true := by simp; omega
    have z3 : decide (y < 3) = false := by have := HY.out; have := (dr_one N0).1 g; simp; omega
    clear g
    go_wp2_with fail
    go_quiet (fail)
    go_wp2
    refine bodyPost_ret (v := .tuple #[.pointer (some ⟨b, 0, none⟩), .bool true, .bool true]) (by simp [results, Tryd.results5, go_sem]) rfl ⟨_, _, _, _, _, _, _, _, rfl, MD2.out.below (below_drewN (Below.refl _ _) _), below_drewN B12.out _⟩
  · have z2 : ((dr N : Int) == 1) = false := by simp; omega
    have z2' : (dr N == 1) = false := by simp; omega
    clear g
    go_wp2_with fail
    go_quiet (fail)
    go_wp2
    refine bodyPost_ret (v := .tuple #[.pointer (some ⟨b, 0, none⟩), .bool true, .bool true]) (by simp [results, Tryd.results5, go_sem]) rfl ⟨_, _, _, _, _, _, _, _, rfl, MD2.out.below (below_drewN (Below.refl _ _) _), below_drewN B12.out _⟩
end Go.Proofs.YtelhkmgbpcojiaaDoor
