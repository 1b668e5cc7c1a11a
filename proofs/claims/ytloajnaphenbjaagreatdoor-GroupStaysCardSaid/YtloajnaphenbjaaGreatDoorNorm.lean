/-
  What nat.Norm and nat.Div answer.
-/
import Derived.Test.YtloajnaphenbjaaGreatDoorDivide
import Derived.Laws.CopyOwn
namespace Go.Proofs.YtloajnaphenbjaaGreatDoor
open Go.RowKit
set_option linter.unusedVariables false
theorem splice_all {Z X : List Value} (h : X.length = Z.length) : splice Z 0 X = X := by
  unfold splice
  rw [List.take_zero, List.nil_append, Nat.zero_add, h, List.drop_length, List.append_nil]
/-- A number in new memory. -/
def Ans1 (N : Int) (w : World) (e : Ending) (w' : World) : Prop :=
  ∃ B m cap, e = .returned (.slice B m cap) ∧ Cn w' B m cap N ∧ Below w.heap.size w w' ∧ ∀ a, B = some a → w.heap.size ≤ a.block
theorem addr_add (b off j : Nat) : (⟨b, off, none⟩ : Addr).add j = ⟨b, off + j, none⟩ := by
  unfold Addr.add; split
  · rename_i h0; subst h0; rfl
  · rfl
theorem rd_pos {w : World} {A : Option Addr} {n : Nat} {X : List Int} (h : Rd .u64 w A n X) {o : Obj} : 0 < X.length → ∃ ad, A = some ad ∧ ∀ (j : Nat) (a : Int), X[j]? = some a → (w.alloc o).cell? (ad.add j) = some (.int .u64 a) := by
  intro hp
  rw [h.len] at hp
  obtain ⟨b, off, rfl, hb, hc⟩ := h.cells hp
  refine ⟨_, rfl, fun j v hv => ?_⟩
  rw [addr_add, World.cell?_alloc_lt w o ⟨b, off + j, none⟩ hb]
  exact hc j v hv
set_option maxHeartbeats 1000000 in
theorem norm_any {A : Option Addr} {n c : Nat} {N : Int} {w : World} (h : Nm w A n c N) :
    Calls Tryz.prog 32 #[.slice A n c] w (Ans1 N w) := by
  have hx := h.lim
  have hle : dl N ≤ 17592186044416 := by have := hx.nc; have := hx.c60; omega
  have hmk := fun W => run_make64 (dl N) (C := (dl N : Int)) rfl (by omega) W
  obtain ⟨Z, hZ⟩ : ∃ Z : List Int, Z = List.replicate (dl N) 0 := ⟨_, rfl⟩
  rw [← hZ] at hmk
  have HZ := Lib.hid hZ
  clear hZ
  obtain ⟨X, hX⟩ : ∃ X : List Int, X = dg W N := ⟨_, rfl⟩
  have hxr := hx.rd
  rw [← hX] at hxr
  have HX := Lib.hid hX
  clear hX
  go_enter Tryz.func32, Tryz.ntmps32
  go_wp2_with fail
  refine (limbs_nm h).mono ?_
  rintro e w1 ⟨rfl, rfl⟩
  go_wp2_with (with_reducible refine wpList_copy_splice rfl (.tmp 10) (.tmp 11) 23 23 rfl 38 Tryz.underlying23 (by kernel_rfl) _ _ _ _ _ _ rfl rfl w.heap.size 0 (Z.map (Value.int .u64)) 38 ?hg (X.map (Value.int .u64)) ?hn ?hpos ?hfit ?h1 w.heap.size w ?hb (Nat.le_refl _) ?_)
  case hg => exact Row.new _ _ _ _
  case hn => rw [List.length_map, hxr.len]; simp
  case hpos => exact rd_pos hxr
  case hfit => rw [List.length_map, List.length_map, hxr.len, HZ.out]; simp
  case h1 => exact ints_oneCell _ _
  case hb => exact (Below.refl _ _).alloc (Nat.le_refl _) _
  intro w2 hrow hb
  clear hmk
  go_wp2
  go_ret
  have hr := hrow.out
  rw [splice_all (by rw [List.length_map, List.length_map, hxr.len, HZ.out]; simp)] at hr
  have hr2 : Row w2 w.heap.size 38 .u64 X := hr
  exact ⟨_, _, _, rfl, ⟨by rw [← HX.out]; exact hr2.rd hxr.len (fun j x hx => by rwa [Nat.zero_add]), Nat.le_refl _, hle, h.pos⟩, hb, fun a ha => by injection ha with ha; subst ha; exact Nat.le_refl _⟩
/-- 'q, r, nil'. -/
def QRE (Q R : Int) (w : World) (e : Ending) (w' : World) : Prop :=
  ∃ B m cap B' m' cap', e = .returned (.tuple #[.slice B m cap, .slice B' m' cap', .nilIface]) ∧ Cn w' B m cap Q ∧ Cn w' B' m' cap' R ∧ Below w.heap.size w w' ∧ (∀ x, B = some x → w.heap.size ≤ x.block) ∧ ∀ x, B' = some x → w.heap.size ≤ x.block
def Err2 (code : Int) (w : World) (e : Ending) (w' : World) : Prop :=
  e = .returned (.tuple #[.slice none 0 0, .slice none 0 0, .iface 39 (.int .i64 code)]) ∧ Below w.heap.size w w'
set_option maxHeartbeats 1000000 in
theorem div_any {A A' : Option Addr} {n c n' c' : Nat} {N M : Int} {w : World} (h : Nm w A n c N) (h' : Nm w A' n' c' M) (hl : dl N ≤ 64) (hl' : dl M ≤ 64) (hM : 0 < M) :
    Calls Tryz.prog 58 #[.slice A n c, .slice A' n' c'] w (QRE (N / M) (N % M) w) := by
  have hx := h.lim
  have hy := h'.lim
  have hz : ((dl M : Int) == 0) = false := by
    have : dl M ≠ 0 := fun e => by have := (dl_zero h'.pos).1 e; omega
    simpa using this
  by_cases hlt : dl N < dl M
  · have hNM : N < M := by
      rcases Int.lt_or_le N M with g | g
      · exact g
      · have := dl_mono h'.pos g; omega
    rw [Int.ediv_eq_zero_of_lt h.pos hNM, Int.emod_eq_of_lt h.pos hNM]
    have HNM := Lib.hid hNM
    clear hNM
    go_enter Tryz.func58, Tryz.ntmps58
    go_wp2_with fail
    refine (limbs_nm h).mono ?_
    rintro e w1 ⟨rfl, rfl⟩
    go_wp2_with fail
    refine (limbs_nm h').mono ?_
    rintro e w1 ⟨rfl, rfl⟩
    go_wp2_with fail
    refine (tooLong_no _ _ _ _ _ _ _ hl hl').mono ?_
    rintro e w1 ⟨rfl, rfl⟩
    go_wp2_with fail
    refine (norm_any hx.nm).mono ?_
    rintro e w1 ⟨B, m, cap, rfl, k1, k2, k3⟩
    go_wp2
    go_ret3
    exact ⟨_, _, _, _, _, _, rfl, Cn.nil _, k1, k2, fun x hx => (by cases hx), k3⟩
  · have hge : dl M ≤ dl N := by omega
    go_enter Tryz.func58, Tryz.ntmps58
    go_wp2_with fail
    refine (limbs_nm h).mono ?_
    rintro e w1 ⟨rfl, rfl⟩
    go_wp2_with fail
    refine (limbs_nm h').mono ?_
    rintro e w1 ⟨rfl, rfl⟩
    go_wp2_with fail
    refine (tooLong_no _ _ _ _ _ _ _ hl hl').mono ?_
    rintro e w1 ⟨rfl, rfl⟩
    go_wp2_with fail
    refine (divide_any hx hy hM hge hl).mono ?_
    rintro e w1 ⟨B, m, cap, B', m', cap', rfl, k1, k2, k3, k4, k5⟩
    go_wp2
    go_ret3
    exact ⟨_, _, _, _, _, _, rfl, k1, k2, k3, k4, k5⟩
theorem div_long {A A' : Option Addr} {n c n' c' : Nat} {N M : Int} {w : World} (h : Nm w A n c N) (h' : Nm w A' n' c' M) (hl : 64 < dl N ∨ 64 < dl M) :
    Calls Tryz.prog 58 #[.slice A n c, .slice A' n' c'] w (Err2 2 w) := by
  have HL := Lib.hid hl
  clear hl
  go_enter Tryz.func58, Tryz.ntmps58
  go_wp2_with fail
  refine (limbs_nm h).mono ?_
  rintro e w1 ⟨rfl, rfl⟩
  go_wp2_with fail
  refine (limbs_nm h').mono ?_
  rintro e w1 ⟨rfl, rfl⟩
  go_wp2_with fail
  refine (tooLong_yes _ _ _ _ _ _ _ HL.out).mono ?_
  rintro e w1 ⟨rfl, rfl⟩
  go_wp2
  go_ret3
  exact ⟨rfl, Below.refl _ _⟩
theorem div_none {A A' : Option Addr} {n c n' c' : Nat} {N : Int} {w : World} (h : Nm w A n c N) (h' : Nm w A' n' c' 0) (hl : dl N ≤ 64) :
    Calls Tryz.prog 58 #[.slice A n c, .slice A' n' c'] w (Err2 4 w) := by
  have h0 : dl 0 = 0 := (dl_zero (Int.le_refl 0)).2 rfl
  have hl' : dl 0 ≤ 64 := by omega
  have hz : ((dl 0 : Int) == 0) = true := by simpa using h0
  have H0 := Lib.hid h0
  clear h0
  go_enter Tryz.func58, Tryz.ntmps58
  go_wp2_with fail
  refine (limbs_nm h).mono ?_
  rintro e w1 ⟨rfl, rfl⟩
  go_wp2_with fail
  refine (limbs_nm h').mono ?_
  rintro e w1 ⟨rfl, rfl⟩
  go_wp2_with fail
  refine (tooLong_no _ _ _ _ _ _ _ hl hl').mono ?_
  rintro e w1 ⟨rfl, rfl⟩
  go_wp2
  go_ret3
  exact ⟨rfl, Below.refl _ _⟩
end Go.Proofs.YtloajnaphenbjaaGreatDoor
