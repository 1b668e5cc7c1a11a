/-
  The document's examples of layer 6: up answers true.
-/
import Derived.Test.YtbffcgnefkkhoaaDoorPkh
namespace Go.Proofs.YtbffcgnefkkhoaaDoor
open Go.RowKit
set_option linter.unusedVariables false
theorem blw_one (seed : List Int) (k : Nat) : blw seed 1 256 k = (0, k + 1) := by
  have h : dx seed 1 k = 0 := by
    have h1 := dx_bd seed 1 k
    rw [mb_one] at h1
    have : (2 : Int) ^ 0 = 1 := rfl
    omega
  show blw seed 1 (255 + 1) k = _
  rw [blw, h, if_pos (by decide)]
theorem prm_one (seed : List Int) (k : Nat) : prm seed 1 k = ([0], k) := rfl
theorem prm_nil (seed : List Int) (k : Nat) : prm seed 0 k = ([], k) := rfl
theorem nm_none (w : World) : Nm w none 0 0 0 := ⟨⟨[], Rd.nil _ _ _, dig_nil _, rfl⟩, Nat.le_refl _, by omega, Int.le_refl _⟩
theorem nm_one (w : World) : Nm (w.alloc (.cells #[.int .u64 1] 61)) (some ⟨w.heap.size, 0, none⟩) 1 1 1 :=
  ⟨⟨[1], (Row.new w 61 .u64 [1]).rd rfl (fun j y hy => by rwa [Nat.zero_add]), fun y hy => by simp at hy; subst hy; exact ⟨by decide, by decide⟩, rfl⟩, Nat.le_refl _, by omega, by decide⟩
theorem dl_one : dl 1 ≤ 32 := Nat.le_trans (dl_le (k := 1) (by decide) (by decide)) (by decide)
theorem dig_115 : Dig 256 [115] := by unfold Dig; decide
set_option maxHeartbeats 8000000 in
set_option maxRecDepth 100000 in
theorem up6_any {w : World} (hT : Tabs w) : Calls Tryd.prog 6 #[] w fun e w' => e = .returned (.bool true) ∧ Below w.heap.size w w' := by
  have cv : (convert 22 22 (.slice (some ⟨w.heap.size, 0, none⟩) 1 1)).run Tryd.prog (w.alloc (.cells #[.int .u8 115] 5)) = .ok (.slice (some ⟨w.heap.size, 0, none⟩) 1 1) (w.alloc (.cells #[.int .u8 115] 5 (1, 2))) :=
    Joins.run_convert_bytes_const_at w _ _ _ 1 1 w.heap.size rfl Tryd.underlying22 Tryd.underlying5
  have B1 := Lib.hid (show Bs (w.alloc (.cells #[.int .u8 115] 5 (1, 2))) _ _ _ _ from bs_lit w [115] (1, 2) (n := 1) rfl rfl dig_115 (by omega))
  have T0 := Lib.hid hT
  have HB0 := Lib.hid (Bw.alloc w (.cells #[.int .u8 115] 5 (1, 2)))
  clear hT
  go_enter Tryd.func6, Tryd.ntmps6
  go_wp2_with fail
  refine (p6new (T0.out.bw HB0.out) B1.out (by omega)).mono ?_
  rintro e w2 ⟨b, d, rfl, hp, hb⟩
  have hbw : w.heap.size ≤ b := Nat.le_trans (Below.size HB0.out) hp.blo
  obtain ⟨lo, hlo⟩ : ∃ lo, (w.alloc (.cells #[.int .u8 115] 5 (1, 2))).heap.size = lo := ⟨_, rfl⟩
  obtain ⟨hi, hhi⟩ : ∃ hi, w2.heap.size = hi := ⟨_, rfl⟩
  rw [hlo, hhi] at hp
  have HP2 := Lib.hid hp
  have HB2 := Lib.hid (HB0.out.trans hb)
  clear hp hb hlo hhi cv B1
  go_wp2_with fail
  refine (p6perm (T0.out.bw HB2.out) HP2.out (by omega) 1 (by omega)).mono ?_
  rintro e w3 ⟨A3, c3, rfl, mn3, hp3, hb3⟩
  rw [prm_one] at mn3 hp3
  obtain ⟨g3, rfl, hg3, lt3⟩ := mn3.at0 (by omega)
  have ne3 : ∀ a, (some ⟨g3, 0, none⟩ : Option Addr) = some a → a.block ≠ b := fun a ha => by
    injection ha with ha; subst ha
    have := HP2.out.lt
    show g3 ≠ b; omega
  have NE3 := Lib.hid ne3
  have MN3 := Lib.hid mn3
  have HP3 := Lib.hid hp3
  have HB3 := Lib.hid (hb3.below HB2.out hbw)
  clear mn3 hp3 hb3 ne3
  go_wp2_with fail
  refine (p6perm (T0.out.bw HB3.out) HP3.out (by omega) 0 (by omega)).mono ?_
  rintro e w4 ⟨A4, c4, rfl, mn4, hp4, hb4⟩
  rw [prm_nil] at hp4
  have MN4 := Lib.hid (MN3.out.bx hb4 NE3.out)
  have HP4 := Lib.hid hp4
  have HB4 := Lib.hid (hb4.below HB3.out hbw)
  clear mn4 hp4 hb4 MN3
  go_wp2_with fail
  refine (p6below (T0.out.bw (HB4.out.trans (Bw.alloc _ _))) (HP4.out.bw (Bw.alloc _ _)) (by omega) (nm_one w4) (fun a ha _ => by injection ha with ha; subst ha; have := HP4.out.lt; show w4.heap.size ≠ b; omega) (by decide) dl_one).mono ?_
  rintro e w5 ⟨A5, n5, c5, rfl, hc5, -, hp5, hb5⟩
  rw [blw_one] at hc5 hp5
  obtain rfl : n5 = 0 := by
    rcases cn_small hc5 (by simp) with ⟨-, e⟩ | ⟨e, -⟩
    · exact e
    · simp at e
  have MN5 := Lib.hid ((MN4.out.bw (Bw.alloc _ _)).bx hb5 NE3.out)
  have HP5 := Lib.hid hp5
  have HB5 := Lib.hid (hb5.below (HB4.out.trans (Bw.alloc _ _)) hbw)
  clear hc5 hp5 hb5 MN4
  go_wp2_with fail
  refine (p6count HP5.out).mono ?_
  rintro e w6 ⟨rfl, rfl⟩
  go_wp2_with fail
  refine (p6below_arg (T0.out.bw HB5.out) HP5.out (nm_none _)).mono ?_
  rintro e w7 ⟨rfl, hp7, hb7⟩
  have MN7 := Lib.hid (MN5.out.bx hb7 NE3.out)
  have HP7 := Lib.hid hp7
  have HB7 := Lib.hid (hb7.below HB5.out hbw)
  clear hp7 hb7 MN5
  go_wp2_with fail
  refine (p6bytes_arg (T0.out.bw HB7.out) HP7.out (-1) (.inl (by decide))).mono ?_
  rintro e w8 ⟨rfl, hp8, hb8⟩
  have MN8 := MN7.out.bx hb8 NE3.out
  have c8 : w8.cell? ⟨g3, 0, none⟩ = some (.int .i64 0) := MN8.cell (j := 0) (by omega)
  have HP8 := Lib.hid hp8
  have HB8 := Lib.hid (hb8.below HB7.out hbw)
  have q1 := eql_code 1 1
  clear hp8 hb8 MN8
  go_wp2_with fail
  refine (p6count HP8.out).mono ?_
  rintro e w9 ⟨rfl, rfl⟩
  go_wp2_with fail
  go_ret
  exact ⟨rfl, HB8.out⟩
end Go.Proofs.YtbffcgnefkkhoaaDoor
