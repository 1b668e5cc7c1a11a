/-
  Several texts in one: Sg6, Sg7, Sg8, Sg9, U8, B8.
-/
import Derived.Test.YtloibmemlkfkfaaGreatDoorSga
import Derived.Test.YtloibmemlkfkfaaGreatDoorGro
import Derived.Deep.RegionLaw
import Derived.Test.YtloibmemlkfkfaaGreatDoorKnx
import Derived.Lib.SmallJoins
import Derived.Test.YtloibmemlkfkfaaGreatDoorPkf
/-
  What Know, Sign and Equal of package sigma answer.
-/
namespace Go.Proofs.YtloibmemlkfkfaaGreatDoor
open Go.RowKit
set_option linter.unusedVariables false
section
variable {w : World} {b : Nat} {d : Gd} {A A' Ac Ak Aa : Option Addr} {n c n' c' nc cc nk ck na ca : Nat} {X Y S K : Int} {ctx : List Int}
/-! ### Where something is amiss -/
set_option maxHeartbeats 1000000 in
theorem prove_long (s : ByteArray) (hS : Nm w A n c S) (hK : Nm w A' n' c' K) (hl : 64 < dl S ∨ 64 < dl K) :
    Calls Tryz.prog 39 #[.pointer (some ⟨b, 0, none⟩), .string s, .slice Ac nc cc, .slice A n c, .slice A' n' c'] w (PrfE 2 w) := by
  have HS := Lib.hid hS
  have HK := Lib.hid hK
  have HL := Lib.hid hl
  clear hS hK hl
  have q := ne_err8 2
  have B0 := Lib.hid (B8.alloc w (.cells #[.slice none 0 0, .slice none 0 0] 33))
  have R0 := Lib.hid (res_row w)
  have LT := Lib.hid (show w.heap.size < (w.alloc (.cells #[.slice none 0 0, .slice none 0 0] 33)).heap.size by simp)
  obtain ⟨w0, hw0⟩ : ∃ w0, w.alloc (.cells #[.slice none 0 0, .slice none 0 0] 33) = w0 := ⟨_, rfl⟩
  rw [hw0] at B0 R0 LT
  have hsz : w0.heap.size = w.heap.size + 1 := by rw [← hw0]; simp
  go_enter Tryz.func39, Tryz.ntmps39
  go_wp2_with fail
  have L1 := refusal2 (b := b) (B0.out.nm HS.out) (B0.out.nm HK.out)
  rw [hsz] at L1
  refine L1.mono ?_
  rintro e w1 ⟨hh, rfl⟩
  have he : e = .returned (.iface 71 (.int .i64 2)) := by
    rcases hh with ⟨-, h1⟩ | ⟨h1, -⟩
    · exact h1
    · have := HL.out; omega
  subst he
  clear hh L1
  have B1 := Lib.hid (B8.alloc w0 (.cells #[.slice A n c, .slice A' n' c'] 24))
  obtain ⟨w5, hw5⟩ : ∃ w5, w0.alloc (.cells #[.slice A n c, .slice A' n' c'] 24) = w5 := ⟨_, rfl⟩
  rw [hw5] at B1
  have ROW := Lib.hid ((B1.out.row LT.out).trans R0.out)
  have y0 : w5.cell? ⟨w.heap.size, 0, none⟩ = some (.slice none 0 0) := cell_of_row w5 _ 0 _ _ _ ROW.out
  have y1 : w5.cell? ⟨w.heap.size, 1, none⟩ = some (.slice none 0 0) := cell_of_row w5 _ 1 _ _ _ ROW.out
  have z0 := frozen_of_row w5 _ 0 _ _ ROW.out
  have z1 := frozen_of_row w5 _ 1 _ _ ROW.out
  go_wp2_with fail
  refine bodyPost_ret (v := .tuple #[.agg #[.slice none 0 0, .slice none 0 0], .iface 71 (.int .i64 2)]) (results_pf Tryz.results39 _ _ _ w.heap.size _ rfl (load_pf (two_row ROW.out)) rfl) rfl ?_
  exact ⟨rfl, (B0.out.trans B1.out).set2 (Nat.le_refl _) _ _⟩
set_option maxHeartbeats 1000000 in
theorem prove_nil (s : ByteArray) :
    Calls Tryz.prog 39 #[.pointer none, .string s, .slice Ac nc cc, .slice A n c, .slice A' n' c'] w (PrfE 1 w) := by

  have q := ne_err8 1
  have B0 := Lib.hid (B8.alloc w (.cells #[.slice none 0 0, .slice none 0 0] 33))
  have R0 := Lib.hid (res_row w)
  have LT := Lib.hid (show w.heap.size < (w.alloc (.cells #[.slice none 0 0, .slice none 0 0] 33)).heap.size by simp)
  obtain ⟨w0, hw0⟩ : ∃ w0, w.alloc (.cells #[.slice none 0 0, .slice none 0 0] 33) = w0 := ⟨_, rfl⟩
  rw [hw0] at B0 R0 LT
  have hsz : w0.heap.size = w.heap.size + 1 := by rw [← hw0]; simp
  go_enter Tryz.func39, Tryz.ntmps39
  go_wp2_with fail
  refine refusal_nil.mono ?_
  rintro e w1 ⟨rfl, rfl⟩
  have B1 := Lib.hid (B8.alloc w0 (.cells #[.slice A n c, .slice A' n' c'] 24))
  obtain ⟨w5, hw5⟩ : ∃ w5, w0.alloc (.cells #[.slice A n c, .slice A' n' c'] 24) = w5 := ⟨_, rfl⟩
  rw [hw5] at B1
  have ROW := Lib.hid ((B1.out.row LT.out).trans R0.out)
  have y0 : w5.cell? ⟨w.heap.size, 0, none⟩ = some (.slice none 0 0) := cell_of_row w5 _ 0 _ _ _ ROW.out
  have y1 : w5.cell? ⟨w.heap.size, 1, none⟩ = some (.slice none 0 0) := cell_of_row w5 _ 1 _ _ _ ROW.out
  have z0 := frozen_of_row w5 _ 0 _ _ ROW.out
  have z1 := frozen_of_row w5 _ 1 _ _ ROW.out
  go_wp2_with fail
  refine bodyPost_ret (v := .tuple #[.agg #[.slice none 0 0, .slice none 0 0], .iface 71 (.int .i64 1)]) (results_pf Tryz.results39 _ _ _ w.heap.size _ rfl (load_pf (two_row ROW.out)) rfl) rfl ?_
  exact ⟨rfl, (B0.out.trans B1.out).set2 (Nat.le_refl _) _ _⟩
set_option maxHeartbeats 1000000 in
theorem equal_long (hS : Nm w A n c S) (hK : Nm w A' n' c' K) (hl : 64 < dl S ∨ 64 < dl K) :
    Calls Tryz.prog 13 #[.pointer (some ⟨b, 0, none⟩), .slice Ac nc cc, .slice Aa na ca, .slice A n c, .slice A' n' c'] w (PrfE 2 w) := by
  have HS := Lib.hid hS
  have HK := Lib.hid hK
  have HL := Lib.hid hl
  clear hS hK hl
  have q := ne_err8 2
  have B0 := Lib.hid (B8.alloc w (.cells #[.slice none 0 0, .slice none 0 0] 33))
  have R0 := Lib.hid (res_row w)
  have LT := Lib.hid (show w.heap.size < (w.alloc (.cells #[.slice none 0 0, .slice none 0 0] 33)).heap.size by simp)
  obtain ⟨w0, hw0⟩ : ∃ w0, w.alloc (.cells #[.slice none 0 0, .slice none 0 0] 33) = w0 := ⟨_, rfl⟩
  rw [hw0] at B0 R0 LT
  have hsz : w0.heap.size = w.heap.size + 1 := by rw [← hw0]; simp
  go_enter Tryz.func13, Tryz.ntmps13
  go_wp2_with fail
  have L1 := refusal2 (b := b) (B0.out.nm HS.out) (B0.out.nm HK.out)
  rw [hsz] at L1
  refine L1.mono ?_
  rintro e w1 ⟨hh, rfl⟩
  have he : e = .returned (.iface 71 (.int .i64 2)) := by
    rcases hh with ⟨-, h1⟩ | ⟨h1, -⟩
    · exact h1
    · have := HL.out; omega
  subst he
  clear hh L1
  have B1 := Lib.hid (B8.alloc w0 (.cells #[.slice A n c, .slice A' n' c'] 24))
  obtain ⟨w5, hw5⟩ : ∃ w5, w0.alloc (.cells #[.slice A n c, .slice A' n' c'] 24) = w5 := ⟨_, rfl⟩
  rw [hw5] at B1
  have ROW := Lib.hid ((B1.out.row LT.out).trans R0.out)
  have y0 : w5.cell? ⟨w.heap.size, 0, none⟩ = some (.slice none 0 0) := cell_of_row w5 _ 0 _ _ _ ROW.out
  have y1 : w5.cell? ⟨w.heap.size, 1, none⟩ = some (.slice none 0 0) := cell_of_row w5 _ 1 _ _ _ ROW.out
  have z0 := frozen_of_row w5 _ 0 _ _ ROW.out
  have z1 := frozen_of_row w5 _ 1 _ _ ROW.out
  go_wp2_with fail
  refine bodyPost_ret (v := .tuple #[.agg #[.slice none 0 0, .slice none 0 0], .iface 71 (.int .i64 2)]) (results_pf Tryz.results13 _ _ _ w.heap.size _ rfl (load_pf (two_row ROW.out)) rfl) rfl ?_
  exact ⟨rfl, (B0.out.trans B1.out).set2 (Nat.le_refl _) _ _⟩
/-! ### Know, Sign -/
set_option maxHeartbeats 1000000 in
theorem know_ok (h : Gr w b d) (hT : Tabs w) (hc : Bz w Ac nc ctx) (hnc : nc ≤ 140737488355328) (hS : Nm w A n c S) (lS : dl S ≤ 64) (hK : Nm w A' n' c' K) (lK : dl K ≤ 64) :
    Calls Tryz.prog 11 #[.pointer (some ⟨b, 0, none⟩), .slice Ac nc cc, .slice A n c, .slice A' n' c'] w (PrfA (knE d.P d.Q d.G (strB lbK) ctx S K) (respN d.Q (knE d.P d.Q d.G (strB lbK) ctx S K) S K) w) := by
  have HG := Lib.hid h
  have HT := Lib.hid hT
  have HC := Lib.hid hc
  have HS := Lib.hid hS
  have HK := Lib.hid hK
  clear h hT hc hS hK
  have B0 := Lib.hid (B8.alloc w (.cells #[.slice none 0 0, .slice none 0 0] 33))
  have R0 := Lib.hid (res_row w)
  have LT := Lib.hid (show w.heap.size < (w.alloc (.cells #[.slice none 0 0, .slice none 0 0] 33)).heap.size by simp)
  obtain ⟨w0, hw0⟩ : ∃ w0, w.alloc (.cells #[.slice none 0 0, .slice none 0 0] 33) = w0 := ⟨_, rfl⟩
  rw [hw0] at B0 R0 LT
  have hsz : w0.heap.size = w.heap.size + 1 := by rw [← hw0]; simp
  go_enter Tryz.func11, Tryz.ntmps11
  go_wp2_with fail
  refine (prove_ok (B0.out.gr HG.out) (B0.out.tabs HT.out) lbK (by decide) (B0.out.bz HC.out) hnc (B0.out.nm HS.out) lS (B0.out.nm HK.out) lK).mono ?_
  rintro e w5 ⟨A1, n1, c1, A2, n2, c2, rfl, k1, k2, b5, h1, h2⟩
  have K1 := Lib.hid k1
  have K2 := Lib.hid k2
  have N1 := Lib.hid h1
  have N2 := Lib.hid h2
  have B5 := Lib.hid b5
  have ROW := Lib.hid ((b5.row LT.out).trans R0.out)
  clear k1 k2 b5 h1 h2
  have y0 : w5.cell? ⟨w.heap.size, 0, none⟩ = some (.slice none 0 0) := cell_of_row w5 _ 0 _ _ _ ROW.out
  have y1 : w5.cell? ⟨w.heap.size, 1, none⟩ = some (.slice none 0 0) := cell_of_row w5 _ 1 _ _ _ ROW.out
  have z0 := frozen_of_row w5 _ 0 _ _ ROW.out
  have z1 := frozen_of_row w5 _ 1 _ _ ROW.out
  go_wp2_with fail
  refine bodyPost_ret (v := .tuple #[.agg #[.slice A1 n1 c1, .slice A2 n2 c2], .nilIface]) (results_pf Tryz.results11 _ _ _ w.heap.size _ rfl (load_pf (two_row ROW.out)) rfl) rfl ?_
  refine ⟨A1, n1, c1, A2, n2, c2, rfl, K1.out.set2 (fun a ha _ => by have := N1.out a ha; omega) _ _, K2.out.set2 (fun a ha _ => by have := N2.out a ha; omega) _ _, (B0.out.trans B5.out).set2 (Nat.le_refl _) _ _, fun a ha => by have := N1.out a ha; omega, fun a ha => by have := N2.out a ha; omega⟩
set_option maxHeartbeats 1000000 in
theorem know_long (hS : Nm w A n c S) (hK : Nm w A' n' c' K) (hl : 64 < dl S ∨ 64 < dl K) :
    Calls Tryz.prog 11 #[.pointer (some ⟨b, 0, none⟩), .slice Ac nc cc, .slice A n c, .slice A' n' c'] w (PrfE 2 w) := by
  have HS := Lib.hid hS
  have HK := Lib.hid hK
  have HL := Lib.hid hl
  clear hS hK hl
  have B0 := Lib.hid (B8.alloc w (.cells #[.slice none 0 0, .slice none 0 0] 33))
  have R0 := Lib.hid (res_row w)
  have LT := Lib.hid (show w.heap.size < (w.alloc (.cells #[.slice none 0 0, .slice none 0 0] 33)).heap.size by simp)
  obtain ⟨w0, hw0⟩ : ∃ w0, w.alloc (.cells #[.slice none 0 0, .slice none 0 0] 33) = w0 := ⟨_, rfl⟩
  rw [hw0] at B0 R0 LT
  have hsz : w0.heap.size = w.heap.size + 1 := by rw [← hw0]; simp
  go_enter Tryz.func11, Tryz.ntmps11
  go_wp2_with fail
  refine (prove_long lbK (B0.out.nm HS.out) (B0.out.nm HK.out) HL.out).mono ?_
  rintro e w5 ⟨rfl, b5⟩
  have B5 := Lib.hid b5
  have ROW := Lib.hid ((b5.row LT.out).trans R0.out)
  clear b5
  have y0 : w5.cell? ⟨w.heap.size, 0, none⟩ = some (.slice none 0 0) := cell_of_row w5 _ 0 _ _ _ ROW.out
  have y1 : w5.cell? ⟨w.heap.size, 1, none⟩ = some (.slice none 0 0) := cell_of_row w5 _ 1 _ _ _ ROW.out
  have z0 := frozen_of_row w5 _ 0 _ _ ROW.out
  have z1 := frozen_of_row w5 _ 1 _ _ ROW.out
  go_wp2_with fail
  refine bodyPost_ret (v := .tuple #[.agg #[.slice none 0 0, .slice none 0 0], .iface 71 (.int .i64 2)]) (results_pf Tryz.results11 _ _ _ w.heap.size _ rfl (load_pf (two_row ROW.out)) rfl) rfl ?_
  exact ⟨rfl, (B0.out.trans B5.out).set2 (Nat.le_refl _) _ _⟩
set_option maxHeartbeats 1000000 in
theorem know_nil  :
    Calls Tryz.prog 11 #[.pointer none, .slice Ac nc cc, .slice A n c, .slice A' n' c'] w (PrfE 1 w) := by

  have B0 := Lib.hid (B8.alloc w (.cells #[.slice none 0 0, .slice none 0 0] 33))
  have R0 := Lib.hid (res_row w)
  have LT := Lib.hid (show w.heap.size < (w.alloc (.cells #[.slice none 0 0, .slice none 0 0] 33)).heap.size by simp)
  obtain ⟨w0, hw0⟩ : ∃ w0, w.alloc (.cells #[.slice none 0 0, .slice none 0 0] 33) = w0 := ⟨_, rfl⟩
  rw [hw0] at B0 R0 LT
  have hsz : w0.heap.size = w.heap.size + 1 := by rw [← hw0]; simp
  go_enter Tryz.func11, Tryz.ntmps11
  go_wp2_with fail
  refine (prove_nil lbK).mono ?_
  rintro e w5 ⟨rfl, b5⟩
  have B5 := Lib.hid b5
  have ROW := Lib.hid ((b5.row LT.out).trans R0.out)
  clear b5
  have y0 : w5.cell? ⟨w.heap.size, 0, none⟩ = some (.slice none 0 0) := cell_of_row w5 _ 0 _ _ _ ROW.out
  have y1 : w5.cell? ⟨w.heap.size, 1, none⟩ = some (.slice none 0 0) := cell_of_row w5 _ 1 _ _ _ ROW.out
  have z0 := frozen_of_row w5 _ 0 _ _ ROW.out
  have z1 := frozen_of_row w5 _ 1 _ _ ROW.out
  go_wp2_with fail
  refine bodyPost_ret (v := .tuple #[.agg #[.slice none 0 0, .slice none 0 0], .iface 71 (.int .i64 1)]) (results_pf Tryz.results11 _ _ _ w.heap.size _ rfl (load_pf (two_row ROW.out)) rfl) rfl ?_
  exact ⟨rfl, (B0.out.trans B5.out).set2 (Nat.le_refl _) _ _⟩
set_option maxHeartbeats 1000000 in
theorem sign_ok (h : Gr w b d) (hT : Tabs w) (hc : Bz w Ac nc ctx) (hnc : nc ≤ 140737488355328) (hS : Nm w A n c S) (lS : dl S ≤ 64) (hK : Nm w A' n' c' K) (lK : dl K ≤ 64) :
    Calls Tryz.prog 12 #[.pointer (some ⟨b, 0, none⟩), .slice Ac nc cc, .slice A n c, .slice A' n' c'] w (PrfA (knE d.P d.Q d.G (strB lbS) ctx S K) (respN d.Q (knE d.P d.Q d.G (strB lbS) ctx S K) S K) w) := by
  have HG := Lib.hid h
  have HT := Lib.hid hT
  have HC := Lib.hid hc
  have HS := Lib.hid hS
  have HK := Lib.hid hK
  clear h hT hc hS hK
  have B0 := Lib.hid (B8.alloc w (.cells #[.slice none 0 0, .slice none 0 0] 33))
  have R0 := Lib.hid (res_row w)
  have LT := Lib.hid (show w.heap.size < (w.alloc (.cells #[.slice none 0 0, .slice none 0 0] 33)).heap.size by simp)
  obtain ⟨w0, hw0⟩ : ∃ w0, w.alloc (.cells #[.slice none 0 0, .slice none 0 0] 33) = w0 := ⟨_, rfl⟩
  rw [hw0] at B0 R0 LT
  have hsz : w0.heap.size = w.heap.size + 1 := by rw [← hw0]; simp
  go_enter Tryz.func12, Tryz.ntmps12
  go_wp2_with fail
  refine (prove_ok (B0.out.gr HG.out) (B0.out.tabs HT.out) lbS (by decide) (B0.out.bz HC.out) hnc (B0.out.nm HS.out) lS (B0.out.nm HK.out) lK).mono ?_
  rintro e w5 ⟨A1, n1, c1, A2, n2, c2, rfl, k1, k2, b5, h1, h2⟩
  have K1 := Lib.hid k1
  have K2 := Lib.hid k2
  have N1 := Lib.hid h1
  have N2 := Lib.hid h2
  have B5 := Lib.hid b5
  have ROW := Lib.hid ((b5.row LT.out).trans R0.out)
  clear k1 k2 b5 h1 h2
  have y0 : w5.cell? ⟨w.heap.size, 0, none⟩ = some (.slice none 0 0) := cell_of_row w5 _ 0 _ _ _ ROW.out
  have y1 : w5.cell? ⟨w.heap.size, 1, none⟩ = some (.slice none 0 0) := cell_of_row w5 _ 1 _ _ _ ROW.out
  have z0 := frozen_of_row w5 _ 0 _ _ ROW.out
  have z1 := frozen_of_row w5 _ 1 _ _ ROW.out
  go_wp2_with fail
  refine bodyPost_ret (v := .tuple #[.agg #[.slice A1 n1 c1, .slice A2 n2 c2], .nilIface]) (results_pf Tryz.results12 _ _ _ w.heap.size _ rfl (load_pf (two_row ROW.out)) rfl) rfl ?_
  refine ⟨A1, n1, c1, A2, n2, c2, rfl, K1.out.set2 (fun a ha _ => by have := N1.out a ha; omega) _ _, K2.out.set2 (fun a ha _ => by have := N2.out a ha; omega) _ _, (B0.out.trans B5.out).set2 (Nat.le_refl _) _ _, fun a ha => by have := N1.out a ha; omega, fun a ha => by have := N2.out a ha; omega⟩
set_option maxHeartbeats 1000000 in
theorem sign_long (hS : Nm w A n c S) (hK : Nm w A' n' c' K) (hl : 64 < dl S ∨ 64 < dl K) :
    Calls Tryz.prog 12 #[.pointer (some ⟨b, 0, none⟩), .slice Ac nc cc, .slice A n c, .slice A' n' c'] w (PrfE 2 w) := by
  have HS := Lib.hid hS
  have HK := Lib.hid hK
  have HL := Lib.hid hl
  clear hS hK hl
  have B0 := Lib.hid (B8.alloc w (.cells #[.slice none 0 0, .slice none 0 0] 33))
  have R0 := Lib.hid (res_row w)
  have LT := Lib.hid (show w.heap.size < (w.alloc (.cells #[.slice none 0 0, .slice none 0 0] 33)).heap.size by simp)
  obtain ⟨w0, hw0⟩ : ∃ w0, w.alloc (.cells #[.slice none 0 0, .slice none 0 0] 33) = w0 := ⟨_, rfl⟩
  rw [hw0] at B0 R0 LT
  have hsz : w0.heap.size = w.heap.size + 1 := by rw [← hw0]; simp
  go_enter Tryz.func12, Tryz.ntmps12
  go_wp2_with fail
  refine (prove_long lbS (B0.out.nm HS.out) (B0.out.nm HK.out) HL.out).mono ?_
  rintro e w5 ⟨rfl, b5⟩
  have B5 := Lib.hid b5
  have ROW := Lib.hid ((b5.row LT.out).trans R0.out)
  clear b5
  have y0 : w5.cell? ⟨w.heap.size, 0, none⟩ = some (.slice none 0 0) := cell_of_row w5 _ 0 _ _ _ ROW.out
  have y1 : w5.cell? ⟨w.heap.size, 1, none⟩ = some (.slice none 0 0) := cell_of_row w5 _ 1 _ _ _ ROW.out
  have z0 := frozen_of_row w5 _ 0 _ _ ROW.out
  have z1 := frozen_of_row w5 _ 1 _ _ ROW.out
  go_wp2_with fail
  refine bodyPost_ret (v := .tuple #[.agg #[.slice none 0 0, .slice none 0 0], .iface 71 (.int .i64 2)]) (results_pf Tryz.results12 _ _ _ w.heap.size _ rfl (load_pf (two_row ROW.out)) rfl) rfl ?_
  exact ⟨rfl, (B0.out.trans B5.out).set2 (Nat.le_refl _) _ _⟩
/-! ### Equal -/
set_option maxHeartbeats 4000000 in
theorem equal_ok (h : Gr w b d) (hT : Tabs w) (hc : Bz w Ac nc ctx) (hnc : nc ≤ 140737488355328) (ha : Nm w Aa na ca X) (hX : El d.P d.Q X) (hS : Nm w A n c S) (lS : dl S ≤ 64) (hK : Nm w A' n' c' K) (lK : dl K ≤ 64) :
    Calls Tryz.prog 13 #[.pointer (some ⟨b, 0, none⟩), .slice Ac nc cc, .slice Aa na ca, .slice A n c, .slice A' n' c'] w (PrfA (eqE d.P d.Q d.G ctx X S K) (respN d.Q (eqE d.P d.Q d.G ctx X S K) S K) w) := by
  have HG := Lib.hid h
  have HT := Lib.hid hT
  have HC := Lib.hid hc
  have HA := Lib.hid ha
  have HX := Lib.hid hX
  have HS := Lib.hid hS
  have HK := Lib.hid hK
  have q0 : 0 < d.Q := by have := h.safe.q3; omega
  have lq : dl d.Q ≤ 64 := by have := h.lq; omega
  have Q0 := Lib.hid q0
  have LQ := Lib.hid lq
  have q := ne_nil8
  have B0 := Lib.hid (B8.alloc w (.cells #[.slice none 0 0, .slice none 0 0] 33))
  have R0 := Lib.hid (res_row w)
  have LT := Lib.hid (show w.heap.size < (w.alloc (.cells #[.slice none 0 0, .slice none 0 0] 33)).heap.size by simp)
  obtain ⟨w0, hw0⟩ : ∃ w0, w.alloc (.cells #[.slice none 0 0, .slice none 0 0] 33) = w0 := ⟨_, rfl⟩
  rw [hw0] at B0 R0 LT
  have hsz : w0.heap.size = w.heap.size + 1 := by rw [← hw0]; simp
  clear h hT hc ha hX hS hK q0 lq
  go_enter Tryz.func13, Tryz.ntmps13
  go_wp2_with fail
  have L1 := refusal2 (b := b) (B0.out.nm HS.out) (B0.out.nm HK.out)
  rw [hsz] at L1
  refine L1.mono ?_
  rintro e w1 ⟨hh, rfl⟩
  have he : e = .returned .nilIface := by
    rcases hh with ⟨h1, -⟩ | ⟨-, h1⟩
    · omega
    · exact h1
  subst he
  have B1 := Lib.hid (B8.alloc w0 (.cells #[.slice A n c, .slice A' n' c'] 24))
  clear hh L1
  go_wp2_with fail
  refine (powers_ok (B1.out.gr (B0.out.gr HG.out)) (B1.out.nm (B0.out.nm HA.out)) (B1.out.nm (B0.out.nm HS.out)) HX.out lS).mono ?_
  rintro e w2 ⟨D1, m1, d1, D2, m2, d2, rfl, k1, k2, b2⟩
  have B2' := Lib.hid (B1.out.trans b2)
  have K1 := Lib.hid k1
  have K2 := Lib.hid k2
  clear k1 k2 b2 B1
  go_wp2_with fail
  refine (powers_ok (B2'.out.gr (B0.out.gr HG.out)) (B2'.out.nm (B0.out.nm HA.out)) (B2'.out.nm (B0.out.nm HK.out)) HX.out lK).mono ?_
  rintro e w3 ⟨D3, m3, d3, D4, m4, d4, rfl, k3, k4, b3⟩
  have B3' := Lib.hid (B2'.out.trans b3)
  have K1b := Lib.hid (b3.cn K1.out)
  have K2b := Lib.hid (b3.cn K2.out)
  have K3 := Lib.hid k3
  have K4 := Lib.hid k4
  clear k3 k4 b3 B2' K1 K2
  go_wp2_with fail
  refine (chal5 (B3'.out.gr (B0.out.gr HG.out)).toGr0 (B3'.out.tabs (B0.out.tabs HT.out)) lbE (by decide) (B3'.out.bz (B0.out.bz HC.out)) hnc K1b.out.nm (B3'.out.nm (B0.out.nm HA.out)) K2b.out.nm K3.out.nm K4.out.nm).mono ?_
  rintro e w4 ⟨D5, m5, d5, rfl, k5, b4, n4⟩
  have B4' := Lib.hid (B3'.out.trans ((B8.alloc w3 (.cells #[.slice D1 m1 d1, .slice Aa na ca, .slice D2 m2 d2, .slice D3 m3 d3, .slice D4 m4 d4] 24)).trans (show B8 _ w4 from b4)))
  have K5 := Lib.hid (show Cn w4 D5 m5 d5 (eqE d.P d.Q d.G ctx X S K) from k5)
  have z3 := B3'.out.sz
  have N5 := Lib.hid (show ∀ a, D5 = some a → w.heap.size + 1 ≤ a.block from fun a ha => by
    have h1 := n4 a ha
    have h2 : w3.heap.size ≤ (w3.alloc (.cells #[.slice D1 m1 d1, .slice Aa na ca, .slice D2 m2 d2, .slice D3 m3 d3, .slice D4 m4 d4] 24)).heap.size := by simp
    omega)
  clear k5 b4 n4 B3' K1b K2b K3 K4
  go_wp2_with fail
  refine (answered_any (B4'.out.gr (B0.out.gr HG.out)).toGr0 K5.out (K5.out.d64 (chl_nn Q0.out).2 LQ.out) (B4'.out.nm (B0.out.nm HS.out)) lS (B4'.out.nm (B0.out.nm HK.out)) lK).mono ?_
  rintro e w5 ⟨D6, m6, d6, rfl, k5, k6, b5, n6⟩
  have K5b := Lib.hid k5
  have K6 := Lib.hid k6
  have z4 := B4'.out.sz
  have N6 := Lib.hid (show ∀ a, D6 = some a → w.heap.size + 1 ≤ a.block from fun a ha => by have := n6 a ha; omega)
  have B5' := Lib.hid (B4'.out.trans b5)
  have ROW := Lib.hid ((B5'.out.row LT.out).trans R0.out)
  clear k5 k6 b5 n6 K5 B4'
  have y0 : w5.cell? ⟨w.heap.size, 0, none⟩ = some (.slice none 0 0) := cell_of_row w5 _ 0 _ _ _ ROW.out
  have y1 : w5.cell? ⟨w.heap.size, 1, none⟩ = some (.slice none 0 0) := cell_of_row w5 _ 1 _ _ _ ROW.out
  have z0 := frozen_of_row w5 _ 0 _ _ ROW.out
  have z1 := frozen_of_row w5 _ 1 _ _ ROW.out
  go_wp2_with fail
  refine bodyPost_ret (v := .tuple #[.agg #[.slice D5 m5 d5, .slice D6 m6 d6], .nilIface]) (results_pf Tryz.results13 _ _ _ w.heap.size _ rfl (load_pf (two_row ROW.out)) rfl) rfl ?_
  refine ⟨D5, m5, d5, D6, m6, d6, rfl, K5b.out.set2 (fun a ha _ => by have := N5.out a ha; omega) _ _, K6.out.set2 (fun a ha _ => by have := N6.out a ha; omega) _ _, (B0.out.trans B5'.out).set2 (Nat.le_refl _) _ _, fun a ha => by have := N5.out a ha; omega, fun a ha => by have := N6.out a ha; omega⟩
set_option maxHeartbeats 4000000 in
theorem equal_no (h : Gr w b d) (ha : Nm w Aa na ca X) (hX : ¬ El d.P d.Q X) (hS : Nm w A n c S) (lS : dl S ≤ 64) (hK : Nm w A' n' c' K) (lK : dl K ≤ 64) :
    Calls Tryz.prog 13 #[.pointer (some ⟨b, 0, none⟩), .slice Ac nc cc, .slice Aa na ca, .slice A n c, .slice A' n' c'] w (PrfE 8 w) := by
  have HG := Lib.hid h
  have HA := Lib.hid ha
  have HX := Lib.hid hX
  have HS := Lib.hid hS
  have HK := Lib.hid hK
  have q := ne_nil8
  have q8 := ne_err8 8
  have B0 := Lib.hid (B8.alloc w (.cells #[.slice none 0 0, .slice none 0 0] 33))
  have R0 := Lib.hid (res_row w)
  have LT := Lib.hid (show w.heap.size < (w.alloc (.cells #[.slice none 0 0, .slice none 0 0] 33)).heap.size by simp)
  obtain ⟨w0, hw0⟩ : ∃ w0, w.alloc (.cells #[.slice none 0 0, .slice none 0 0] 33) = w0 := ⟨_, rfl⟩
  rw [hw0] at B0 R0 LT
  have hsz : w0.heap.size = w.heap.size + 1 := by rw [← hw0]; simp
  clear h ha hX hS hK
  go_enter Tryz.func13, Tryz.ntmps13
  go_wp2_with fail
  have L1 := refusal2 (b := b) (B0.out.nm HS.out) (B0.out.nm HK.out)
  rw [hsz] at L1
  refine L1.mono ?_
  rintro e w1 ⟨hh, rfl⟩
  have he : e = .returned .nilIface := by
    rcases hh with ⟨h1, -⟩ | ⟨-, h1⟩
    · omega
    · exact h1
  subst he
  have B1 := Lib.hid (B8.alloc w0 (.cells #[.slice A n c, .slice A' n' c'] 24))
  clear hh L1
  go_wp2_with fail
  refine (powers_no (B1.out.gr (B0.out.gr HG.out)) (B1.out.nm (B0.out.nm HA.out)) (B1.out.nm (B0.out.nm HS.out)) HX.out lS).mono ?_
  rintro e w5 ⟨rfl, b5⟩
  have B5 := Lib.hid (B1.out.trans b5)
  have ROW := Lib.hid ((B5.out.row LT.out).trans R0.out)
  clear b5 B1
  have y0 : w5.cell? ⟨w.heap.size, 0, none⟩ = some (.slice none 0 0) := cell_of_row w5 _ 0 _ _ _ ROW.out
  have y1 : w5.cell? ⟨w.heap.size, 1, none⟩ = some (.slice none 0 0) := cell_of_row w5 _ 1 _ _ _ ROW.out
  have z0 := frozen_of_row w5 _ 0 _ _ ROW.out
  have z1 := frozen_of_row w5 _ 1 _ _ ROW.out
  go_wp2_with fail
  refine bodyPost_ret (v := .tuple #[.agg #[.slice none 0 0, .slice none 0 0], .iface 71 (.int .i64 8)]) (results_pf Tryz.results13 _ _ _ w.heap.size _ rfl (load_pf (two_row ROW.out)) rfl) rfl ?_
  exact ⟨rfl, (B0.out.trans B5.out).set2 (Nat.le_refl _) _ _⟩
end
end Go.Proofs.YtloibmemlkfkfaaGreatDoor
/-
  What checkOne, Knows and Signed of package sigma answer.
-/
namespace Go.Proofs.YtloibmemlkfkfaaGreatDoor
open Go.RowKit
set_option linter.unusedVariables false
/-- Whether it holds. -/
def VerP (E C : Int) (w : World) (e : Ending) (w' : World) : Prop := (∃ v, e = .returned v ∧ (E = C ∧ v = .nilIface ∨ E ≠ C ∧ v = .iface 71 (.int .i64 7))) ∧ B8 w w'
def ErrP (code : Int) (w : World) (e : Ending) (w' : World) : Prop := e = .returned (.iface 71 (.int .i64 code)) ∧ B8 w w'
/-- What a check of one power asks for. -/
def kcE (P Q G : Int) (lab ctx : List Int) (y Z E : Int) : Int := chl P Q lab ctx (lsI [y, backE P Q G y Z E]) 2
section
variable {w : World} {b : Nat} {d : Gd} {A A' Ac Ae Az : Option Addr} {n c n' c' nc cc ne ce nz cz : Nat} {X Y E Z : Int} {ctx : List Int}
theorem check_long (s : ByteArray) (he : Nm w Ae ne ce E) (hz : Nm w Az nz cz Z) (hl : 64 < dl E ∨ 64 < dl Z) :
    Calls Tryz.prog 49 #[.pointer (some ⟨b, 0, none⟩), .string s, .slice Ac nc cc, .slice A n c, .agg #[.slice Ae ne ce, .slice Az nz cz]] w (ErrP 2 w) := by
  have HE := Lib.hid he
  have HZ := Lib.hid hz
  have HL := Lib.hid hl
  have q := ne_err8 2
  have B0 := Lib.hid (B8.alloc w (.cells #[.slice Ae ne ce, .slice Az nz cz] 33))
  obtain ⟨w0, hw0⟩ : ∃ w0, w.alloc (.cells #[.slice Ae ne ce, .slice Az nz cz] 33) = w0 := ⟨_, rfl⟩
  have C0 := pf_box w (.slice Ae ne ce) (.slice Az nz cz)
  rw [hw0] at B0 C0
  have x0 := C0.1
  have x1 := C0.2
  have hsz : w0.heap.size = w.heap.size + 1 := by rw [← hw0]; simp
  clear he hz hl C0
  go_enter Tryz.func49, Tryz.ntmps49
  go_wp2_with fail
  have L1 := refusal2 (b := b) (B0.out.nm HE.out) (B0.out.nm HZ.out)
  rw [hsz] at L1
  refine L1.mono ?_
  rintro e w1 ⟨hh, rfl⟩
  have he : e = .returned (.iface 71 (.int .i64 2)) := by
    rcases hh with ⟨-, h1⟩ | ⟨h1, -⟩
    · exact h1
    · have := HL.out; omega
  subst he
  have B1 := Lib.hid (B8.alloc w0 (.cells #[.slice Ae ne ce, .slice Az nz cz] 24))
  clear hh L1
  go_wp2_with fail
  go_ret
  exact ⟨rfl, B0.out.trans B1.out⟩
set_option maxHeartbeats 4000000 in
set_option maxRecDepth 100000 in
theorem check_ok (h : Gr w b d) (hT : Tabs w) (s : ByteArray) (hs : s.size ≤ 100) (hc : Bz w Ac nc ctx) (hnc : nc ≤ 140737488355328) (hy : Nm w A n c Y) (hY : El d.P d.Q Y) (he : Nm w Ae ne ce E) (lE : dl E ≤ 64) (hz : Nm w Az nz cz Z) (lZ : dl Z ≤ 64) :
    Calls Tryz.prog 49 #[.pointer (some ⟨b, 0, none⟩), .string s, .slice Ac nc cc, .slice A n c, .agg #[.slice Ae ne ce, .slice Az nz cz]] w (VerP E (kcE d.P d.Q d.G (strB s) ctx Y Z E) w) := by
  have HG := Lib.hid h
  have HT := Lib.hid hT
  have HC := Lib.hid hc
  have HY := Lib.hid hy
  have EY := Lib.hid hY
  have HE := Lib.hid he
  have HZ := Lib.hid hz
  have EG := Lib.hid h.el
  have q := ne_nil8
  have B0 := Lib.hid (B8.alloc w (.cells #[.slice Ae ne ce, .slice Az nz cz] 33))
  obtain ⟨w0, hw0⟩ : ∃ w0, w.alloc (.cells #[.slice Ae ne ce, .slice Az nz cz] 33) = w0 := ⟨_, rfl⟩
  have C0 := pf_box w (.slice Ae ne ce) (.slice Az nz cz)
  rw [hw0] at B0 C0
  have x0 := C0.1
  have x1 := C0.2
  have CC := Lib.hid C0
  have hsz : w0.heap.size = w.heap.size + 1 := by rw [← hw0]; simp
  have LT := Lib.hid (show w.heap.size < w0.heap.size by omega)
  clear h hT hc hy hY he hz C0
  go_enter Tryz.func49, Tryz.ntmps49
  go_wp2_with fail
  have L1 := refusal2 (b := b) (B0.out.nm HE.out) (B0.out.nm HZ.out)
  rw [hsz] at L1
  refine L1.mono ?_
  rintro e w1 ⟨hh, rfl⟩
  have he : e = .returned .nilIface := by
    rcases hh with ⟨h1, -⟩ | ⟨-, h1⟩
    · omega
    · exact h1
  subst he
  clear hh L1 x0 x1
  have B1 := B8.alloc w0 (.cells #[.slice Ae ne ce, .slice Az nz cz] 24)
  obtain ⟨W, hW⟩ : ∃ W, w0.alloc (.cells #[.slice Ae ne ce, .slice Az nz cz] 24) = W := ⟨_, rfl⟩
  rw [hW] at B1
  have BD := B1.trans (B8.drew W)
  have BD1 := Lib.hid BD
  have v0 := (BD.cell (o := 0) LT.out).trans CC.out.1
  have v1 := (BD.cell (o := 1) LT.out).trans CC.out.2
  have B1h := Lib.hid B1
  clear B1 BD
  go_wp2_with fail
  go_region_law (first
    | (go_simp; go_at_call 51; (with_reducible refine (gg_any (BD1.out.gr (B0.out.gr HG.out))).mono ?_); rintro e u1 ⟨G1, g1, gc1, rfl, kg, bg, -⟩; have BG := Lib.hid (BD1.out.trans (show B8 _ u1 from bg)); have KG := Lib.hid kg; have t0 := (BG.out.cell (o := 0) LT.out).trans CC.out.1; have t1 := (BG.out.cell (o := 1) LT.out).trans CC.out.2; clear kg bg)
    | (go_simp; go_at_call 50; (with_reducible refine (begun_ok (BG.out.gr0 (B0.out.gr HG.out).toGr0) KG.out.nm (BG.out.nm (B0.out.nm HY.out)) EG.out EY.out (BG.out.nm (B0.out.nm HE.out)) lE (BG.out.nm (B0.out.nm HZ.out)) lZ).mono ?_); rintro e u2 ⟨G2, g2, gc2, rfl, kb, bb⟩; have BB := Lib.hid (BG.out.trans bb); have KB := Lib.hid kb; clear kb bb))
  all_goals
    clear v0 v1 t0 t1
    go_wp2_with fail
    have BA := BB.out.trans ((B8.alloc u2 (.cells #[.slice A n c, .slice G2 g2 gc2] 24)).trans (B8.drew _))
    have s0 := (BB.out.cell (o := 0) LT.out).trans CC.out.1
    have s1 := ((BB.out.trans (B8.alloc u2 (.cells #[.slice A n c, .slice G2 g2 gc2] 24))).cell (o := 0) LT.out).trans CC.out.1
    have BA1 := Lib.hid BA
    clear BA
    go_region_law (first
      | (go_simp; go_at_call 43; (with_reducible refine (chal2d (BB.out.gr0 (B0.out.gr HG.out).toGr0) (BB.out.tabs (B0.out.tabs HT.out)) s hs (BB.out.bz (B0.out.bz HC.out)) hnc (BB.out.nm (B0.out.nm HY.out)) KB.out.nm).mono ?_); rintro e u3 ⟨G3, g3, gc3, rfl, kc, bc, -⟩; have BC := Lib.hid (BA1.out.trans (show B8 _ u3 from bc)); have KC := Lib.hid kc; have r0 := (BC.out.cell (o := 0) LT.out).trans CC.out.1; clear kc bc)
      | (go_simp; go_at_call 52; (with_reducible refine (verdict_any (BC.out.nm (B0.out.nm HE.out)) KC.out.nm).mono ?_); rintro e u4 ⟨⟨v, rfl, hv⟩, bv⟩; have BV := Lib.hid (B0.out.trans (BC.out.trans bv)); have HV := Lib.hid hv; clear hv bv))
    all_goals
      go_wp2_with fail
      go_ret
      exact ⟨⟨v, rfl, HV.out⟩, BV.out⟩
end
end Go.Proofs.YtloibmemlkfkfaaGreatDoor
/-
  What Knows, Signed and Equals of package sigma answer.
-/
namespace Go.Proofs.YtloibmemlkfkfaaGreatDoor
open Go.RowKit
set_option linter.unusedVariables false
section
variable {w : World} {b : Nat} {d : Gd} {A A' Ac Ae Az Aa Ad : Option Addr} {n c n' c' nc cc ne ce nz cz na ca nd cd : Nat} {X Y E Z M : Int} {ctx : List Int}
set_option maxHeartbeats 4000000 in
set_option maxRecDepth 100000 in
theorem check_no (h : Gr w b d) (s : ByteArray) (hy : Nm w A n c Y) (hY : ¬ El d.P d.Q Y) (he : Nm w Ae ne ce E) (lE : dl E ≤ 64) (hz : Nm w Az nz cz Z) (lZ : dl Z ≤ 64) :
    Calls Tryz.prog 49 #[.pointer (some ⟨b, 0, none⟩), .string s, .slice Ac nc cc, .slice A n c, .agg #[.slice Ae ne ce, .slice Az nz cz]] w (ErrP 8 w) := by
  have HG := Lib.hid h
  have HY := Lib.hid hy
  have EY := Lib.hid hY
  have HE := Lib.hid he
  have HZ := Lib.hid hz
  have q := ne_nil8
  have q8 := ne_err8 8
  have B0 := Lib.hid (B8.alloc w (.cells #[.slice Ae ne ce, .slice Az nz cz] 33))
  obtain ⟨w0, hw0⟩ : ∃ w0, w.alloc (.cells #[.slice Ae ne ce, .slice Az nz cz] 33) = w0 := ⟨_, rfl⟩
  have C0 := pf_box w (.slice Ae ne ce) (.slice Az nz cz)
  rw [hw0] at B0 C0
  have x0 := C0.1
  have x1 := C0.2
  have CC := Lib.hid C0
  have hsz : w0.heap.size = w.heap.size + 1 := by rw [← hw0]; simp
  have LT := Lib.hid (show w.heap.size < w0.heap.size by omega)
  clear h hy hY he hz C0
  go_enter Tryz.func49, Tryz.ntmps49
  go_wp2_with fail
  have L1 := refusal2 (b := b) (B0.out.nm HE.out) (B0.out.nm HZ.out)
  rw [hsz] at L1
  refine L1.mono ?_
  rintro e w1 ⟨hh, rfl⟩
  have he : e = .returned .nilIface := by
    rcases hh with ⟨h1, -⟩ | ⟨-, h1⟩
    · omega
    · exact h1
  subst he
  clear hh L1 x0 x1
  have B1 := B8.alloc w0 (.cells #[.slice Ae ne ce, .slice Az nz cz] 24)
  obtain ⟨W, hW⟩ : ∃ W, w0.alloc (.cells #[.slice Ae ne ce, .slice Az nz cz] 24) = W := ⟨_, rfl⟩
  rw [hW] at B1
  have BD := B1.trans (B8.drew W)
  have BD1 := Lib.hid BD
  have v0 := (BD.cell (o := 0) LT.out).trans CC.out.1
  have v1 := (BD.cell (o := 1) LT.out).trans CC.out.2
  have B1h := Lib.hid B1
  clear B1 BD
  go_wp2_with fail
  go_region_law (first
    | (go_simp; go_at_call 51; (with_reducible refine (gg_any (BD1.out.gr (B0.out.gr HG.out))).mono ?_); rintro e u1 ⟨G1, g1, gc1, rfl, kg, bg, -⟩; have BG := Lib.hid (BD1.out.trans (show B8 _ u1 from bg)); have KG := Lib.hid kg; have t0 := (BG.out.cell (o := 0) LT.out).trans CC.out.1; have t1 := (BG.out.cell (o := 1) LT.out).trans CC.out.2; clear kg bg)
    | (go_simp; go_at_call 50; (with_reducible refine (begun_no (BG.out.gr0 (B0.out.gr HG.out).toGr0) KG.out.nm (BG.out.nm (B0.out.nm HY.out)) (fun k => absurd k.2 EY.out) (BG.out.nm (B0.out.nm HE.out)) (BG.out.nm (B0.out.nm HZ.out)) lZ).mono ?_); rintro e u2 ⟨rfl, bb⟩; have BB := Lib.hid (B0.out.trans (BG.out.trans bb)); clear bb))
  all_goals
    clear v0 v1 t0 t1
    go_wp2_with fail
    go_ret
    exact ⟨rfl, BB.out⟩
theorem knows_ok (h : Gr w b d) (hT : Tabs w) (hc : Bz w Ac nc ctx) (hnc : nc ≤ 140737488355328) (hy : Nm w A n c Y) (hY : El d.P d.Q Y) (he : Nm w Ae ne ce E) (lE : dl E ≤ 64) (hz : Nm w Az nz cz Z) (lZ : dl Z ≤ 64) :
    Calls Tryz.prog 18 #[.pointer (some ⟨b, 0, none⟩), .slice Ac nc cc, .slice A n c, .agg #[.slice Ae ne ce, .slice Az nz cz]] w (VerP E (kcE d.P d.Q d.G (strB lbK) ctx Y Z E) w) := by
  have HG := Lib.hid h
  have HT := Lib.hid hT
  have HC := Lib.hid hc
  have HY := Lib.hid hy
  have EY := Lib.hid hY
  have HE := Lib.hid he
  have HZ := Lib.hid hz
  have B0 := Lib.hid (B8.alloc w (.cells #[.slice Ae ne ce, .slice Az nz cz] 33))
  obtain ⟨w0, hw0⟩ : ∃ w0, w.alloc (.cells #[.slice Ae ne ce, .slice Az nz cz] 33) = w0 := ⟨_, rfl⟩
  have C0 := pf_box w (.slice Ae ne ce) (.slice Az nz cz)
  rw [hw0] at B0 C0
  have x0 := C0.1
  have x1 := C0.2
  have CC := Lib.hid C0
  have hsz : w0.heap.size = w.heap.size + 1 := by rw [← hw0]; simp
  have LT := Lib.hid (show w.heap.size < w0.heap.size by omega)
  clear h hT hc hy hY he hz C0
  go_enter Tryz.func18, Tryz.ntmps18
  go_wp2_with fail
  refine (check_ok (B0.out.gr HG.out) (B0.out.tabs HT.out) lbK (by decide) (B0.out.bz HC.out) hnc (B0.out.nm HY.out) EY.out (B0.out.nm HE.out) lE (B0.out.nm HZ.out) lZ).mono ?_
  rintro e w5 ⟨⟨v, rfl, hv⟩, b5⟩
  have HV := Lib.hid hv
  have B5 := Lib.hid (B0.out.trans b5)
  clear hv b5
  go_wp2_with fail
  go_ret
  exact ⟨⟨v, rfl, HV.out⟩, B5.out⟩
theorem knows_no (h : Gr w b d) (hy : Nm w A n c Y) (hY : ¬ El d.P d.Q Y) (he : Nm w Ae ne ce E) (lE : dl E ≤ 64) (hz : Nm w Az nz cz Z) (lZ : dl Z ≤ 64) :
    Calls Tryz.prog 18 #[.pointer (some ⟨b, 0, none⟩), .slice Ac nc cc, .slice A n c, .agg #[.slice Ae ne ce, .slice Az nz cz]] w (ErrP 8 w) := by
  have HG := Lib.hid h
  have HY := Lib.hid hy
  have EY := Lib.hid hY
  have HE := Lib.hid he
  have HZ := Lib.hid hz
  have B0 := Lib.hid (B8.alloc w (.cells #[.slice Ae ne ce, .slice Az nz cz] 33))
  obtain ⟨w0, hw0⟩ : ∃ w0, w.alloc (.cells #[.slice Ae ne ce, .slice Az nz cz] 33) = w0 := ⟨_, rfl⟩
  have C0 := pf_box w (.slice Ae ne ce) (.slice Az nz cz)
  rw [hw0] at B0 C0
  have x0 := C0.1
  have x1 := C0.2
  have CC := Lib.hid C0
  have hsz : w0.heap.size = w.heap.size + 1 := by rw [← hw0]; simp
  have LT := Lib.hid (show w.heap.size < w0.heap.size by omega)
  clear h hy hY he hz C0
  go_enter Tryz.func18, Tryz.ntmps18
  go_wp2_with fail
  refine (check_no (B0.out.gr HG.out) lbK (B0.out.nm HY.out) EY.out (B0.out.nm HE.out) lE (B0.out.nm HZ.out) lZ).mono ?_
  rintro e w5 ⟨rfl, b5⟩
  have B5 := Lib.hid (B0.out.trans b5)
  clear b5
  go_wp2_with fail
  go_ret
  exact ⟨rfl, B5.out⟩
theorem knows_long (he : Nm w Ae ne ce E) (hz : Nm w Az nz cz Z) (hl : 64 < dl E ∨ 64 < dl Z) :
    Calls Tryz.prog 18 #[.pointer (some ⟨b, 0, none⟩), .slice Ac nc cc, .slice A n c, .agg #[.slice Ae ne ce, .slice Az nz cz]] w (ErrP 2 w) := by
  have HE := Lib.hid he
  have HZ := Lib.hid hz
  have HL := Lib.hid hl
  have B0 := Lib.hid (B8.alloc w (.cells #[.slice Ae ne ce, .slice Az nz cz] 33))
  obtain ⟨w0, hw0⟩ : ∃ w0, w.alloc (.cells #[.slice Ae ne ce, .slice Az nz cz] 33) = w0 := ⟨_, rfl⟩
  have C0 := pf_box w (.slice Ae ne ce) (.slice Az nz cz)
  rw [hw0] at B0 C0
  have x0 := C0.1
  have x1 := C0.2
  have CC := Lib.hid C0
  have hsz : w0.heap.size = w.heap.size + 1 := by rw [← hw0]; simp
  have LT := Lib.hid (show w.heap.size < w0.heap.size by omega)
  clear he hz hl C0
  go_enter Tryz.func18, Tryz.ntmps18
  go_wp2_with fail
  refine (check_long lbK (B0.out.nm HE.out) (B0.out.nm HZ.out) HL.out).mono ?_
  rintro e w5 ⟨rfl, b5⟩
  have B5 := Lib.hid (B0.out.trans b5)
  clear b5
  go_wp2_with fail
  go_ret
  exact ⟨rfl, B5.out⟩
theorem signed_ok (h : Gr w b d) (hT : Tabs w) (hc : Bz w Ac nc ctx) (hnc : nc ≤ 140737488355328) (hy : Nm w A n c Y) (hY : El d.P d.Q Y) (he : Nm w Ae ne ce E) (lE : dl E ≤ 64) (hz : Nm w Az nz cz Z) (lZ : dl Z ≤ 64) :
    Calls Tryz.prog 19 #[.pointer (some ⟨b, 0, none⟩), .slice Ac nc cc, .slice A n c, .agg #[.slice Ae ne ce, .slice Az nz cz]] w (VerP E (kcE d.P d.Q d.G (strB lbS) ctx Y Z E) w) := by
  have HG := Lib.hid h
  have HT := Lib.hid hT
  have HC := Lib.hid hc
  have HY := Lib.hid hy
  have EY := Lib.hid hY
  have HE := Lib.hid he
  have HZ := Lib.hid hz
  have B0 := Lib.hid (B8.alloc w (.cells #[.slice Ae ne ce, .slice Az nz cz] 33))
  obtain ⟨w0, hw0⟩ : ∃ w0, w.alloc (.cells #[.slice Ae ne ce, .slice Az nz cz] 33) = w0 := ⟨_, rfl⟩
  have C0 := pf_box w (.slice Ae ne ce) (.slice Az nz cz)
  rw [hw0] at B0 C0
  have x0 := C0.1
  have x1 := C0.2
  have CC := Lib.hid C0
  have hsz : w0.heap.size = w.heap.size + 1 := by rw [← hw0]; simp
  have LT := Lib.hid (show w.heap.size < w0.heap.size by omega)
  clear h hT hc hy hY he hz C0
  go_enter Tryz.func19, Tryz.ntmps19
  go_wp2_with fail
  refine (check_ok (B0.out.gr HG.out) (B0.out.tabs HT.out) lbS (by decide) (B0.out.bz HC.out) hnc (B0.out.nm HY.out) EY.out (B0.out.nm HE.out) lE (B0.out.nm HZ.out) lZ).mono ?_
  rintro e w5 ⟨⟨v, rfl, hv⟩, b5⟩
  have HV := Lib.hid hv
  have B5 := Lib.hid (B0.out.trans b5)
  clear hv b5
  go_wp2_with fail
  go_ret
  exact ⟨⟨v, rfl, HV.out⟩, B5.out⟩
theorem signed_no (h : Gr w b d) (hy : Nm w A n c Y) (hY : ¬ El d.P d.Q Y) (he : Nm w Ae ne ce E) (lE : dl E ≤ 64) (hz : Nm w Az nz cz Z) (lZ : dl Z ≤ 64) :
    Calls Tryz.prog 19 #[.pointer (some ⟨b, 0, none⟩), .slice Ac nc cc, .slice A n c, .agg #[.slice Ae ne ce, .slice Az nz cz]] w (ErrP 8 w) := by
  have HG := Lib.hid h
  have HY := Lib.hid hy
  have EY := Lib.hid hY
  have HE := Lib.hid he
  have HZ := Lib.hid hz
  have B0 := Lib.hid (B8.alloc w (.cells #[.slice Ae ne ce, .slice Az nz cz] 33))
  obtain ⟨w0, hw0⟩ : ∃ w0, w.alloc (.cells #[.slice Ae ne ce, .slice Az nz cz] 33) = w0 := ⟨_, rfl⟩
  have C0 := pf_box w (.slice Ae ne ce) (.slice Az nz cz)
  rw [hw0] at B0 C0
  have x0 := C0.1
  have x1 := C0.2
  have CC := Lib.hid C0
  have hsz : w0.heap.size = w.heap.size + 1 := by rw [← hw0]; simp
  have LT := Lib.hid (show w.heap.size < w0.heap.size by omega)
  clear h hy hY he hz C0
  go_enter Tryz.func19, Tryz.ntmps19
  go_wp2_with fail
  refine (check_no (B0.out.gr HG.out) lbS (B0.out.nm HY.out) EY.out (B0.out.nm HE.out) lE (B0.out.nm HZ.out) lZ).mono ?_
  rintro e w5 ⟨rfl, b5⟩
  have B5 := Lib.hid (B0.out.trans b5)
  clear b5
  go_wp2_with fail
  go_ret
  exact ⟨rfl, B5.out⟩
theorem signed_long (he : Nm w Ae ne ce E) (hz : Nm w Az nz cz Z) (hl : 64 < dl E ∨ 64 < dl Z) :
    Calls Tryz.prog 19 #[.pointer (some ⟨b, 0, none⟩), .slice Ac nc cc, .slice A n c, .agg #[.slice Ae ne ce, .slice Az nz cz]] w (ErrP 2 w) := by
  have HE := Lib.hid he
  have HZ := Lib.hid hz
  have HL := Lib.hid hl
  have B0 := Lib.hid (B8.alloc w (.cells #[.slice Ae ne ce, .slice Az nz cz] 33))
  obtain ⟨w0, hw0⟩ : ∃ w0, w.alloc (.cells #[.slice Ae ne ce, .slice Az nz cz] 33) = w0 := ⟨_, rfl⟩
  have C0 := pf_box w (.slice Ae ne ce) (.slice Az nz cz)
  rw [hw0] at B0 C0
  have x0 := C0.1
  have x1 := C0.2
  have CC := Lib.hid C0
  have hsz : w0.heap.size = w.heap.size + 1 := by rw [← hw0]; simp
  have LT := Lib.hid (show w.heap.size < w0.heap.size by omega)
  clear he hz hl C0
  go_enter Tryz.func19, Tryz.ntmps19
  go_wp2_with fail
  refine (check_long lbS (B0.out.nm HE.out) (B0.out.nm HZ.out) HL.out).mono ?_
  rintro e w5 ⟨rfl, b5⟩
  have B5 := Lib.hid (B0.out.trans b5)
  clear b5
  go_wp2_with fail
  go_ret
  exact ⟨rfl, B5.out⟩
end
end Go.Proofs.YtloibmemlkfkfaaGreatDoor
/-
  What Equals of package sigma answer.
-/
namespace Go.Proofs.YtloibmemlkfkfaaGreatDoor
open Go.RowKit
set_option linter.unusedVariables false
section
variable {w : World} {b : Nat} {d : Gd} {A A' Ac Ae Az Aa Ad : Option Addr} {n c n' c' nc cc ne ce nz cz na ca nd cd : Nat} {X Y E Z M : Int} {ctx : List Int}
/-- What a check of two powers asks for. -/
def ceE (P Q G : Int) (ctx : List Int) (y a x Z E : Int) : Int := chl P Q (strB lbE) ctx (lsI [y, a, x, backE P Q G y Z E, backE P Q a x Z E]) 5
theorem equals_long (he : Nm w Ae ne ce E) (hz : Nm w Az nz cz Z) (hl : 64 < dl E ∨ 64 < dl Z) :
    Calls Tryz.prog 20 #[.pointer (some ⟨b, 0, none⟩), .slice Ac nc cc, .slice A n c, .slice Aa na ca, .slice Ad nd cd, .agg #[.slice Ae ne ce, .slice Az nz cz]] w (ErrP 2 w) := by
  have HE := Lib.hid he
  have HZ := Lib.hid hz
  have HL := Lib.hid hl
  have q := ne_err8 2
  have B0 := Lib.hid (B8.alloc w (.cells #[.slice Ae ne ce, .slice Az nz cz] 33))
  obtain ⟨w0, hw0⟩ : ∃ w0, w.alloc (.cells #[.slice Ae ne ce, .slice Az nz cz] 33) = w0 := ⟨_, rfl⟩
  have C0 := pf_box w (.slice Ae ne ce) (.slice Az nz cz)
  rw [hw0] at B0 C0
  have x0 := C0.1
  have x1 := C0.2
  have CC := Lib.hid C0
  have hsz : w0.heap.size = w.heap.size + 1 := by rw [← hw0]; simp
  have LT := Lib.hid (show w.heap.size < w0.heap.size by omega)
  clear he hz hl C0
  go_enter Tryz.func20, Tryz.ntmps20
  go_wp2_with fail
  have L1 := refusal2 (b := b) (B0.out.nm HE.out) (B0.out.nm HZ.out)
  rw [hsz] at L1
  refine L1.mono ?_
  rintro e w1 ⟨hh, rfl⟩
  have he : e = .returned (.iface 71 (.int .i64 2)) := by
    rcases hh with ⟨-, h1⟩ | ⟨h1, -⟩
    · exact h1
    · have := HL.out; omega
  subst he
  have B1 := Lib.hid (B8.alloc w0 (.cells #[.slice Ae ne ce, .slice Az nz cz] 24))
  clear hh L1
  go_wp2_with fail
  go_ret
  exact ⟨rfl, B0.out.trans B1.out⟩
set_option maxHeartbeats 4000000 in
set_option maxRecDepth 100000 in
theorem equals_no1 (h : Gr w b d) (hy : Nm w A n c Y) (ha : Nm w Aa na ca X) (hd : Nm w Ad nd cd M) (hY : ¬ El d.P d.Q Y) (he : Nm w Ae ne ce E) (lE : dl E ≤ 64) (hz : Nm w Az nz cz Z) (lZ : dl Z ≤ 64) :
    Calls Tryz.prog 20 #[.pointer (some ⟨b, 0, none⟩), .slice Ac nc cc, .slice A n c, .slice Aa na ca, .slice Ad nd cd, .agg #[.slice Ae ne ce, .slice Az nz cz]] w (ErrP 8 w) := by
  have q8 := ne_err8 8
  have EY := Lib.hid hY
  have HG := Lib.hid h
  have HY := Lib.hid hy
  have HA := Lib.hid ha
  have HD := Lib.hid hd
  have HE := Lib.hid he
  have HZ := Lib.hid hz
  have EG := Lib.hid h.el
  have q := ne_nil8
  have B0 := Lib.hid (B8.alloc w (.cells #[.slice Ae ne ce, .slice Az nz cz] 33))
  obtain ⟨w0, hw0⟩ : ∃ w0, w.alloc (.cells #[.slice Ae ne ce, .slice Az nz cz] 33) = w0 := ⟨_, rfl⟩
  have C0 := pf_box w (.slice Ae ne ce) (.slice Az nz cz)
  rw [hw0] at B0 C0
  have x0 := C0.1
  have x1 := C0.2
  have CC := Lib.hid C0
  have hsz : w0.heap.size = w.heap.size + 1 := by rw [← hw0]; simp
  have LT := Lib.hid (show w.heap.size < w0.heap.size by omega)
  clear h hy hY ha hd he hz C0
  go_enter Tryz.func20, Tryz.ntmps20
  go_wp2_with fail
  have L1 := refusal2 (b := b) (B0.out.nm HE.out) (B0.out.nm HZ.out)
  rw [hsz] at L1
  refine L1.mono ?_
  rintro e w1 ⟨hh, rfl⟩
  have he : e = .returned .nilIface := by
    rcases hh with ⟨h1, -⟩ | ⟨-, h1⟩
    · omega
    · exact h1
  subst he
  clear hh L1 x0 x1
  have B1 := B8.alloc w0 (.cells #[.slice Ae ne ce, .slice Az nz cz] 24)
  obtain ⟨W, hW⟩ : ∃ W, w0.alloc (.cells #[.slice Ae ne ce, .slice Az nz cz] 24) = W := ⟨_, rfl⟩
  rw [hW] at B1
  have BD := B1.trans (B8.drew W)
  have BD1 := Lib.hid BD
  have v0 := (BD.cell (o := 0) LT.out).trans CC.out.1
  have v1 := (BD.cell (o := 1) LT.out).trans CC.out.2
  have B1h := Lib.hid B1
  clear B1 BD
  go_wp2_with fail
  go_region_law (first
    | (go_simp; go_at_call 51; (with_reducible refine (gg_any (BD1.out.gr (B0.out.gr HG.out))).mono ?_); rintro e u1 ⟨G1, g1, gc1, rfl, kg, bg, -⟩; have BG := Lib.hid (BD1.out.trans (show B8 _ u1 from bg)); have KG := Lib.hid kg; have t0 := (BG.out.cell (o := 0) LT.out).trans CC.out.1; have t1 := (BG.out.cell (o := 1) LT.out).trans CC.out.2; clear kg bg)
    | (go_simp; go_at_call 50; (with_reducible refine (begun_no (BG.out.gr0 (B0.out.gr HG.out).toGr0) KG.out.nm (BG.out.nm (B0.out.nm HY.out)) (fun k => absurd k.2 EY.out) (BG.out.nm (B0.out.nm HE.out)) (BG.out.nm (B0.out.nm HZ.out)) lZ).mono ?_); rintro e u2 ⟨rfl, bb⟩; have BB := Lib.hid (B0.out.trans (BG.out.trans bb)); clear bb))
  all_goals
    clear v0 v1 t0 t1
    go_wp2_with fail
    go_ret
    exact ⟨rfl, BB.out⟩
set_option maxHeartbeats 4000000 in
set_option maxRecDepth 100000 in
theorem equals_no2 (h : Gr w b d) (hy : Nm w A n c Y) (ha : Nm w Aa na ca X) (hd : Nm w Ad nd cd M) (hY : El d.P d.Q Y) (hX : ¬ (El d.P d.Q X ∧ El d.P d.Q M)) (he : Nm w Ae ne ce E) (lE : dl E ≤ 64) (hz : Nm w Az nz cz Z) (lZ : dl Z ≤ 64) :
    Calls Tryz.prog 20 #[.pointer (some ⟨b, 0, none⟩), .slice Ac nc cc, .slice A n c, .slice Aa na ca, .slice Ad nd cd, .agg #[.slice Ae ne ce, .slice Az nz cz]] w (ErrP 8 w) := by
  have q8 := ne_err8 8
  have EY := Lib.hid hY
  have EX := Lib.hid hX
  have HG := Lib.hid h
  have HY := Lib.hid hy
  have HA := Lib.hid ha
  have HD := Lib.hid hd
  have HE := Lib.hid he
  have HZ := Lib.hid hz
  have EG := Lib.hid h.el
  have q := ne_nil8
  have B0 := Lib.hid (B8.alloc w (.cells #[.slice Ae ne ce, .slice Az nz cz] 33))
  obtain ⟨w0, hw0⟩ : ∃ w0, w.alloc (.cells #[.slice Ae ne ce, .slice Az nz cz] 33) = w0 := ⟨_, rfl⟩
  have C0 := pf_box w (.slice Ae ne ce) (.slice Az nz cz)
  rw [hw0] at B0 C0
  have x0 := C0.1
  have x1 := C0.2
  have CC := Lib.hid C0
  have hsz : w0.heap.size = w.heap.size + 1 := by rw [← hw0]; simp
  have LT := Lib.hid (show w.heap.size < w0.heap.size by omega)
  clear h hy hY hX ha hd he hz C0
  go_enter Tryz.func20, Tryz.ntmps20
  go_wp2_with fail
  have L1 := refusal2 (b := b) (B0.out.nm HE.out) (B0.out.nm HZ.out)
  rw [hsz] at L1
  refine L1.mono ?_
  rintro e w1 ⟨hh, rfl⟩
  have he : e = .returned .nilIface := by
    rcases hh with ⟨h1, -⟩ | ⟨-, h1⟩
    · omega
    · exact h1
  subst he
  clear hh L1 x0 x1
  have B1 := B8.alloc w0 (.cells #[.slice Ae ne ce, .slice Az nz cz] 24)
  obtain ⟨W, hW⟩ : ∃ W, w0.alloc (.cells #[.slice Ae ne ce, .slice Az nz cz] 24) = W := ⟨_, rfl⟩
  rw [hW] at B1
  have BD := B1.trans (B8.drew W)
  have BD1 := Lib.hid BD
  have v0 := (BD.cell (o := 0) LT.out).trans CC.out.1
  have v1 := (BD.cell (o := 1) LT.out).trans CC.out.2
  have B1h := Lib.hid B1
  clear B1 BD
  go_wp2_with fail
  go_region_law (first
    | (go_simp; go_at_call 51; (with_reducible refine (gg_any (BD1.out.gr (B0.out.gr HG.out))).mono ?_); rintro e u1 ⟨G1, g1, gc1, rfl, kg, bg, -⟩; have BG := Lib.hid (BD1.out.trans (show B8 _ u1 from bg)); have KG := Lib.hid kg; have t0 := (BG.out.cell (o := 0) LT.out).trans CC.out.1; have t1 := (BG.out.cell (o := 1) LT.out).trans CC.out.2; clear kg bg)
    | (go_simp; go_at_call 50; (with_reducible refine (begun_ok (BG.out.gr0 (B0.out.gr HG.out).toGr0) KG.out.nm (BG.out.nm (B0.out.nm HY.out)) EG.out EY.out (BG.out.nm (B0.out.nm HE.out)) lE (BG.out.nm (B0.out.nm HZ.out)) lZ).mono ?_); rintro e u2 ⟨G2, g2, gc2, rfl, kb, bb⟩; have BB := Lib.hid (BG.out.trans bb); have KB := Lib.hid kb; have r0 := (BB.out.cell (o := 0) LT.out).trans CC.out.1; have r1 := (BB.out.cell (o := 1) LT.out).trans CC.out.2; clear kb bb))
  all_goals
    clear v0 v1 t0 t1
    go_wp2_with fail
    refine (begun_no (BB.out.gr0 (B0.out.gr HG.out).toGr0) (BB.out.nm (B0.out.nm HA.out)) (BB.out.nm (B0.out.nm HD.out)) EX.out (BB.out.nm (B0.out.nm HE.out)) (BB.out.nm (B0.out.nm HZ.out)) lZ).mono ?_
    rintro e u3 ⟨rfl, b3⟩
    have B3 := Lib.hid (B0.out.trans (BB.out.trans b3))
    clear b3 r0 r1
    go_wp2_with fail
    go_ret
    exact ⟨rfl, B3.out⟩
set_option maxHeartbeats 8000000 in
set_option maxRecDepth 100000 in
theorem equals_ok (h : Gr w b d) (hT : Tabs w) (hc : Bz w Ac nc ctx) (hnc : nc ≤ 140737488355328) (hy : Nm w A n c Y) (ha : Nm w Aa na ca X) (hd : Nm w Ad nd cd M) (hY : El d.P d.Q Y) (hX : El d.P d.Q X) (hM : El d.P d.Q M) (he : Nm w Ae ne ce E) (lE : dl E ≤ 64) (hz : Nm w Az nz cz Z) (lZ : dl Z ≤ 64) :
    Calls Tryz.prog 20 #[.pointer (some ⟨b, 0, none⟩), .slice Ac nc cc, .slice A n c, .slice Aa na ca, .slice Ad nd cd, .agg #[.slice Ae ne ce, .slice Az nz cz]] w (VerP E (ceE d.P d.Q d.G ctx Y X M Z E) w) := by
  have HT := Lib.hid hT
  have HC := Lib.hid hc
  have EY := Lib.hid hY
  have EX := Lib.hid hX
  have EM := Lib.hid hM
  have HG := Lib.hid h
  have HY := Lib.hid hy
  have HA := Lib.hid ha
  have HD := Lib.hid hd
  have HE := Lib.hid he
  have HZ := Lib.hid hz
  have EG := Lib.hid h.el
  have q := ne_nil8
  have B0 := Lib.hid (B8.alloc w (.cells #[.slice Ae ne ce, .slice Az nz cz] 33))
  obtain ⟨w0, hw0⟩ : ∃ w0, w.alloc (.cells #[.slice Ae ne ce, .slice Az nz cz] 33) = w0 := ⟨_, rfl⟩
  have C0 := pf_box w (.slice Ae ne ce) (.slice Az nz cz)
  rw [hw0] at B0 C0
  have x0 := C0.1
  have x1 := C0.2
  have CC := Lib.hid C0
  have hsz : w0.heap.size = w.heap.size + 1 := by rw [← hw0]; simp
  have LT := Lib.hid (show w.heap.size < w0.heap.size by omega)
  clear h hT hc hy hY hX hM ha hd he hz C0
  go_enter Tryz.func20, Tryz.ntmps20
  go_wp2_with fail
  have L1 := refusal2 (b := b) (B0.out.nm HE.out) (B0.out.nm HZ.out)
  rw [hsz] at L1
  refine L1.mono ?_
  rintro e w1 ⟨hh, rfl⟩
  have he : e = .returned .nilIface := by
    rcases hh with ⟨h1, -⟩ | ⟨-, h1⟩
    · omega
    · exact h1
  subst he
  clear hh L1 x0 x1
  have B1 := B8.alloc w0 (.cells #[.slice Ae ne ce, .slice Az nz cz] 24)
  obtain ⟨W, hW⟩ : ∃ W, w0.alloc (.cells #[.slice Ae ne ce, .slice Az nz cz] 24) = W := ⟨_, rfl⟩
  rw [hW] at B1
  have BD := B1.trans (B8.drew W)
  have BD1 := Lib.hid BD
  have v0 := (BD.cell (o := 0) LT.out).trans CC.out.1
  have v1 := (BD.cell (o := 1) LT.out).trans CC.out.2
  have B1h := Lib.hid B1
  clear B1 BD
  go_wp2_with fail
  go_region_law (first
    | (go_simp; go_at_call 51; (with_reducible refine (gg_any (BD1.out.gr (B0.out.gr HG.out))).mono ?_); rintro e u1 ⟨G1, g1, gc1, rfl, kg, bg, -⟩; have BG := Lib.hid (BD1.out.trans (show B8 _ u1 from bg)); have KG := Lib.hid kg; have t0 := (BG.out.cell (o := 0) LT.out).trans CC.out.1; have t1 := (BG.out.cell (o := 1) LT.out).trans CC.out.2; clear kg bg)
    | (go_simp; go_at_call 50; (with_reducible refine (begun_ok (BG.out.gr0 (B0.out.gr HG.out).toGr0) KG.out.nm (BG.out.nm (B0.out.nm HY.out)) EG.out EY.out (BG.out.nm (B0.out.nm HE.out)) lE (BG.out.nm (B0.out.nm HZ.out)) lZ).mono ?_); rintro e u2 ⟨G2, g2, gc2, rfl, kb, bb⟩; have BB := Lib.hid (BG.out.trans bb); have KB := Lib.hid kb; have r0 := (BB.out.cell (o := 0) LT.out).trans CC.out.1; have r1 := (BB.out.cell (o := 1) LT.out).trans CC.out.2; clear kb bb))
  all_goals
    clear v0 v1 t0 t1
    go_wp2_with fail
    refine (begun_ok (BB.out.gr0 (B0.out.gr HG.out).toGr0) (BB.out.nm (B0.out.nm HA.out)) (BB.out.nm (B0.out.nm HD.out)) EX.out EM.out (BB.out.nm (B0.out.nm HE.out)) lE (BB.out.nm (B0.out.nm HZ.out)) lZ).mono ?_
    rintro e u3 ⟨G3, g3, gc3, rfl, k3, b3⟩
    have BE := Lib.hid (BB.out.trans b3)
    have KB3 := Lib.hid (b3.cn KB.out)
    have K3 := Lib.hid k3
    have s0 := (BE.out.cell (o := 0) LT.out).trans CC.out.1
    have BA := BE.out.trans ((B8.alloc u3 (.cells #[.slice A n c, .slice Aa na ca, .slice Ad nd cd, .slice G2 g2 gc2, .slice G3 g3 gc3] 24)).trans (B8.drew _))
    have s1 := ((BE.out.trans (B8.alloc u3 (.cells #[.slice A n c, .slice Aa na ca, .slice Ad nd cd, .slice G2 g2 gc2, .slice G3 g3 gc3] 24))).cell (o := 0) LT.out).trans CC.out.1
    have BA1 := Lib.hid BA
    clear BA b3 k3 r0 r1
    go_wp2_with fail
    go_region_law (first
      | (go_simp; go_at_call 43; (with_reducible refine (chal5d (BE.out.gr0 (B0.out.gr HG.out).toGr0) (BE.out.tabs (B0.out.tabs HT.out)) ⟨#[101, 113, 117, 97, 108]⟩ (by decide) (BE.out.bz (B0.out.bz HC.out)) hnc (BE.out.nm (B0.out.nm HY.out)) (BE.out.nm (B0.out.nm HA.out)) (BE.out.nm (B0.out.nm HD.out)) KB3.out.nm K3.out.nm).mono ?_); rintro e u4 ⟨G4, g4, gc4, rfl, kc, bc, -⟩; have BC := Lib.hid (BA1.out.trans (show B8 _ u4 from bc)); have KC := Lib.hid kc; have p0 := (BC.out.cell (o := 0) LT.out).trans CC.out.1; clear kc bc)
      | (go_simp; go_at_call 52; (with_reducible refine (verdict_any (BC.out.nm (B0.out.nm HE.out)) KC.out.nm).mono ?_); rintro e u5 ⟨⟨v, rfl, hv⟩, bv⟩; have BV := Lib.hid (B0.out.trans (BC.out.trans bv)); have HV := Lib.hid hv; clear hv bv))
    all_goals
      go_wp2_with fail
      go_ret
      exact ⟨⟨v, rfl, HV.out⟩, BV.out⟩
end
end Go.Proofs.YtloibmemlkfkfaaGreatDoor
/-
  The document's examples of layer 8: up answers true.
-/
namespace Go.Proofs.YtloibmemlkfkfaaGreatDoor
open Go.RowKit
set_option linter.unusedVariables false
theorem lit8 (w : World) {x : Int} (h0 : 0 ≤ x) (h1 : x < W) : Nm (w.alloc (.cells #[.int .u64 x] 69)) (some ⟨w.heap.size, 0, none⟩) 1 1 x :=
  Nm.one (Row.new w 69 .u64 [x]) h0 h1 (by omega) (by omega)
theorem nil8 (w : World) : Nm w none 0 0 0 := (Cn.nil w).nm
theorem bz_nil (w : World) : Bz w none 0 [] := ⟨Rd.nil _ _ _, fun x h => by cases h⟩
theorem dl_sm8 {x : Int} (h0 : 0 ≤ x) (h1 : x < W) : dl x ≤ 64 := by
  have h := dl_le h0 (k := 1) (by rwa [show W ^ 1 = W by decide])
  omega
/-- A letter of a text, laid out and marked. -/
theorem bz_c (w : World) (x : Int) (h0 : 0 ≤ x) (h1 : x < 256) (fr : Nat × Nat) : Bz (w.alloc (.cells #[.int .u8 x] 5 fr)) (some ⟨w.heap.size, 0, none⟩) 1 [x] :=
  ⟨⟨rfl, fun _ => ⟨w.heap.size, 0, rfl, by simp, fun j y hy => by
    rw [Nat.zero_add, Joins.cell_alloc_mark_at w _ _ fr w.heap.size j rfl]
    match j, hy with
    | 0, hy => simp at hy; subst hy; rfl⟩⟩, fun y hy => by rw [List.mem_singleton] at hy; subst hy; exact ⟨h0, h1⟩⟩
/-- What was proved holds. -/
theorem kc_holds {P Q G : Int} {lab ctx : List Int} {S K E : Int} (hP : 2 ≤ P) (hQ : 1 ≤ Q) (hG : El P Q G) (s0 : 0 ≤ S) (k0 : 0 ≤ K) (hE : E = knE P Q G lab ctx S K) :
    E = kcE P Q G lab ctx (gx P Q G S) (respN Q E S K) E := by
  have e0 : 0 ≤ E := by rw [hE]; exact (chl_nn (by omega)).1
  unfold kcE
  rw [back_holds hP hQ hG s0 e0 k0]
  exact hE
theorem ce_holds {P Q G : Int} {ctx : List Int} {A S K E : Int} (hP : 2 ≤ P) (hQ : 1 ≤ Q) (hG : El P Q G) (hA : El P Q A) (s0 : 0 ≤ S) (k0 : 0 ≤ K) (hE : E = eqE P Q G ctx A S K) :
    E = ceE P Q G ctx (gx P Q G S) A (gx P Q A S) (respN Q E S K) E := by
  have e0 : 0 ≤ E := by rw [hE]; exact (chl_nn (by omega)).1
  unfold ceE
  rw [back_holds hP hQ hG s0 e0 k0, back_holds hP hQ hA s0 e0 k0]
  exact hE
theorem VerP.yes {E C : Int} {w w' : World} {e : Ending} (h : VerP E C w e w') (he : E = C) : e = .returned .nilIface ∧ B8 w w' := by
  obtain ⟨⟨v, rfl, hv⟩, hb⟩ := h
  rcases hv with ⟨-, rfl⟩ | ⟨hn, -⟩
  · exact ⟨rfl, hb⟩
  · exact absurd he hn
set_option maxRecDepth 100000 in
theorem eq_err8 (c : Int) : ∀ w : World, (binOp .eql 35 (.iface 71 (.int .i64 c)) (.iface 71 (.int .i64 c))).run Tryz.prog w = .ok (.bool (c == c)) w := fun _ => rfl
set_option maxRecDepth 100000 in
theorem eq_nil8 : ∀ w : World, (binOp .eql 35 .nilIface .nilIface).run Tryz.prog w = .ok (.bool true) w := fun _ => rfl
theorem not_el0 {P Q : Int} : ¬ El P Q 0 := fun h => by have := h.1; omega
set_option maxHeartbeats 8000000 in
set_option maxRecDepth 100000 in
theorem up8_any {w : World} (hT : Tabs w) : Calls Tryz.prog 8 #[] w (AnsV (.bool true) w) := by
  have he := ne_nil8
  have he1 := eq_nil8
  have he2 : ∀ w : World, (binOp .eql 35 (.iface 71 (.int .i64 1)) (.iface 71 (.int .i64 1))).run Tryz.prog w = .ok (.bool true) w := fun w => eq_err8 1 w
  have he3 : ∀ w : World, (binOp .eql 35 (.iface 71 (.int .i64 8)) (.iface 71 (.int .i64 8))).run Tryz.prog w = .ok (.bool true) w := fun w => eq_err8 8 w
  have HT := Lib.hid hT
  clear hT
  go_enter Tryz.func8, Tryz.ntmps8
  go_wp2_with fail
  refine (known_any 0 (by decide) w).mono ?_
  rintro e w1 ⟨A, n, c, A', n', c', rfl, kg, b1⟩
  have B1 := Lib.hid (show B8 w w1 from b1)
  have KGG := Lib.hid kg
  clear b1 kg
  go_wp2_with fail
  refine (kg_new (kix_lt 0) KGG.out).mono ?_
  rintro e w2 ⟨b, d, rfl, gr, -, -, -, b2, -, -⟩
  have q2 := g8_eq b
  have B2 := Lib.hid (B1.out.trans (show B8 w1 w2 from b2))
  have GR := Lib.hid gr
  have SF := Lib.hid gr.safe
  have EG := Lib.hid gr.el
  clear b2 gr KGG B1
  have b3 := B8.alloc w2 (.cells #[.int .u64 5] 69)
  have N5 := Lib.hid (lit8 w2 (x := 5) (by decide) (by decide))
  have B3 := Lib.hid b3
  clear b3
  go_wp2_with fail
  refine (gx_base (B3.out.gr GR.out) N5.out (dl_sm8 (by decide) (by decide))).mono ?_
  rintro e w3 ⟨Ay, ny, cy, rfl, ky, b4, -⟩
  have B4 := Lib.hid (B3.out.trans (show B8 _ w3 from b4))
  have KY := Lib.hid ky
  clear ky b4 N5 B3
  have cv1 : (convert 22 22 (.slice (some ⟨w3.heap.size, 0, none⟩) 1 1)).run Tryz.prog (w3.alloc (.cells #[.int .u8 99] 5)) = .ok (.slice (some ⟨w3.heap.size, 0, none⟩) 1 1) (w3.alloc (.cells #[.int .u8 99] 5 (1, 2))) :=
    Joins.run_convert_bytes_const_at w3 _ _ _ 1 1 w3.heap.size rfl Tryz.underlying22 Tryz.underlying5
  have BC := bz_c w3 99 (by decide) (by decide) (1, 2)
  have bm := B8.alloc w3 (.cells #[.int .u8 99] 5 (1, 2))
  obtain ⟨w4, hw4⟩ : ∃ w4, w3.alloc (.cells #[.int .u8 99] 5 (1, 2)) = w4 := ⟨_, rfl⟩
  rw [hw4] at cv1 BC bm
  have s4 : w4.heap.size = w3.heap.size + 1 := by rw [← hw4]; simp
  have M5 := lit8 w4 (x := 5) (by decide) (by decide)
  have b5 := B8.alloc w4 (.cells #[.int .u64 5] 69)
  have M9 := lit8 (w4.alloc (.cells #[.int .u64 5] 69)) (x := 9) (by decide) (by decide)
  have b9 := B8.alloc (w4.alloc (.cells #[.int .u64 5] 69)) (.cells #[.int .u64 9] 69)
  have s5 : (w4.alloc (.cells #[.int .u64 5] 69)).heap.size = w3.heap.size + 1 + 1 := by simp [s4]
  rw [s4] at M5
  rw [s5] at M9
  have BD := Lib.hid (bm.trans (b5.trans b9))
  have BCh := Lib.hid ((b5.trans b9).bz BC)
  have M5h := Lib.hid (b9.nm M5)
  have M9h := Lib.hid M9
  have S4 := Lib.hid s4
  clear BC bm M5 b5 M9 b9 s5 hw4
  go_wp2_with fail
  clear s4
  refine (know_ok (BD.out.gr (B4.out.gr GR.out)) (BD.out.tabs (B4.out.tabs (B2.out.tabs HT.out))) BCh.out (by decide) M5h.out (dl_sm8 (by decide) (by decide)) M9h.out (dl_sm8 (by decide) (by decide))).mono ?_
  rintro e w5 ⟨Ae, ne, ce, Az, nz, cz, rfl, ke, kz, b6, -, -⟩
  have B6 := Lib.hid (B4.out.trans (BD.out.trans b6))
  have KY6 := Lib.hid ((BD.out.trans b6).cn KY.out)
  have KE := Lib.hid ke
  have KZ := Lib.hid kz
  clear ke kz b6 BD BCh M5h M9h KY B4
  have px := pf_box w5 (.slice Ae ne ce) (.slice Az nz cz)
  have bp := B8.alloc w5 (.cells #[.slice Ae ne ce, .slice Az nz cz] 33)
  obtain ⟨w6, hw6⟩ : ∃ w6, w5.alloc (.cells #[.slice Ae ne ce, .slice Az nz cz] 33) = w6 := ⟨_, rfl⟩
  have s6 : w6.heap.size = w5.heap.size + 1 := by rw [← hw6]; simp
  rw [hw6] at px bp
  have PX := Lib.hid px
  have BP := Lib.hid bp
  have cv2 : (convert 22 22 (.slice (some ⟨w5.heap.size + 1, 0, none⟩) 1 1)).run Tryz.prog (w6.alloc (.cells #[.int .u8 99] 5)) = .ok (.slice (some ⟨w5.heap.size + 1, 0, none⟩) 1 1) (w6.alloc (.cells #[.int .u8 99] 5 (1, 2))) :=
    Joins.run_convert_bytes_const_at w6 _ _ _ 1 1 (w5.heap.size + 1) (by rw [s6]) Tryz.underlying22 Tryz.underlying5
  have BC := bz_c w6 99 (by decide) (by decide) (1, 2)
  rw [s6] at BC
  have bm := B8.alloc w6 (.cells #[.int .u8 99] 5 (1, 2))
  have LT5 := Lib.hid (show w5.heap.size < w6.heap.size by omega)
  obtain ⟨w7, hw7⟩ : ∃ w7, w6.alloc (.cells #[.int .u8 99] 5 (1, 2)) = w7 := ⟨_, rfl⟩
  rw [hw7] at cv2 BC bm
  have x0 := (bm.cell (o := 0) LT5.out).trans PX.out.1
  have x1 := (bm.cell (o := 1) LT5.out).trans PX.out.2
  have BC7 := Lib.hid BC
  have BM := Lib.hid (BP.out.trans bm)
  have BM6 := Lib.hid bm
  clear px bp bm BC
  go_wp2_with fail
  refine (knows_ok (BM.out.gr (B6.out.gr GR.out)) (BM.out.tabs (B6.out.tabs (B2.out.tabs HT.out))) BC7.out (by decide) (BM.out.cn KY6.out).nm (gx_el SF.out.p2 SF.out.q1 EG.out 5) (BM.out.cn KE.out).nm (KE.out.d64 (chl_nn (by have := SF.out.q1; omega)).2 (by have := GR.out.lq; omega)) (BM.out.cn KZ.out).nm (KZ.out.d64 (Int.emod_lt_of_pos _ (by have := SF.out.q1; omega)) (by have := GR.out.lq; omega))).mono ?_
  rintro e w8 hv
  obtain ⟨rfl, b8⟩ := hv.yes (kc_holds SF.out.p2 SF.out.q1 EG.out (by decide) (by decide) rfl)
  have B8' := Lib.hid (BM.out.trans b8)
  have B68 := Lib.hid (BM6.out.trans b8)
  clear hv b8 x0 x1 BC7 cv1 cv2
  go_wp2_with fail
  refine know_nil.mono ?_
  rintro e w9 ⟨rfl, b9⟩
  have b10 := B68.out.trans (b9.trans (B8.alloc w9 (.cells #[.slice none 0 0, .slice none 0 0] 33)))
  have y0 := (b10.cell (o := 0) LT5.out).trans PX.out.1
  have y1 := (b10.cell (o := 1) LT5.out).trans PX.out.2
  have B10 := Lib.hid (BP.out.trans b10)
  have LQ := Lib.hid (show dl d.Q ≤ 64 by have := GR.out.lq; omega)
  have Q0 := Lib.hid (show 0 < d.Q by have := SF.out.q1; omega)
  clear b9 b10 hw6 hw7
  go_wp2_with fail
  refine (knows_no (B10.out.gr (B6.out.gr GR.out)) (nil8 _) not_el0 (B10.out.cn KE.out).nm (KE.out.d64 (chl_nn Q0.out).2 LQ.out) (B10.out.cn KZ.out).nm (KZ.out.d64 (Int.emod_lt_of_pos _ Q0.out) LQ.out)).mono ?_
  rintro e w11 ⟨rfl, b11⟩
  have BZ := Lib.hid (B2.out.trans (B6.out.trans (B10.out.trans b11)))
  clear b11 y0 y1
  go_wp2_with fail
  go_ret
  exact ⟨rfl, BZ.out⟩
end Go.Proofs.YtloibmemlkfkfaaGreatDoor
/-
  What the walks of layer 8's laws have in common.
-/
namespace Go.Proofs.YtloibmemlkfkfaaGreatDoor
open Go.RowKit
set_option linter.unusedVariables false
set_option maxRecDepth 100000 in
theorem gne8 (b : Nat) : ∀ w : World, (binOp .neq 26 (.pointer (some ⟨b, 0, none⟩)) (.pointer none)).run Tryz.prog w = .ok (.bool true) w := fun _ => rfl
set_option maxRecDepth 100000 in
theorem meq8 (b : Nat) : ∀ w : World, (binOp .eql 65 (.pointer (some ⟨b, 0, none⟩)) (.pointer none)).run Tryz.prog w = .ok (.bool false) w := fun _ => rfl
theorem cn_len {w : World} {A : Option Addr} {n c : Nat} {N : Int} (h : Cn w A n c N) : n = dl N := h.len_
theorem dl_pos {N : Int} (h : 0 < N) : dl N ≠ 0 := fun e => by
  have := (dl_zero (show 0 ≤ N by omega)).1 e
  omega
theorem IsRow.bz8 {w : World} {a : Option Addr} {len cap : Nat} {zs : List Int} (h : IsRow .u8 1 w a len cap zs) : Bz w a len (zs.take len) ∧ len ≤ 140737488355328 :=
  ⟨⟨h.rd, fun x hx => by have := bounds_u8 (h.wf x hx); omega⟩, by have := h.nc.1; have := h.nc.2; omega⟩
/-- Two numbers that are the same are told alike. -/
theorem same8 {w : World} {A A' : Option Addr} {n c n' c' : Nat} {N M : Int} (h : Cn w A n c N) (h' : Cn w A' n' c' M) (e : N = M) :
    Calls Tryz.prog 36 #[.slice A n c, .slice A' n' c'] w (AnsB true w) := by
  subst e
  have e1 := h.len_
  have e2 := h'.len_
  obtain rfl : n = n' := by omega
  exact same_yes h.rd h'.rd h.c60
end Go.Proofs.YtloibmemlkfkfaaGreatDoor
