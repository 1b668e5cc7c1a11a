/-
  The document's group: what Mul, Exp and Inverse answer.
-/
import Derived.Test.YtloibmemlkfkfaaGreatDoorR4
import Derived.Test.YtloibmemlkfkfaaGreatDoorDoc
import Derived.Test.YtloibmemlkfkfaaGreatDoorMxx
namespace Go.Proofs.YtloibmemlkfkfaaGreatDoor
open Go.RowKit
set_option linter.unusedVariables false
section
variable {w : World} {b k : Nat} {r : Rgd} {A A' : Option Addr} {n c n' c' : Nat} {X Y : Int}
set_option maxHeartbeats 4000000 in
theorem rgm_any (h : Rg w b r k) (lp : r.nP ≤ 300) (p0 : 0 < r.P) (ha : Rn w A n c X) (hb : Rn w A' n' c' Y) (hn : n ≤ 300) (hn' : n' ≤ 300) :
    Calls Tryz.prog 89 #[.pointer (some ⟨b, 0, none⟩), .slice A n c, .slice A' n' c'] w (AnsN (X * Y % r.P) w) := by
  have q0 := h.c0
  have bd := below_dr w
  have HA := Lib.hid (ha.below bd)
  have HB := Lib.hid (hb.below bd)
  have HP := Lib.hid (h.p.below bd)
  have BD := Lib.hid bd
  have LT := Lib.hid h.lt
  have HX := Lib.hid ha.pos
  have HY := Lib.hid hb.pos
  have lX := Lib.hid ha.len_
  have lY := Lib.hid hb.len_
  clear bd h ha hb
  go_enter Tryz.func89, Tryz.ntmps89
  go_wp2_with fail
  go_region_held (fun w' => w'.cell? ⟨b, 0, none⟩ = some (.slice r.AP r.nP r.cP)) (first | exact q0 | exact r0 | exact s0 | go_keep | assumption)
    (first
    | (go_at_call 74; (with_reducible refine (rmul_any HA.out HB.out (by omega) (by omega)).mono ?_); rintro e w1 ⟨B1, m1, c1, rfl, k1, b1⟩; have hm1 : m1 ≤ 1000 := (by have h1 := k1.len_; have h2 := dr_mul HX.out HY.out; have h3 := lX.out; have h4 := lY.out; omega); have HK1 := Lib.hid k1; have HP1 := Lib.hid (HP.out.below b1); have r0 := (b1.cell (p := ⟨b, 0, none⟩) LT.out).trans q0; have LT1 := Lib.hid (Nat.lt_of_lt_of_le LT.out b1.size); have B01 := Lib.hid b1; clear k1 b1)
    | (go_at_call 83; (with_reducible refine (rrest_any HK1.out HP1.out hm1 (by omega) p0).mono ?_); rintro e w2 ⟨B2, m2, c2, rfl, k2, b2⟩; have s0 := (b2.cell (p := ⟨b, 0, none⟩) LT1.out).trans r0; have HK2 := Lib.hid k2; have B02 := Lib.hid (B01.out.trans (b2.mono B01.out.size)); clear k2 b2))
  all_goals
    go_wp2_with fail
    go_ret
    exact ⟨_, _, _, rfl, HK2.out, BD.out.trans (B02.out.mono BD.out.size)⟩
set_option maxHeartbeats 4000000 in
theorem rgx_any (h : Rg w b r k) (lp : r.nP ≤ 300) (lq : r.nQ ≤ 300) (p0 : 0 < r.P) (q0' : 0 < r.Q) (ha : Rn w A n c X) (hb : Rn w A' n' c' Y) (hn : n ≤ 300) (hn' : n' ≤ 1000) :
    Calls Tryz.prog 46 #[.pointer (some ⟨b, 0, none⟩), .slice A n c, .slice A' n' c'] w (AnsN (gx r.P r.Q X Y) w) := by
  have q0 := h.c0
  have q1 := h.c1
  have bd := below_dr w
  have HA := Lib.hid (ha.below bd)
  have HB := Lib.hid (hb.below bd)
  have HP := Lib.hid (h.p.below bd)
  have HQ := Lib.hid (h.q.below bd)
  have BD := Lib.hid bd
  have LT := Lib.hid h.lt
  have HY := Lib.hid hb.pos
  have lQ := Lib.hid h.q.len_
  clear bd h ha hb
  go_enter Tryz.func46, Tryz.ntmps46
  go_wp2_with fail
  go_region_held (fun w' => w'.cell? ⟨b, 0, none⟩ = some (.slice r.AP r.nP r.cP) ∧ w'.cell? ⟨b, 1, none⟩ = some (.slice r.AQ r.nQ r.cQ)) (first | exact ⟨q0, q1⟩ | exact ⟨r0, r1⟩ | exact ⟨s0, s1⟩ | go_keep | assumption)
    (first
    | (go_at_call 83; (with_reducible refine (rrest_any HB.out HQ.out hn' (by omega) q0').mono ?_); rintro e w1 ⟨B1, m1, c1, rfl, k1, b1⟩; have hm1 : m1 ≤ 300 := (by have h1 := k1.len_; have h2 := dr_rest (N := Y) q0'; have h3 := lQ.out; omega); have HK1 := Lib.hid k1; have HP1 := Lib.hid (HP.out.below b1); have HA1 := Lib.hid (HA.out.below b1); have r0 := (b1.cell (p := ⟨b, 0, none⟩) LT.out).trans q0; have r1 := (b1.cell (p := ⟨b, 1, none⟩) LT.out).trans q1; have LT1 := Lib.hid (Nat.lt_of_lt_of_le LT.out b1.size); have B01 := Lib.hid b1; clear k1 b1)
    | (go_at_call 86; (with_reducible refine (rexp_any HA1.out HK1.out HP1.out hn hm1 lp p0).mono ?_); rintro e w2 ⟨B2, m2, c2, rfl, k2, b2⟩; have s0 := (b2.cell (p := ⟨b, 0, none⟩) LT1.out).trans r0; have s1 := (b2.cell (p := ⟨b, 1, none⟩) LT1.out).trans r1; have HK2 := Lib.hid k2; have B02 := Lib.hid (B01.out.trans (b2.mono B01.out.size)); clear k2 b2))
  all_goals
    go_wp2_with fail
    go_ret
    exact ⟨_, _, _, rfl, HK2.out, BD.out.trans (B02.out.mono BD.out.size)⟩
set_option maxHeartbeats 4000000 in
theorem rgi_any (h : Rg w b r k) (lp : r.nP ≤ 300) (lq : r.nQ ≤ 300) (p0 : 0 < r.P) (q0' : 1 ≤ r.Q) (ha : Rn w A n c X) (hn : n ≤ 300) :
    Calls Tryz.prog 90 #[.pointer (some ⟨b, 0, none⟩), .slice A n c] w (AnsN (iv r.P r.Q X) w) := by
  have q0 := h.c0
  have q1 := h.c1
  have bd := below_dr w
  have HA := Lib.hid (ha.below bd)
  have HP := Lib.hid (h.p.below bd)
  have HQ := Lib.hid (h.q.below bd)
  have BD := Lib.hid bd
  have LT := Lib.hid h.lt
  have lQ := Lib.hid h.q.len_
  clear bd h ha
  go_enter Tryz.func90, Tryz.ntmps90
  go_wp2_with fail
  go_region_held (fun w' => w'.cell? ⟨b, 0, none⟩ = some (.slice r.AP r.nP r.cP) ∧ w'.cell? ⟨b, 1, none⟩ = some (.slice r.AQ r.nQ r.cQ)) (first | exact ⟨q0, q1⟩ | exact ⟨r0, r1⟩ | exact ⟨s0, s1⟩ | exact ⟨t0, t1⟩ | go_keep | assumption)
    (first
    | (go_at_call 73; (with_reducible refine (rone_any _).mono ?_); rintro e w1 ⟨B1, m1, c1, rfl, k1, b1⟩; have HK1 := Lib.hid k1; have HP1 := Lib.hid (HP.out.below b1); have HQ1 := Lib.hid (HQ.out.below b1); have HA1 := Lib.hid (HA.out.below b1); have r0 := (b1.cell (p := ⟨b, 0, none⟩) LT.out).trans q0; have r1 := (b1.cell (p := ⟨b, 1, none⟩) LT.out).trans q1; have LT1 := Lib.hid (Nat.lt_of_lt_of_le LT.out b1.size); have B01 := Lib.hid b1; clear k1 b1)
    | (go_at_call 113; (with_reducible refine (rsub_any HQ1.out HK1.out (by omega) q0').mono ?_); rintro e w2 ⟨B2, m2, c2, rfl, k2, b2⟩; have hm2 : m2 ≤ 300 := (by have h1 := k2.len_; have h2 := dr_mono (show 0 ≤ r.Q - 1 by omega) (show r.Q - 1 ≤ r.Q by omega); have h3 := lQ.out; omega); have HK2 := Lib.hid k2; have HP2 := Lib.hid (HP1.out.below b2); have HA2 := Lib.hid (HA1.out.below b2); have s0 := (b2.cell (p := ⟨b, 0, none⟩) LT1.out).trans r0; have s1 := (b2.cell (p := ⟨b, 1, none⟩) LT1.out).trans r1; have LT2 := Lib.hid (Nat.lt_of_lt_of_le LT1.out b2.size); have B02 := Lib.hid (B01.out.trans (b2.mono B01.out.size)); clear k2 b2)
    | (go_at_call 86; (with_reducible refine (rexp_any HA2.out HK2.out HP2.out hn hm2 lp p0).mono ?_); rintro e w3 ⟨B3, m3, c3, rfl, k3, b3⟩; have t0 := (b3.cell (p := ⟨b, 0, none⟩) LT2.out).trans s0; have t1 := (b3.cell (p := ⟨b, 1, none⟩) LT2.out).trans s1; have HK3 := Lib.hid k3; have B03 := Lib.hid (B02.out.trans (b3.mono B02.out.size)); clear k3 b3))
  all_goals
    go_wp2_with fail
    go_ret
    exact ⟨_, _, _, rfl, HK3.out, BD.out.trans (B03.out.mono BD.out.size)⟩
end
end Go.Proofs.YtloibmemlkfkfaaGreatDoor
