/-
  Several texts in one: R4, R4M, R7a, R7b, R9a, R9b, R9c.
-/
import Derived.Test.YtkecfdeepmhggaaGreatDoc
import Derived.Test.YtkecfdeepmhggaaGreatGro
import Derived.Test.YtkecfdeepmhggaaGreatPkm
import Derived.Deep.RegionHeld3
import Derived.BigQuiet
import Derived.Deep.QuietTactic
import Derived.Test.YtkecfdeepmhggaaGreatMxx
import Derived.Test.YtkecfdeepmhggaaGreatPkf
import Derived.Test.YtkecfdeepmhggaaGreatNin
import Derived.Deep.RegionLaw
import Derived.Test.YtkecfdeepmhggaaGreatOwk
/-
  The document's group in memory; what its One and Is answer.
-/
namespace Go.Proofs.YtkecfdeepmhggaaGreat
open Go.RowKit
set_option linter.unusedVariables false
/-- Where the document's group has its numbers. -/
structure Rgd where
  AP : Option Addr
  nP : Nat
  cP : Nat
  AQ : Option Addr
  nQ : Nat
  cQ : Nat
  AG : Option Addr
  nG : Nat
  cG : Nat
  P : Int
  Q : Int
  G : Int
def Rgd.cells (r : Rgd) (k : Nat) : Array Value := #[.slice r.AP r.nP r.cP, .slice r.AQ r.nQ r.cQ, .slice r.AG r.nG r.cG, .int .i64 (k : Int)]
structure Rg (w : World) (b : Nat) (r : Rgd) (k : Nat) : Prop where
  row : w.heap[b]? = some (.cells (r.cells k) 78 (0, 0))
  p : Rn w r.AP r.nP r.cP r.P
  q : Rn w r.AQ r.nQ r.cQ r.Q
  g : Rn w r.AG r.nG r.cG r.G
section
variable {w w' : World} {b k : Nat} {r : Rgd}
theorem Rg.lt (h : Rg w b r k) : b < w.heap.size := (Array.getElem?_eq_some_iff.1 h.row).1
theorem Rg.below (h : Rg w b r k) (hb : Below w.heap.size w w') : Rg w' b r k := ⟨(hb.block b h.lt).trans h.row, h.p.below hb, h.q.below hb, h.g.below hb⟩
theorem Rg.c0 (h : Rg w b r k) : w.cell? ⟨b, 0, none⟩ = some (.slice r.AP r.nP r.cP) := cell_of_row w b 0 _ _ (0, 0) h.row
theorem Rg.c1 (h : Rg w b r k) : w.cell? ⟨b, 1, none⟩ = some (.slice r.AQ r.nQ r.cQ) := cell_of_row w b 1 _ _ (0, 0) h.row
theorem Rg.c2 (h : Rg w b r k) : w.cell? ⟨b, 2, none⟩ = some (.slice r.AG r.nG r.cG) := cell_of_row w b 2 _ _ (0, 0) h.row
theorem Rg.c3 (h : Rg w b r k) : w.cell? ⟨b, 3, none⟩ = some (.int .i64 (k : Int)) := cell_of_row w b 3 _ _ (0, 0) h.row
theorem rone_any (w : World) : Calls Tryz.prog 39 #[] w (AnsN 1 w) := by
  go_enter Tryz.func39, Tryz.ntmps39
  go_wp2
  go_ret
  exact ⟨_, _, _, rfl, rlit w (by decide) (by decide), below_al _ _⟩
theorem Rn.drewN_ {A : Option Addr} {n c : Nat} {N : Int} (h : Rn w A n c N) (q : Nat) : Rn (w.drewN q) A n c N := ⟨h.rd.drewN q, h.nc, h.n60, h.pos⟩
theorem rcmp_quiet {A A' : Option Addr} {n c n' c' q : Nat} {N M : Int} (h : Rn w A n c N) (h' : Rn w A' n' c' M) (hn : n ≤ 100000) (hn' : n' ≤ 100000) :
    Calls Tryz.prog 45 #[.slice A n c, .slice A' n' c'] (w.drewN q) fun e w'' => e = .returned (.int .i64 (cmpI N M)) ∧ ∃ m, w'' = w.drewN m :=
  (rcmp_any (h.drewN_ q) (h'.drewN_ q) hn hn').mono fun _ _ ⟨he, m, hm⟩ => ⟨he, q + m, by rw [hm, World.drewN_drewN]⟩
/-- Is, of 0. -/
theorem ris_zero (h : Rg w b r k) {A : Option Addr} {n c : Nat} (hn : n = 0) :
    Calls Tryz.prog 40 #[.pointer (some ⟨b, 0, none⟩), .slice A n c] w (AnsV (.bool false) w) := by
  have t1 : decide ((0 : Int) < (n : Int)) = false := by simp; omega
  have t2 : decide (0 < n) = false := by simp; omega
  have q0 := h.c0
  have q1 := h.c1
  clear hn
  go_enter Tryz.func40, Tryz.ntmps40
  go_wp2_with fail
  go_quiet (fail)
  go_wp2
  go_ret
  exact ⟨rfl, below_drewN (Below.refl _ _) _⟩
set_option maxHeartbeats 2000000 in
/-- Is, of a number that isn't below P. -/
theorem ris_great (h : Rg w b r k) {A : Option Addr} {n c : Nat} {X : Int} (ha : Rn w A n c X) (hn : n ≤ 10000) (lp : r.nP ≤ 1000) (h1 : 1 ≤ X) (hx : r.P ≤ X) :
    Calls Tryz.prog 40 #[.pointer (some ⟨b, 0, none⟩), .slice A n c] w (AnsV (.bool false) w) := by
  have n0 : 0 < n := by
    have := dg_nil_iff D_two ha.pos
    have h2 : dr X ≠ 0 := fun e => by have := this.1 e; omega
    have := ha.len_
    omega
  have t1 : decide ((0 : Int) < (n : Int)) = true := by simp; omega
  have t2 : decide (cmpI X r.P < 0) = false := by
    simp
    rcases Int.lt_or_eq_of_le hx with g | g
    · rw [cmpI_gt g]; decide
    · rw [g, cmpI_eq]; decide
  have q0 := h.c0
  have q1 := h.c1
  have HA := Lib.hid ha
  have HP := Lib.hid h.p
  have n1 : (0 : Int) < (n : Int) := by omega
  clear hx ha
  go_enter Tryz.func40, Tryz.ntmps40
  go_wp2_with fail
  go_quiet ((go_at_call 45; exact rcmp_quiet HA.out HP.out (by omega) (by omega)))
  go_wp2
  go_ret
  exact ⟨rfl, below_drewN (Below.refl _ _) _⟩
set_option maxHeartbeats 8000000 in
/-- Is, of a number below P. -/
theorem ris_mid (h : Rg w b r k) {A : Option Addr} {n c : Nat} {X : Int} (ha : Rn w A n c X) (hn : n ≤ 300) (lp : r.nP ≤ 300) (lq : r.nQ ≤ 300) (h1 : 1 ≤ X) (hx : X < r.P) (s : Bool) (hs : decide (X ^ r.Q.toNat % r.P = 1) = s) :
    Calls Tryz.prog 40 #[.pointer (some ⟨b, 0, none⟩), .slice A n c] w (AnsV (.bool s) w) := by
  have n0 : 0 < n := by
    have := dg_nil_iff D_two ha.pos
    have h2 : dr X ≠ 0 := fun e => by have := this.1 e; omega
    have := ha.len_
    omega
  have p0 : 0 < r.P := by omega
  have t1 : decide ((0 : Int) < (n : Int)) = true := by simp; omega
  have t2 : decide (cmpI X r.P < 0) = true := by simp; rw [cmpI_lt hx]; decide
  obtain ⟨E, hE⟩ : ∃ E, X ^ r.Q.toNat % r.P = E := ⟨_, rfl⟩
  have t3 : ((cmpI E 1 : Int) == 0) = s := by
    rw [← hs, hE]
    by_cases g : E = 1
    · rw [g, cmpI_eq]; rfl
    · rw [decide_eq_false g]
      rcases Int.lt_or_gt_of_ne g with k | k
      · rw [cmpI_lt k]; rfl
      · rw [cmpI_gt k]; rfl
  have lE : dr E ≤ 300 := by
    rw [← hE]
    have h2 := dr_rest (N := X ^ r.Q.toNat) p0
    have h3 := h.p.len_
    omega
  have q0 := h.c0
  have q1 := h.c1
  have bd := below_dr w
  have HA := Lib.hid (ha.below bd)
  have HP := Lib.hid (h.p.below bd)
  have HQ := Lib.hid (h.q.below bd)
  have BD := Lib.hid bd
  have HE := Lib.hid hE
  have LT := Lib.hid h.lt
  clear hx bd hE hs h1
  have n1 : (0 : Int) < (n : Int) := by omega
  go_enter Tryz.func40, Tryz.ntmps40
  go_wp2_with fail
  go_region_held3 (fun w' => w'.cell? ⟨b, 0, none⟩ = some (.slice r.AP r.nP r.cP) ∧ w'.cell? ⟨b, 1, none⟩ = some (.slice r.AQ r.nQ r.cQ)) (first | exact ⟨q0, q1⟩ | exact ⟨r0, r1⟩ | exact ⟨s0, s1⟩ | exact ⟨u0, u1⟩ | exact ⟨v0, v1⟩ | go_keep | assumption)
    (first
    | (go_at_call 45; (first
        | ((with_reducible refine (rcmp_v HA.out HP.out (by omega) (by omega)).mono ?_); rintro e w1 ⟨rfl, b1⟩; have HA1 := Lib.hid (HA.out.below b1); have HP1 := Lib.hid (HP.out.below b1); have HQ1 := Lib.hid (HQ.out.below b1); have r0 := (b1.cell (p := ⟨b, 0, none⟩) LT.out).trans q0; have r1 := (b1.cell (p := ⟨b, 1, none⟩) LT.out).trans q1; have LT1 := Lib.hid (Nat.lt_of_lt_of_le LT.out b1.size))
        | ((with_reducible refine (rcmp_v kE kO (by omega) (by omega)).mono ?_); rintro e w4 ⟨rfl, b4⟩; have v0 := (b4.cell (p := ⟨b, 0, none⟩) (Nat.lt_of_lt_of_le LT.out b13.size)).trans u0; have v1 := (b4.cell (p := ⟨b, 1, none⟩) (Nat.lt_of_lt_of_le LT.out b13.size)).trans u1)))
    | (go_at_call 54; (first
        | ((with_reducible refine (rexp_any HA1.out HQ1.out HP1.out hn lq lp p0).mono ?_); rintro e w2 ⟨BE, nE, cE, rfl, kE, bE⟩; rw [HE.out] at kE; have hnE : nE ≤ 300 := (by have := kE.len_; omega); have b12 := b1.trans (bE.mono b1.size); have s0 := (bE.cell (p := ⟨b, 0, none⟩) LT1.out).trans r0; have s1 := (bE.cell (p := ⟨b, 1, none⟩) LT1.out).trans r1)
        | ((with_reducible refine (rexp_any HA2.out HQ2.out HP2.out hn lq lp p0).mono ?_); rintro e w3 ⟨BE, nE, cE, rfl, kE, bE⟩; rw [HE.out] at kE; have hnE : nE ≤ 300 := (by have := kE.len_; omega); have kO := kO.below bE; have b13 := b12.trans (bE.mono b12.size); have u0 := (bE.cell (p := ⟨b, 0, none⟩) (Nat.lt_of_lt_of_le LT.out b12.size)).trans s0; have u1 := (bE.cell (p := ⟨b, 1, none⟩) (Nat.lt_of_lt_of_le LT.out b12.size)).trans s1)))
    | (go_at_call 39; (first
        | (have := kE; refine (rone_any w2).mono ?_; rintro e w3 ⟨BO, nO, cO, rfl, kO, bO⟩; have hnO : nO ≤ 300 := (by have h1 := kO.len_; have h2 : dr 1 = 1 := (by unfold dr; rw [dgD_one (by decide) (by decide)]; rfl); omega); have kE := kE.below bO; have b13 := b12.trans (bO.mono b12.size); have u0 := (bO.cell (p := ⟨b, 0, none⟩) (Nat.lt_of_lt_of_le LT.out b12.size)).trans s0; have u1 := (bO.cell (p := ⟨b, 1, none⟩) (Nat.lt_of_lt_of_le LT.out b12.size)).trans s1)
        | (refine (rone_any w1).mono ?_; rintro e w2 ⟨BO, nO, cO, rfl, kO, bO⟩; have hnO : nO ≤ 300 := (by have h1 := kO.len_; have h2 : dr 1 = 1 := (by unfold dr; rw [dgD_one (by decide) (by decide)]; rfl); omega); have HA2 := Lib.hid (HA1.out.below bO); have HP2 := Lib.hid (HP1.out.below bO); have HQ2 := Lib.hid (HQ1.out.below bO); have b12 := b1.trans (bO.mono b1.size); have s0 := (bO.cell (p := ⟨b, 0, none⟩) LT1.out).trans r0; have s1 := (bO.cell (p := ⟨b, 1, none⟩) LT1.out).trans r1))))
  all_goals
    have b14 := b13.trans (b4.mono b13.size)
    have G := Lib.hid (BD.out.trans (b14.mono BD.out.size))
    clear b14 b13 b4
    go_wp2
    go_ret
    exact ⟨rfl, G.out⟩
/-- Is, of any number. -/
theorem ris_any (h : Rg w b r k) {A : Option Addr} {n c : Nat} {X : Int} (ha : Rn w A n c X) (hn : n ≤ 300) (lp : r.nP ≤ 300) (lq : r.nQ ≤ 300) (s : Bool) (hs : s = true ↔ El r.P r.Q X) :
    Calls Tryz.prog 40 #[.pointer (some ⟨b, 0, none⟩), .slice A n c] w (AnsV (.bool s) w) := by
  rcases Int.lt_or_eq_of_le ha.pos with g | g
  · rcases Int.lt_or_le X r.P with k | k
    · refine ris_mid h ha hn lp lq (by omega) k s ?_
      cases s with
      | true => exact decide_eq_true (hs.1 rfl).2.2
      | false => exact decide_eq_false fun e => by have := hs.2 ⟨by omega, k, e⟩; cases this
    · obtain rfl : s = false := by
        cases s with
        | false => rfl
        | true => have := (hs.1 rfl).2.1; omega
      exact ris_great h ha (by omega) (by omega) (by omega) k
  · subst g
    obtain rfl : n = 0 := by have := ha.len_; rw [this]; unfold dr; rw [dg_zero]; rfl
    obtain rfl : s = false := by
      cases s with
      | false => rfl
      | true => have := (hs.1 rfl).1; omega
    exact ris_zero h rfl
end
end Go.Proofs.YtkecfdeepmhggaaGreat
/-
  The document's group: what Mul, Exp and Inverse answer.
-/
namespace Go.Proofs.YtkecfdeepmhggaaGreat
open Go.RowKit
set_option linter.unusedVariables false
section
variable {w : World} {b k : Nat} {r : Rgd} {A A' : Option Addr} {n c n' c' : Nat} {X Y : Int}
set_option maxHeartbeats 4000000 in
theorem rgm_any (h : Rg w b r k) (lp : r.nP ≤ 300) (p0 : 0 < r.P) (ha : Rn w A n c X) (hb : Rn w A' n' c' Y) (hn : n ≤ 300) (hn' : n' ≤ 300) :
    Calls Tryz.prog 41 #[.pointer (some ⟨b, 0, none⟩), .slice A n c, .slice A' n' c'] w (AnsN (X * Y % r.P) w) := by
  have q0 := h.c0
  have bd := below_dr w
  have HA := Lib.hid (ha.below bd)
  have HB := Lib.hid (hb.below bd)
  have HP := Lib.hid (h.p.below bd)
  have BD := Lib.hid bd
  have LT := Lib.hid h.lt
  have HX := Lib.hid ha.pos
  have HY := Lib.hid hb.pos
  have lX := Lib.hid ha.len_
  have lY := Lib.hid hb.len_
  clear bd h ha hb
  go_enter Tryz.func41, Tryz.ntmps41
  go_wp2_with fail
  go_region_held (fun w' => w'.cell? ⟨b, 0, none⟩ = some (.slice r.AP r.nP r.cP)) (first | exact q0 | exact r0 | exact s0 | go_keep | assumption)
    (first
    | (go_at_call 43; (with_reducible refine (rmul_any HA.out HB.out (by omega) (by omega)).mono ?_); rintro e w1 ⟨B1, m1, c1, rfl, k1, b1⟩; have hm1 : m1 ≤ 1000 := (by have h1 := k1.len_; have h2 := dr_mul HX.out HY.out; have h3 := lX.out; have h4 := lY.out; omega); have HK1 := Lib.hid k1; have HP1 := Lib.hid (HP.out.below b1); have r0 := (b1.cell (p := ⟨b, 0, none⟩) LT.out).trans q0; have LT1 := Lib.hid (Nat.lt_of_lt_of_le LT.out b1.size); have B01 := Lib.hid b1; clear k1 b1)
    | (go_at_call 42; (with_reducible refine (rrest_any HK1.out HP1.out hm1 (by omega) p0).mono ?_); rintro e w2 ⟨B2, m2, c2, rfl, k2, b2⟩; have s0 := (b2.cell (p := ⟨b, 0, none⟩) LT1.out).trans r0; have HK2 := Lib.hid k2; have B02 := Lib.hid (B01.out.trans (b2.mono B01.out.size)); clear k2 b2))
  all_goals
    go_wp2_with fail
    go_ret
    exact ⟨_, _, _, rfl, HK2.out, BD.out.trans (B02.out.mono BD.out.size)⟩
set_option maxHeartbeats 4000000 in
theorem rgx_any (h : Rg w b r k) (lp : r.nP ≤ 300) (lq : r.nQ ≤ 300) (p0 : 0 < r.P) (q0' : 0 < r.Q) (ha : Rn w A n c X) (hb : Rn w A' n' c' Y) (hn : n ≤ 300) (hn' : n' ≤ 1000) :
    Calls Tryz.prog 34 #[.pointer (some ⟨b, 0, none⟩), .slice A n c, .slice A' n' c'] w (AnsN (gx r.P r.Q X Y) w) := by
  have q0 := h.c0
  have q1 := h.c1
  have bd := below_dr w
  have HA := Lib.hid (ha.below bd)
  have HB := Lib.hid (hb.below bd)
  have HP := Lib.hid (h.p.below bd)
  have HQ := Lib.hid (h.q.below bd)
  have BD := Lib.hid bd
  have LT := Lib.hid h.lt
  have HY := Lib.hid hb.pos
  have lQ := Lib.hid h.q.len_
  clear bd h ha hb
  go_enter Tryz.func34, Tryz.ntmps34
  go_wp2_with fail
  go_region_held (fun w' => w'.cell? ⟨b, 0, none⟩ = some (.slice r.AP r.nP r.cP) ∧ w'.cell? ⟨b, 1, none⟩ = some (.slice r.AQ r.nQ r.cQ)) (first | exact ⟨q0, q1⟩ | exact ⟨r0, r1⟩ | exact ⟨s0, s1⟩ | go_keep | assumption)
    (first
    | (go_at_call 42; (with_reducible refine (rrest_any HB.out HQ.out hn' (by omega) q0').mono ?_); rintro e w1 ⟨B1, m1, c1, rfl, k1, b1⟩; have hm1 : m1 ≤ 300 := (by have h1 := k1.len_; have h2 := dr_rest (N := Y) q0'; have h3 := lQ.out; omega); have HK1 := Lib.hid k1; have HP1 := Lib.hid (HP.out.below b1); have HA1 := Lib.hid (HA.out.below b1); have r0 := (b1.cell (p := ⟨b, 0, none⟩) LT.out).trans q0; have r1 := (b1.cell (p := ⟨b, 1, none⟩) LT.out).trans q1; have LT1 := Lib.hid (Nat.lt_of_lt_of_le LT.out b1.size); have B01 := Lib.hid b1; clear k1 b1)
    | (go_at_call 54; (with_reducible refine (rexp_any HA1.out HK1.out HP1.out hn hm1 lp p0).mono ?_); rintro e w2 ⟨B2, m2, c2, rfl, k2, b2⟩; have s0 := (b2.cell (p := ⟨b, 0, none⟩) LT1.out).trans r0; have s1 := (b2.cell (p := ⟨b, 1, none⟩) LT1.out).trans r1; have HK2 := Lib.hid k2; have B02 := Lib.hid (B01.out.trans (b2.mono B01.out.size)); clear k2 b2))
  all_goals
    go_wp2_with fail
    go_ret
    exact ⟨_, _, _, rfl, HK2.out, BD.out.trans (B02.out.mono BD.out.size)⟩
end
end Go.Proofs.YtkecfdeepmhggaaGreat
/-
  The document's layer 7: what Long, Longs, Fits and Odd answer.
-/
namespace Go.Proofs.YtkecfdeepmhggaaGreat
open Go.RowKit
set_option linter.unusedVariables false
section
variable {w : World} {A : Option Addr} {n c : Nat} {S : Nat → Nsl} {N : Int}
def LgR (S : Nat → Nsl) (n : Nat) (w : World) (i : Value) (wr : World) : Prop := ∃ k : Nat, k ≤ n ∧ i = .int .i64 k ∧ (∀ j, j < k → dl (S j).N ≤ 64) ∧ w = wr
end
end Go.Proofs.YtkecfdeepmhggaaGreat
/-
  The document's layer 7: what Odd answers.
-/
namespace Go.Proofs.YtkecfdeepmhggaaGreat
open Go.RowKit
set_option linter.unusedVariables false
/-- A number that the document's way bears: short, or too long for the program. -/
def Li (n : Nat) (N : Int) : Prop := n ≤ 300 ∧ (dl N ≤ 6 ∨ 64 < dl N)
def LiS (s : Stp) : Prop := Li s.n1 s.P ∧ Li s.n2 s.Q ∧ Li s.n3 s.A
/-- A group of the document's that is small enough. -/
structure Rg7 (w : World) (b : Nat) (r : Rgd) (k : Nat) : Prop extends Rg w b r k where
  lp : r.nP ≤ 300
  lq : r.nQ ≤ 300
  safe : Safe r.P r.Q
  el : El r.P r.Q r.G
  pW : r.P ≤ W ^ 64
theorem Rg7.below {w w' : World} {b k : Nat} {r : Rgd} (h : Rg7 w b r k) (hb : Below w.heap.size w w') : Rg7 w' b r k := ⟨h.toRg.below hb, h.lp, h.lq, h.safe, h.el, h.pW⟩
section
variable {w : World} {b k : Nat} {r : Rgd} {A : Option Addr} {n c : Nat} {X : Int}
theorem of_nm7 (h : Nm w A n c X) (hn : n ≤ 1000) : Calls Tryz.prog 35 #[.slice A n c] w (AnsNn X w) := by
  obtain ⟨⟨ys, y1, y2, y3⟩, -, -, -⟩ := h
  have := of_new A n c ys w y1 y2 hn
  rwa [y3] at this
theorem dr_li {n : Nat} (h : Li n X) (h0 : 0 ≤ X) : dr X ≤ 300 ∨ W ^ 64 ≤ X := by
  rcases h.2 with g | g
  · left
    have h1 := lt_dl h0 g
    refine dg_len_le D_two h0 (Int.lt_of_lt_of_le h1 ?_)
    decide +kernel
  · right
    rcases Int.lt_or_le X (W ^ 64) with q | q
    · have := dl_le h0 q; omega
    · exact q
theorem is7_any (h : Rg7 w b r k) {m : Nat} (hl : Li m X) (hm : Rn w A n c X) (hn : n ≤ 10000) (s : Bool) (hs : s = true ↔ El r.P r.Q X) :
    Calls Tryz.prog 40 #[.pointer (some ⟨b, 0, none⟩), .slice A n c] w (AnsV (.bool s) w) := by
  rcases dr_li hl hm.pos with g | g
  · exact ris_any h.toRg hm (by rw [hm.len_]; exact g) h.lp h.lq s hs
  · have hx : r.P ≤ X := Int.le_trans h.pW g
    have e : s = false := by
      rcases Bool.eq_false_or_eq_true s with q | q
      · have := (hs.1 q).2.1; omega
      · exact q
    subst e
    have hP := h.safe.p2
    exact ris_great h.toRg hm hn (by have := h.lp; omega) (by omega) hx
/-- A number that came in, asked for: Is(Of(..)). -/
theorem rn_len7 {m : Nat} (h0 : 0 ≤ X) (hm : X < W ^ m) (h : m ≤ 1000) : dr X ≤ 10000 := by
  refine Nat.le_trans (dr_le h0 (k := m) (by exact dl_le h0 hm)) (by omega)
/-- Whether it is an element. -/
theorem el_bool (P Q X : Int) : ∃ s : Bool, s = true ↔ El P Q X := by
  by_cases h : El P Q X
  · exact ⟨true, fun _ => h, fun _ => rfl⟩
  · exact ⟨false, fun e => (by cases e), fun e => absurd e h⟩
def OdR (P Q : Int) (S : Nat → Stp) (n : Nat) (w : World) (i : Value) (wr : World) : Prop := ∃ k : Nat, k ≤ n ∧ i = .int .i64 k ∧ (∀ j, j < k → ElT P Q (Trp.of (S j))) ∧ Below w.heap.size w wr
theorem li_dr {m : Nat} (hl : Li m X) {w : World} {A : Option Addr} {c : Nat} (h : Nm w A m c X) : dr X ≤ 10000 := Nat.le_trans (dr_le h.pos (k := m) h.dl_le) (by have := hl.1; omega)
end
end Go.Proofs.YtkecfdeepmhggaaGreat
/-
  The document's layer 9: what place, small, Long and Value answer.
-/
namespace Go.Proofs.YtkecfdeepmhggaaGreat
open Go.RowKit
set_option linter.unusedVariables false
/-- A share's place. -/
def PlI (i : Int) : Prop := 1 ≤ i ∧ i ≤ 255
instance (i : Int) : Decidable (PlI i) := inferInstanceAs (Decidable (_ ∧ _))
theorem rplace_any (i : Int) (w : World) : Calls Tryz.prog 31 #[.int .i64 i] w fun e w' => e = .returned (.bool (decide (PlI i))) ∧ w = w' := by
  rcases Int.lt_or_le i 1 with g | g
  · have e1 : decide (1 ≤ i) = false := by simp; omega
    have e2 : decide (PlI i) = false := decide_eq_false fun q => by have := q.1; omega
    go_enter Tryz.func31, Tryz.ntmps31
    go_wp2_with fail
    go_ret
    exact ⟨by rw [e2]; rfl, rfl⟩
  · have e1 : decide (1 ≤ i) = true := by simp; omega
    have e2 : decide (PlI i) = decide (i ≤ 255) := by rw [decide_eq_decide]; unfold PlI; omega
    go_enter Tryz.func31, Tryz.ntmps31
    go_wp2_with fail
    go_ret
    exact ⟨by rw [e2]; rfl, rfl⟩
theorem of_nm9 {w : World} {A : Option Addr} {n c : Nat} {X : Int} (h : Nm w A n c X) (hn : n ≤ 1000) : Calls Tryz.prog 35 #[.slice A n c] w (AnsN X w) := by
  obtain ⟨⟨ys, y1, y2, y3⟩, -, -, -⟩ := h
  have := of_any A n c ys w y1 y2 hn
  rwa [y3] at this
theorem lit9 (w : World) {x : Int} (h0 : 0 ≤ x) (h1 : x < W) : Nm (w.alloc (.cells #[.int .u64 x] 65)) (some ⟨w.heap.size, 0, none⟩) 1 1 x :=
  Nm.one (Row.new w 65 .u64 [x]) h0 h1 (by omega) (by omega)
theorem rsmall9 (i : Int) (h0 : 0 ≤ i) (h1 : i ≤ 255) (w : World) : Calls Tryz.prog 44 #[.int .i64 i] w (AnsN i w) := by
  have e1 : IntKind.u64.wrap i = i := IntWalk.u64_in _ (by omega)
  have L1 := Lib.hid (lit9 w h0 (show i < W by have : (W : Int) = 18446744073709551616 := by decide
                                               omega))
  go_enter Tryz.func44, Tryz.ntmps44
  go_wp2_with fail
  refine (of_nm9 L1.out (by omega)).mono ?_
  rintro e w1 ⟨B, m, cap, rfl, k1, b1⟩
  have b2 := below_one b1
  clear b1
  go_wp2_with fail
  go_ret
  exact ⟨_, _, _, rfl, k1, b2⟩
theorem rlimbs9 {w : World} {A : Option Addr} {n c : Nat} {N : Int} (h : Nm w A n c N) :
    Calls Tryz.prog 18 #[.slice A n c] w fun e w' => e = .returned (.int .i64 (dl N : Nat)) ∧ w = w' := by
  obtain ⟨⟨ys, y1, y2, y3⟩, h4, h5, -⟩ := h
  refine (Limbs_any A n c ys w y1 y2 h4 h5).mono fun e w' ⟨he, hw⟩ => ⟨?_, hw⟩
  subst y3
  exact he
theorem rlong9 {w : World} {A : Option Addr} {n c : Nat} {N : Int} (h : Nm w A n c N) :
    Calls Tryz.prog 32 #[.slice A n c] w fun e w' => e = .returned (.bool (decide (64 < dl N))) ∧ w = w' := by
  go_enter Tryz.func32, Tryz.ntmps32
  go_wp2_with fail
  refine (rlimbs9 h).mono ?_
  rintro e w1 ⟨rfl, rfl⟩
  go_wp2_with fail
  go_ret
  refine ⟨congrArg (fun q => Ending.returned (.bool q)) ?_, rfl⟩
  rw [decide_eq_decide]
  omega
section
variable {w : World} {b k : Nat} {r : Rgd}
theorem Rg7.q3 {w w' : World} (h : Rg7 w b r k) {A : Option Addr} {n c : Nat} {X : Int} (hx : Rn w' A n c X) (hlt : X ≤ r.Q) : n ≤ 300 := by
  have h1 := hx.len_
  have h2 := h.q.len_
  have h3 := dr_mono hx.pos hlt
  have := h.lq
  omega
theorem Rg7.p3 {w w' : World} (h : Rg7 w b r k) {A : Option Addr} {n c : Nat} {X : Int} (hx : Rn w' A n c X) (hlt : X ≤ r.P) : n ≤ 300 := by
  have h1 := hx.len_
  have h2 := h.p.len_
  have h3 := dr_mono hx.pos hlt
  have := h.lp
  omega
theorem dr_add9 {N M : Int} (h0 : 0 ≤ N) (h1 : 0 ≤ M) {m : Nat} (a : dr N ≤ m) (b : dr M ≤ m) : dr (N + M) ≤ m + 1 := by
  refine dg_len_le D_two (by omega) ?_
  have h2 := dg_lt_pow D_two h0 a
  have h3 := dg_lt_pow D_two h1 b
  have c : D ^ (m + 1) = D ^ m * D := Int.pow_succ _ _
  rw [c]
  have d : D ^ m * 2 ≤ D ^ m * D := Int.mul_le_mul_of_nonneg_left (by decide) (by omega)
  omega
theorem rn_bel9 {w w' : World} {A : Option Addr} {n c : Nat} {N : Int} (h : Rn w A n c N) (hb : Below w.heap.size w w') : Rn w' A n c N := h.below hb
theorem dl_sm9 {x : Int} (h0 : 0 ≤ x) (h1 : x ≤ 255) : dl x ≤ 64 := by
  have h := dl_le h0 (k := 1) (show x < W ^ 1 by
    have : (W : Int) ^ 1 = 18446744073709551616 := by decide
    omega)
  omega
theorem pwN_le {Q y : Int} (hQ : 1 ≤ Q) : ∀ n, pwN Q y n ≤ Q
  | 0 => by simp only [pwN]; omega
  | n + 1 => Int.le_of_lt (Int.emod_lt_of_pos _ (by omega))
theorem vlN_rng {Q y : Int} {a : Nat → Int} (hQ : 1 ≤ Q) : ∀ n, 0 ≤ vlN Q a y n ∧ vlN Q a y n ≤ Q
  | 0 => by simp only [vlN]; omega
  | n + 1 => ⟨Int.emod_nonneg _ (by omega), Int.le_of_lt (Int.emod_lt_of_pos _ (by omega))⟩
def VlR (Q y : Int) (a : Nat → Int) (m : Nat) (w : World) (s p j : Value) (wr : World) : Prop :=
  ∃ t A1 n1 c1 A2 n2 c2, s = .slice A1 n1 c1 ∧ p = .slice A2 n2 c2 ∧ j = .int .i64 (t : Nat) ∧ t ≤ m ∧ Rn wr A1 n1 c1 (vlN Q a y t) ∧ Rn wr A2 n2 c2 (pwN Q y t) ∧ Below w.heap.size w wr
set_option maxHeartbeats 4000000 in
set_option maxRecDepth 100000 in
theorem rvalue_any (h : Rg7 w b r k) {A : Option Addr} {n c : Nat} {S : Nat → Nsl} (hp : Ns w A n c S) (hn : n ≤ 40) (hS : ∀ i, i < n → (S i).n ≤ 1000 ∧ dl (S i).N ≤ 64) (y : Int) (y0 : 0 ≤ y) (y1 : y ≤ 255) :
    Calls Tryz.prog 33 #[.pointer (some ⟨b, 0, none⟩), .slice A n c, .int .i64 y] w (AnsN (vlN r.Q (fun i => (S i).N) y n) w) := by
  have Q1 := Lib.hid h.safe.q1
  have Q0 := Lib.hid (show 0 < r.Q by have := h.safe.q1; omega)
  have HG := Lib.hid h
  have HP := Lib.hid hp
  have HS := Lib.hid hS
  clear h hp hS
  go_enter Tryz.func33, Tryz.ntmps33
  go_wp2_with fail
  refine (rone_any w).mono ?_
  rintro e w1 ⟨B1, m1, p1, rfl, k1, b1⟩
  have K1 := Lib.hid k1
  have B1' := Lib.hid b1
  clear k1 b1
  go_wp2_with fail

  go_loopw [7, 8, 9] (fun s p j wr => VlR r.Q y (fun i => (S i).N) n w s p j wr) (fun _ _ j _ => n - (intOf j).toNat)
  case atStart => exact ⟨0, _, _, _, _, _, _, rfl, rfl, rfl, Nat.zero_le _, Rn.nil _, K1.out, B1'.out⟩
  case round =>
    obtain ⟨t, A1, n1, c1, A2, n2, c2, rfl, rfl, rfl, ht, k1, k2, hb⟩ := hrel
    rcases Nat.lt_or_ge t n with hlt | hge
    · have e1 : decide ((t : Int) < (n : Int)) = true := by simp; omega
      have hw1 : IntKind.i64.wrap ((t : Int) + 1) = (t : Int) + 1 := IntWalk.i64_in _ (by omega)
      have bd := below_dr wr
      have hbd := hb.trans (bd.mono hb.size)
      have HPd := Lib.hid (HP.out.below hbd)
      have GD := Lib.hid (HG.out.below hbd)
      have BD := Lib.hid hbd
      have K1 := Lib.hid (k1.below bd)
      have K2 := Lib.hid (k2.below bd)
      have l1 : n1 ≤ 300 := HG.out.q3 k1 (vlN_rng Q1.out t).2
      have l2 : n2 ≤ 300 := HG.out.q3 k2 (pwN_le Q1.out t)
      obtain ⟨bA, off, eA, hbA, hc⟩ := HPd.out.ex (by omega)
      have q0 := hc t hlt
      have v1 := GD.out.c1
      have LT := Lib.hid GD.out.lt
      have SN := Lib.hid (HPd.out.at_ t hlt)
      have ST := Lib.hid (HS.out t hlt)
      subst eA
      obtain ⟨s, hs⟩ : ∃ s, S t = s := ⟨_, rfl⟩
      have HSt := Lib.hid hs
      rw [hs] at q0 SN ST
      obtain ⟨A0, n0, c0, N0⟩ := s
      simp only at q0 SN ST
      clear hc hbd hb k1 k2 bd hs
      go_wp2_with fail
      go_region_law (first
        | (go_simp; go_at_call 42; (with_reducible refine (rrest_any K5.out (rn_bel9 GD.out.q C3.out) N5.out (by have := GD.out.lq; omega) Q0.out).mono ?_); rintro e u4 ⟨D4, m4, d4, rfl, k6, b6⟩; have C4 := Lib.hid (C3.out.trans (b6.mono C3.out.size)); have K6 := Lib.hid k6; clear k6 b6)
        | (go_simp; go_at_call 53; (with_reducible refine (radd_any (rn_bel9 K1.out C2.out) K4.out (by omega) (by have := N4.out; omega)).mono ?_); rintro e u3 ⟨D3, m3, d3, rfl, k5, b5⟩; have C3 := Lib.hid (C2.out.trans (b5.mono C2.out.size)); have K5 := Lib.hid k5; have N5 := Lib.hid (show m3 ≤ 1000 by
            have h1 := k5.len_
            have h4 := K1.out.len_
            have h5 := N4.out
            have h6 := K4.out.len_
            have h2 := dr_add9 K1.out.pos K4.out.pos (m := 556) (by omega) (by omega)
            omega); have f3 := (C3.out.cell (p := ⟨b, 1, none⟩) LT.out).trans v1; clear k5 b5)
        | (go_simp; go_at_call 43; (with_reducible refine (rmul_any (rn_bel9 K2.out C1.out) K3.out (by omega) (by have := N3.out; omega)).mono ?_); rintro e u2 ⟨D2, m2, d2, rfl, k4, b4⟩; have C2 := Lib.hid (C1.out.trans (b4.mono C1.out.size)); have K4 := Lib.hid k4; have N4 := Lib.hid (show m2 ≤ 556 by
            have h1 := k4.len_
            have h3 := dr_mul K2.out.pos K3.out.pos
            have h4 := K2.out.len_
            have h5 := K3.out.len_
            have h6 := N3.out
            omega); have f2 := (C2.out.cell (p := ⟨b, 1, none⟩) LT.out).trans v1; clear k4 b4)
        | (go_simp; go_at_call 35; (with_reducible refine (of_nm9 SN.out (by have := ST.out; omega)).mono ?_); rintro e u1 ⟨D1, m1, d1, rfl, k3, b3⟩; have C1 := Lib.hid b3; have K3 := Lib.hid k3; have N3 := Lib.hid (show m1 ≤ 256 by
            have h1 := k3.len_
            have h2 := dr_le SN.out.pos ST.out.2
            omega); have f1 := (C1.out.cell (p := ⟨b, 1, none⟩) LT.out).trans v1; clear k3 b3))
      all_goals
        clear v1 f1 f2 f3 q0
        have V1 := Lib.hid (show vlN r.Q (fun i => (S i).N) y (t + 1) = (vlN r.Q (fun i => (S i).N) y t + pwN r.Q y t * N0) % r.Q from by rw [vlN, HSt.out])
        have bd2 := below_dr u4
        have C5 := Lib.hid (C4.out.trans (bd2.mono C4.out.size))
        have K6b := Lib.hid (K6.out.below bd2)
        have K2b := Lib.hid (rn_bel9 K2.out C5.out)
        have v2 := (C5.out.cell (p := ⟨b, 1, none⟩) LT.out).trans GD.out.c1
        clear bd2
        go_wp2_with fail
        go_region_law (first
          | (go_simp; go_at_call 42; (with_reducible refine (rrest_any K8.out (rn_bel9 GD.out.q C7.out) (by have := N8.out; omega) (by have := GD.out.lq; omega) Q0.out).mono ?_); rintro e u7 ⟨D7, m7, d7, rfl, k9, b9⟩; have C8 := Lib.hid (C7.out.trans (b9.mono C7.out.size)); have K9 := Lib.hid k9; have K6d := Lib.hid (K6c.out.below b9); clear k9 b9)
          | (go_simp; go_at_call 43; (with_reducible refine (rmul_any K2c.out K7.out (by omega) (by have := N7.out; omega)).mono ?_); rintro e u6 ⟨D6, m6, d6, rfl, k8, b8⟩; have C7 := Lib.hid (C6.out.trans (b8.mono C6.out.size)); have K8 := Lib.hid k8; have K6c := Lib.hid (K6a.out.below b8); have N8 := Lib.hid (show m6 ≤ 556 by
              have h1 := k8.len_
              have h3 := dr_mul K2c.out.pos K7.out.pos
              have h4 := K2c.out.len_
              have h5 := K7.out.len_
              have h6 := N7.out
              omega); have g2 := (C7.out.cell (p := ⟨b, 1, none⟩) LT.out).trans GD.out.c1; clear k8 b8)
          | (go_simp; go_at_call 44; (with_reducible refine (rsmall9 y y0 y1 _).mono ?_); rintro e u5 ⟨D5, m5, d5, rfl, k7, b7⟩; have C6 := Lib.hid (C5.out.trans (b7.mono C5.out.size)); have K7 := Lib.hid k7; have K6a := Lib.hid (K6b.out.below b7); have K2c := Lib.hid (K2b.out.below b7); have N7 := Lib.hid (show m5 ≤ 256 by
              have h1 := k7.len_
              have h2 := dr_le k7.pos (dl_sm9 k7.pos y1)
              omega); have g1 := (C6.out.cell (p := ⟨b, 1, none⟩) LT.out).trans GD.out.c1; clear k7 b7))
        all_goals
          clear v2 g1 g2
          have B9 := Lib.hid (BD.out.trans (C8.out.mono BD.out.size))
          go_wp2_with fail
          go_roundw
          case rel => exact ⟨t + 1, _, _, _, _, _, _, rfl, rfl, by simp, hlt, by rw [V1.out]; exact K6d.out, K9.out, B9.out⟩
          case measure => simp [intOf]; omega
    · obtain rfl : t = n := by omega
      have e1 : decide ((t : Int) < (t : Int)) = false := by simp
      have HB := Lib.hid hb
      have K1 := Lib.hid k1
      clear hb k1
      go_wp2_with fail
      go_ret
      exact ⟨_, _, _, rfl, K1.out, HB.out⟩
end
end Go.Proofs.YtkecfdeepmhggaaGreat
/-
  The document's layer 9: what Public answers.
-/
namespace Go.Proofs.YtkecfdeepmhggaaGreat
open Go.RowKit
set_option linter.unusedVariables false
open Classical in
/-- What Public says is amiss. -/
noncomputable def pubC (P Q : Int) (N : Nat → Int) (n : Nat) (y : Int) : Int := if 1 ≤ n ∧ n ≤ 32 ∧ PlI y then (if ∀ t, t < n → El P Q (N t) then 0 else 8) else 1
/-- A number and what is amiss. -/
def DocN (code N : Int) (w : World) (e : Ending) (w' : World) : Prop := ∃ B m cap, e = .returned (.tuple #[.slice B m cap, .int .i64 code]) ∧ Rn w' B m cap (if code = 0 then N else 0) ∧ Below w.heap.size w w'
theorem docN_no {code N : Int} (hc : code ≠ 0) {w w' : World} {e : Ending} (he : e = .returned (.tuple #[.slice none 0 0, .int .i64 code])) (hb : Below w.heap.size w w') : DocN code N w e w' :=
  ⟨none, 0, 0, he, by rw [if_neg hc]; exact Rn.nil _, hb⟩
theorem pubI_pw {P Q y : Int} (hQ : 1 ≤ Q) (c : Nat → Int) (n : Nat) : pubI P Q c y (n + 1) = pubI P Q c y n * gx P Q (c n) (pwN Q y n) % P := by
  have h := (pwN_eqm (Q := Q) (y := y) n).emod
  show pubI P Q c y n * gx P Q (c n) (y ^ n) % P = _
  rw [← gx_mod hQ (c n) (pwN Q y n), ← gx_mod hQ (c n) (y ^ n), h]
theorem pubI_le {P Q y : Int} (hP : 2 ≤ P) (c : Nat → Int) : ∀ n, pubI P Q c y n ≤ P
  | 0 => by simp only [pubI]; omega
  | n + 1 => Int.le_of_lt (Int.emod_lt_of_pos _ (by omega))
section
variable {w : World} {b k : Nat} {r : Rgd}
def PbR (P Q y : Int) (a : Nat → Int) (m : Nat) (w : World) (s p j : Value) (wr : World) : Prop :=
  ∃ t A1 n1 c1 A2 n2 c2, s = .slice A1 n1 c1 ∧ p = .slice A2 n2 c2 ∧ j = .int .i64 (t : Nat) ∧ t ≤ m ∧ (∀ u, u < t → El P Q (a u)) ∧ Rn wr A1 n1 c1 (pubI P Q a y t) ∧ Rn wr A2 n2 c2 (pwN Q y t) ∧ Below w.heap.size w wr
set_option maxHeartbeats 4000000 in
set_option maxRecDepth 100000 in
theorem rpublic_any (h : Rg7 w b r k) {A : Option Addr} {n c : Nat} {S : Nat → Nsl} (hp : Ns w A n c S) (hS : n ≤ 40 → ∀ i, i < n → Li (S i).n (S i).N) (y : Int) :
    Calls Tryz.prog 15 #[.pointer (some ⟨b, 0, none⟩), .slice A n c, .int .i64 y] w (DocN (pubC r.P r.Q (fun i => (S i).N) n y) (pubI r.P r.Q (fun i => (S i).N) y n) w) := by
  have Q1 := Lib.hid h.safe.q1
  have Q0 := Lib.hid (show 0 < r.Q by have := h.safe.q1; omega)
  have P2 := Lib.hid h.safe.p2
  have HG := Lib.hid h
  have HP := Lib.hid hp
  have HS := Lib.hid hS
  have n60 := hp.c60
  clear h hp hS
  go_enter Tryz.func15, Tryz.ntmps15
  rcases Nat.lt_or_ge n 1 with g1 | g1
  · have e1 : decide ((n : Int) < 1) = true := by simp; omega
    have ec : pubC r.P r.Q (fun i => (S i).N) n y = 1 := if_neg fun q => by have := q.1; omega
    go_wp2_with fail
    go_ret2
    try rw [ec]
    exact docN_no (by decide) rfl (Below.refl _ _)
  have e1 : decide ((n : Int) < 1) = false := by simp; omega
  rcases Nat.lt_or_ge 32 n with g2 | g2
  · have e2 : decide ((32 : Int) < (n : Int)) = true := by simp; omega
    have ec : pubC r.P r.Q (fun i => (S i).N) n y = 1 := if_neg fun q => by have := q.2.1; omega
    go_wp2_with fail
    go_ret2
    try rw [ec]
    exact docN_no (by decide) rfl (Below.refl _ _)
  have e2 : decide ((32 : Int) < (n : Int)) = false := by simp; omega
  go_wp2_with fail
  refine (rplace_any y w).mono ?_
  rintro e w0 ⟨rfl, rfl⟩
  rcases Classical.em (PlI y) with g3 | g3
  · have e3 : decide (PlI y) = true := by simp [g3]
    rw [e3]
    have y0 : 0 ≤ y := by have := g3.1; omega
    have y1 := g3.2
    clear e1 e2 e3
    go_wp2_with fail
    refine (rone_any w).mono ?_
    rintro e w1 ⟨B1, m1, p1, rfl, k1, b1⟩
    have K1 := Lib.hid k1
    have C1 := Lib.hid b1
    clear k1 b1
    go_wp2_with fail
    refine (rone_any w1).mono ?_
    rintro e w2 ⟨B2, m2, p2, rfl, k2, b2⟩
    have K2 := Lib.hid k2
    have K1b := Lib.hid (K1.out.below b2)
    have C2 := Lib.hid (C1.out.trans (b2.mono C1.out.size))
    clear k2 b2 K1 C1
    go_wp2_with fail
    go_loopw [8, 9, 10] (fun s p j wr => PbR r.P r.Q y (fun i => (S i).N) n w s p j wr) (fun _ _ j _ => n - (intOf j).toNat)
    case atStart => exact ⟨0, _, _, _, _, _, _, rfl, rfl, rfl, Nat.zero_le _, fun u h => absurd h (by omega), K1b.out, K2.out, C2.out⟩
    case round =>
      obtain ⟨t, A1, n1, c1, A2, n2, c2, rfl, rfl, rfl, ht, hel, k1, k2, hb⟩ := hrel
      have EL := Lib.hid hel
      clear hel
      rcases Nat.lt_or_ge t n with hlt | hge
      · have e1 : decide ((t : Int) < (n : Int)) = true := by simp; omega
        have hw1 : IntKind.i64.wrap ((t : Int) + 1) = (t : Int) + 1 := IntWalk.i64_in _ (by omega)
        have HPd := Lib.hid (HP.out.below hb)
        have GD := Lib.hid (HG.out.below hb)
        have BD := Lib.hid hb
        have K1 := Lib.hid k1
        have K2 := Lib.hid k2
        have l1 : n1 ≤ 300 := HG.out.p3 k1 (pubI_le P2.out _ t)
        have l2 : n2 ≤ 300 := HG.out.q3 k2 (pwN_le Q1.out t)
        obtain ⟨bA, off, eA, hbA, hc⟩ := HPd.out.ex (by omega)
        have q0 := hc t hlt
        have LT := Lib.hid GD.out.lt
        have SN := Lib.hid (HPd.out.at_ t hlt)
        have ST := Lib.hid (HS.out (by omega) t hlt)
        subst eA
        obtain ⟨s, hs⟩ : ∃ s, S t = s := ⟨_, rfl⟩
        have HSt := Lib.hid hs
        rw [hs] at q0 SN ST
        obtain ⟨A0, n0, c0, N0⟩ := s
        simp only at q0 SN ST
        clear hc hb k1 k2 hs
        have l0 : n0 ≤ 300 := ST.out.1
        go_wp2_with fail
        refine (of_nm9 SN.out (by omega)).mono ?_
        rintro e u1 ⟨D1, m1, d1, rfl, k3, b3⟩
        have C1 := Lib.hid b3
        have K3 := Lib.hid k3
        have L3 := Lib.hid (show m1 ≤ 10000 by
          have h1 := k3.len_
          have h2 := li_dr ST.out SN.out
          omega)
        clear k3 b3
        obtain ⟨s, hs⟩ := el_bool r.P r.Q N0
        have SS := Lib.hid hs
        clear hs q0
        go_wp2_with fail
        refine (is7_any (GD.out.below C1.out) ST.out K3.out L3.out s SS.out).mono ?_
        rintro e u2 ⟨rfl, b4⟩
        have C2' := Lib.hid (C1.out.trans (b4.mono C1.out.size))
        have K3b := Lib.hid (K3.out.below b4)
        clear b4
        cases s with
        | false =>
          have ec : pubC r.P r.Q (fun i => (S i).N) n y = 8 := (if_pos ⟨g1, g2, g3⟩).trans (if_neg fun q => by
            have h1 : El r.P r.Q (S t).N := q t hlt
            rw [HSt.out] at h1
            have := SS.out.2 h1
            cases this)
          have B9 := Lib.hid (BD.out.trans (C2'.out.mono BD.out.size))
          go_wp2_with fail
          go_ret2
          try rw [ec]
          exact docN_no (by decide) rfl B9.out
        | true =>
          have EN := Lib.hid (SS.out.1 rfl)
          have L3b := Lib.hid (show m1 ≤ 300 from GD.out.p3 K3.out (Int.le_of_lt EN.out.2.1))
          have GP := Lib.hid (show 0 < r.P by have := P2.out; omega)
          go_wp2_with fail
          refine (rgx_any (GD.out.below C2'.out).toRg GD.out.lp GD.out.lq GP.out Q0.out K3b.out (rn_bel9 K2.out C2'.out) L3b.out (by omega)).mono ?_
          rintro e u3 ⟨D3, m3, d3, rfl, k5, b5⟩
          have C3 := Lib.hid (C2'.out.trans (b5.mono C2'.out.size))
          have K5 := Lib.hid k5
          have L5 := Lib.hid (show m3 ≤ 300 from GD.out.p3 k5 (Int.le_of_lt (Int.emod_lt_of_pos _ GP.out)))
          clear k5 b5 K3b K3 C1
          go_wp2_with fail
          refine (rgm_any (GD.out.below C3.out).toRg GD.out.lp GP.out (rn_bel9 K1.out C3.out) K5.out l1 L5.out).mono ?_
          rintro e u4 ⟨D4, m4, d4, rfl, k6, b6⟩
          have C4 := Lib.hid (C3.out.trans (b6.mono C3.out.size))
          have V1 := Lib.hid (show pubI r.P r.Q (fun i => (S i).N) y (t + 1) = pubI r.P r.Q (fun i => (S i).N) y t * gx r.P r.Q N0 (pwN r.Q y t) % r.P from by rw [pubI_pw Q1.out, HSt.out])
          have bd2 := below_dr u4
          have C5 := Lib.hid (C4.out.trans (bd2.mono C4.out.size))
          have K6b := Lib.hid (k6.below bd2)
          have K2b := Lib.hid (rn_bel9 K2.out C5.out)
          have v2 := (C5.out.cell (p := ⟨b, 1, none⟩) LT.out).trans GD.out.c1
          clear bd2 k6 b6 K5 C3
          go_wp2_with fail
          go_region_law (first
            | (go_simp; go_at_call 42; (with_reducible refine (rrest_any K8.out (rn_bel9 GD.out.q C7.out) (by have := N8.out; omega) (by have := GD.out.lq; omega) Q0.out).mono ?_); rintro e u7 ⟨D7, m7, d7, rfl, k9, b9⟩; have C8 := Lib.hid (C7.out.trans (b9.mono C7.out.size)); have K9 := Lib.hid k9; have K6d := Lib.hid (K6c.out.below b9); clear k9 b9)
            | (go_simp; go_at_call 43; (with_reducible refine (rmul_any K2c.out K7.out (by omega) (by have := N7.out; omega)).mono ?_); rintro e u6 ⟨D6, m6, d6, rfl, k8, b8⟩; have C7 := Lib.hid (C6.out.trans (b8.mono C6.out.size)); have K8 := Lib.hid k8; have K6c := Lib.hid (K6a.out.below b8); have N8 := Lib.hid (show m6 ≤ 556 by
                have h1 := k8.len_
                have h3 := dr_mul K2c.out.pos K7.out.pos
                have h4 := K2c.out.len_
                have h5 := K7.out.len_
                have h6 := N7.out
                omega); have g2 := (C7.out.cell (p := ⟨b, 1, none⟩) LT.out).trans GD.out.c1; clear k8 b8)
            | (go_simp; go_at_call 44; (with_reducible refine (rsmall9 y y0 y1 _).mono ?_); rintro e u5 ⟨D5, m5, d5, rfl, k7, b7⟩; have C6 := Lib.hid (C5.out.trans (b7.mono C5.out.size)); have K7 := Lib.hid k7; have K6a := Lib.hid (K6b.out.below b7); have K2c := Lib.hid (K2b.out.below b7); have N7 := Lib.hid (show m5 ≤ 256 by
                have h1 := k7.len_
                have h2 := dr_le k7.pos (dl_sm9 k7.pos y1)
                omega); have g1 := (C6.out.cell (p := ⟨b, 1, none⟩) LT.out).trans GD.out.c1; clear k7 b7))
          all_goals
            have B9 := Lib.hid (BD.out.trans (C8.out.mono BD.out.size))
            have EL1 := Lib.hid (show ∀ u, u < t + 1 → El r.P r.Q ((fun i => (S i).N) u) from fun u hu => by
              rcases Nat.lt_or_ge u t with q | q
              · exact EL.out u q
              · obtain rfl : u = t := by omega
                show El r.P r.Q (S u).N
                rw [HSt.out]; exact EN.out)
            go_wp2_with fail
            go_roundw
            case rel => exact ⟨t + 1, _, _, _, _, _, _, rfl, rfl, by simp, hlt, EL1.out, by rw [V1.out]; exact K6d.out, K9.out, B9.out⟩
            case measure => simp [intOf]; omega
      · obtain rfl : t = n := by omega
        have e1 : decide ((t : Int) < (t : Int)) = false := by simp
        have HB := Lib.hid hb
        have K1 := Lib.hid k1
        have ec : pubC r.P r.Q (fun i => (S i).N) t y = 0 := (if_pos ⟨g1, g2, g3⟩).trans (if_pos EL.out)
        clear hb k1
        go_wp2_with fail
        go_ret2
        try rw [ec]
        exact ⟨_, _, _, rfl, by rw [if_pos rfl]; exact K1.out, HB.out⟩
  · have e3 : decide (PlI y) = false := by simp [g3]
    have ec : pubC r.P r.Q (fun i => (S i).N) n y = 1 := if_neg fun q => g3 q.2.2
    rw [e3]
    go_wp2_with fail
    go_ret2
    try rw [ec]
    exact docN_no (by decide) rfl (Below.refl _ _)
end
end Go.Proofs.YtkecfdeepmhggaaGreat
/-
  The document's layer 9: what Check answers.
-/
namespace Go.Proofs.YtkecfdeepmhggaaGreat
open Go.RowKit
set_option linter.unusedVariables false
open Classical in
/-- What Check says. -/
noncomputable def chC (P Q G : Int) (N : Nat → Int) (n : Nat) (I V : Int) : Int :=
  if 1 ≤ n ∧ n ≤ 32 ∧ PlI I then (if 64 < dl V then 2 else if ∀ t, t < n → El P Q (N t) then (if gx P Q G V = pubI P Q N I n then 0 else 7) else 8) else 1
theorem sh_box (w : World) (x y : Value) : (w.alloc (.cells #[x, y] 41)).cell? ⟨w.heap.size, 0, none⟩ = some x ∧ (w.alloc (.cells #[x, y] 41)).cell? ⟨w.heap.size, 1, none⟩ = some y := by
  constructor <;> simp [World.cell?_alloc_at]
theorem cmpI_eq9 {N M : Int} : (cmpI N M == 0) = decide (N = M) := by
  unfold cmpI
  split
  · have : decide (N = M) = false := by simp; omega
    rw [this]; rfl
  · split
    · have : decide (N = M) = false := by simp; omega
      rw [this]; rfl
    · have : decide (N = M) = true := by simp; omega
      rw [this]; rfl
section
variable {w : World} {b k : Nat} {r : Rgd}
set_option maxHeartbeats 4000000 in
set_option maxRecDepth 100000 in
theorem rcheck_any (h : Rg7 w b r k) {A : Option Addr} {n c : Nat} {S : Nat → Nsl} (hp : Ns w A n c S) (hS : n ≤ 40 → ∀ i, i < n → Li (S i).n (S i).N) {s : Shr} (hs : s.At w) (hl : Li s.n s.N) :
    Calls Tryz.prog 16 #[.pointer (some ⟨b, 0, none⟩), .slice A n c, .agg #[.int .i64 s.I, .slice s.A s.n s.c]] w (fun e w' => e = .returned (.int .i64 (chC r.P r.Q r.G (fun i => (S i).N) n s.I s.N)) ∧ Below w.heap.size w w') := by
  obtain ⟨I, As, ns, cs, V⟩ := s
  have hI := hs.1
  have hV : Nm w As ns cs V := hs.2
  clear hs
  simp only at hI hl ⊢
  have P2 := Lib.hid h.safe.p2
  have Q0 := Lib.hid (show 0 < r.Q by have := h.safe.q1; omega)
  have GP := Lib.hid (show 0 < r.P by have := h.safe.p2; omega)
  have n60 := hp.c60
  have px := sh_box w (.int .i64 I) (.slice As ns cs)
  have bl := below_al w (.cells #[.int .i64 I, .slice As ns cs] 41)
  have sp := (show w.heap.size < (w.alloc (.cells #[.int .i64 I, .slice As ns cs] 41)).heap.size by simp)
  obtain ⟨w0, hw0⟩ : ∃ w0, w.alloc (.cells #[.int .i64 I, .slice As ns cs] 41) = w0 := ⟨_, rfl⟩
  rw [hw0] at px bl sp
  have x0 := px.1
  have x1 := px.2
  have SP := Lib.hid sp
  have B0 := Lib.hid bl
  have HG := Lib.hid (h.below bl)
  have HP := Lib.hid (hp.below bl)
  have HV := Lib.hid (hV.below bl)
  have HS := Lib.hid hS
  have HL1 := Lib.hid (show ns ≤ 300 from hl.1)
  clear h hp hS hl hV px bl sp hI
  go_enter Tryz.func16, Tryz.ntmps16
  rcases Nat.lt_or_ge n 1 with g1 | g1
  · have e1 : decide ((n : Int) < 1) = true := by simp; omega
    have ec : chC r.P r.Q r.G (fun i => (S i).N) n I V = 1 := if_neg fun q => by have := q.1; omega
    go_wp2_with fail
    go_ret
    rw [ec]
    exact ⟨rfl, B0.out⟩
  have e1 : decide ((n : Int) < 1) = false := by simp; omega
  rcases Nat.lt_or_ge 32 n with g2 | g2
  · have e2 : decide ((32 : Int) < (n : Int)) = true := by simp; omega
    have ec : chC r.P r.Q r.G (fun i => (S i).N) n I V = 1 := if_neg fun q => by have := q.2.1; omega
    go_wp2_with fail
    go_ret
    rw [ec]
    exact ⟨rfl, B0.out⟩
  have e2 : decide ((32 : Int) < (n : Int)) = false := by simp; omega
  go_wp2_with fail
  refine (rplace_any I w0).mono ?_
  rintro e w1 ⟨rfl, rfl⟩
  rcases Classical.em (PlI I) with g3 | g3
  · have e3 : decide (PlI I) = true := by simp [g3]
    rw [e3]
    clear e1 e2 e3
    go_wp2_with fail
    refine (rlong9 HV.out).mono ?_
    rintro e w1 ⟨rfl, rfl⟩
    rcases Nat.lt_or_ge 64 (dl V) with g4 | g4
    · have e4 : decide (64 < dl V) = true := by simp; omega
      have ec : chC r.P r.Q r.G (fun i => (S i).N) n I V = 2 := (if_pos ⟨g1, g2, g3⟩).trans (if_pos g4)
      rw [e4]
      go_wp2_with fail
      go_ret
      rw [ec]
      exact ⟨rfl, B0.out⟩
    · have e4 : decide (64 < dl V) = false := by simp; omega
      rw [e4]
      go_wp2_with fail
      refine (rpublic_any HG.out HP.out HS.out I).mono ?_
      rintro e w1 ⟨D1, m1, d1, rfl, k1, b1⟩
      by_cases hel : ∀ t, t < n → El r.P r.Q ((fun i => (S i).N) t)
      · have ep : pubC r.P r.Q (fun i => (S i).N) n I = 0 := (if_pos ⟨g1, g2, g3⟩).trans (if_pos hel)
        rw [ep] at k1 ⊢
        rw [if_pos rfl] at k1
        have K1 := Lib.hid k1
        have L1 := Lib.hid (HG.out.p3 k1 (pubI_le P2.out _ n))
        have C1 := Lib.hid b1
        have EL := Lib.hid hel
        have bd := below_dr w1
        have BD := Lib.hid (b1.trans (bd.mono b1.size))
        have G1 := Lib.hid (HG.out.below BD.out)
        have V1 := Lib.hid (HV.out.below BD.out)
        have K1d := Lib.hid (k1.below bd)
        have v1 := G1.out.c2
        have v2 := (BD.out.cell (p := ⟨w.heap.size, 1, none⟩) SP.out).trans x1
        have LT := Lib.hid G1.out.lt
        have LS := Lib.hid (Nat.lt_of_lt_of_le SP.out BD.out.size)
        have LG := Lib.hid (G1.out.p3 G1.out.g (Int.le_of_lt G1.out.el.2.1))
        clear k1 b1 hel bd ep x0 x1
        go_wp2_with fail
        go_region_held (fun w' => w'.cell? ⟨b, 2, none⟩ = some (.slice r.AG r.nG r.cG) ∧ w'.cell? ⟨w.heap.size, 1, none⟩ = some (.slice As ns cs)) (first | exact ⟨p3, q3⟩ | exact ⟨p2, q2⟩ | exact ⟨p1, q1⟩ | exact ⟨v1, v2⟩ | go_keep | assumption)
          (first
          | (go_at_call 45; (with_reducible refine (rcmp_v K3.out (rn_bel9 K1d.out C3.out) (by have := L3.out; omega) (by have := L1.out; omega)).mono ?_); rintro e u4 ⟨rfl, b4⟩; have C4 := Lib.hid (C3.out.trans (b4.mono C3.out.size)); have p3 := (C4.out.cell (p := ⟨b, 2, none⟩) LT.out).trans v1; have q3 := (C4.out.cell (p := ⟨w.heap.size, 1, none⟩) LS.out).trans v2; clear b4)
          | (go_at_call 34; (with_reducible refine (rgx_any (G1.out.below C2.out).toRg G1.out.lp G1.out.lq GP.out Q0.out (rn_bel9 G1.out.g C2.out) K2.out LG.out (by have := L2.out; omega)).mono ?_); rintro e u3 ⟨D3, m3, d3, rfl, k3, b3⟩; have C3 := Lib.hid (C2.out.trans (b3.mono C2.out.size)); have K3 := Lib.hid k3; have L3 := Lib.hid (show m3 ≤ 300 from G1.out.p3 k3 (Int.le_of_lt (Int.emod_lt_of_pos _ GP.out))); have p2 := (C3.out.cell (p := ⟨b, 2, none⟩) LT.out).trans v1; have q2 := (C3.out.cell (p := ⟨w.heap.size, 1, none⟩) LS.out).trans v2; clear k3 b3)
          | (go_at_call 35; (with_reducible refine (of_nm9 V1.out (by have := HL1.out; omega)).mono ?_); rintro e u2 ⟨D2, m2, d2, rfl, k2, b2⟩; have C2 := Lib.hid b2; have K2 := Lib.hid k2; have L2 := Lib.hid (show m2 ≤ 256 by
              have h1 := k2.len_
              have h2 := dr_le k2.pos g4
              omega); have p1 := (C2.out.cell (p := ⟨b, 2, none⟩) LT.out).trans v1; have q1 := (C2.out.cell (p := ⟨w.heap.size, 1, none⟩) LS.out).trans v2; clear k2 b2))
        all_goals
          have B9 := Lib.hid ((B0.out.trans (BD.out.mono B0.out.size)).trans (C4.out.mono (B0.out.trans (BD.out.mono B0.out.size)).size))
          by_cases g : gx r.P r.Q r.G V = pubI r.P r.Q (fun i => (S i).N) I n
          · have e9 : (cmpI (gx r.P r.Q r.G V) (pubI r.P r.Q (fun i => (S i).N) I n) == 0) = true := by rw [cmpI_eq9]; simp [g]
            have ec : chC r.P r.Q r.G (fun i => (S i).N) n I V = 0 := (if_pos ⟨g1, g2, g3⟩).trans ((if_neg (by omega)).trans ((if_pos EL.out).trans (if_pos g)))
            go_wp2_with fail
            go_ret
            try rw [ec]
            exact ⟨rfl, B9.out⟩
          · have e9 : (cmpI (gx r.P r.Q r.G V) (pubI r.P r.Q (fun i => (S i).N) I n) == 0) = false := by rw [cmpI_eq9]; simp [g]
            have ec : chC r.P r.Q r.G (fun i => (S i).N) n I V = 7 := (if_pos ⟨g1, g2, g3⟩).trans ((if_neg (by omega)).trans ((if_pos EL.out).trans (if_neg g)))
            go_wp2_with fail
            go_ret
            try rw [ec]
            exact ⟨rfl, B9.out⟩
      · have ep : pubC r.P r.Q (fun i => (S i).N) n I = 8 := (if_pos ⟨g1, g2, g3⟩).trans (if_neg hel)
        have ec : chC r.P r.Q r.G (fun i => (S i).N) n I V = 8 := (if_pos ⟨g1, g2, g3⟩).trans ((if_neg (by omega)).trans (if_neg hel))
        rw [ep]
        have B9 := Lib.hid (B0.out.trans (b1.mono B0.out.size))
        clear k1 b1 hel ep
        go_wp2_with fail
        go_ret
        try rw [ec]
        exact ⟨rfl, B9.out⟩
  · have e3 : decide (PlI I) = false := by simp [g3]
    have ec : chC r.P r.Q r.G (fun i => (S i).N) n I V = 1 := if_neg fun q => g3 q.2.2
    rw [e3]
    go_wp2_with fail
    go_ret
    try rw [ec]
    exact ⟨rfl, B0.out⟩
end
end Go.Proofs.YtkecfdeepmhggaaGreat
