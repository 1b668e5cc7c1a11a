/-
  The document's group in memory; what its One and Is answer.
-/
import Derived.Test.YtloibmemlkfkfaaGreatDoorDoc
import Derived.Test.YtloibmemlkfkfaaGreatDoorGro
import Derived.Test.YtloibmemlkfkfaaGreatDoorExp
import Derived.Deep.RegionHeld3
import Derived.BigQuiet
import Derived.Deep.QuietTactic
namespace Go.Proofs.YtloibmemlkfkfaaGreatDoor
open Go.RowKit
set_option linter.unusedVariables false
/-- Where the document's group has its numbers. -/
structure Rgd where
  AP : Option Addr
  nP : Nat
  cP : Nat
  AQ : Option Addr
  nQ : Nat
  cQ : Nat
  AG : Option Addr
  nG : Nat
  cG : Nat
  P : Int
  Q : Int
  G : Int
def Rgd.cells (r : Rgd) (k : Nat) : Array Value := #[.slice r.AP r.nP r.cP, .slice r.AQ r.nQ r.cQ, .slice r.AG r.nG r.cG, .int .i64 (k : Int)]
structure Rg (w : World) (b : Nat) (r : Rgd) (k : Nat) : Prop where
  row : w.heap[b]? = some (.cells (r.cells k) 84 (0, 0))
  p : Rn w r.AP r.nP r.cP r.P
  q : Rn w r.AQ r.nQ r.cQ r.Q
  g : Rn w r.AG r.nG r.cG r.G
section
variable {w w' : World} {b k : Nat} {r : Rgd}
theorem Rg.lt (h : Rg w b r k) : b < w.heap.size := (Array.getElem?_eq_some_iff.1 h.row).1
theorem Rg.below (h : Rg w b r k) (hb : Below w.heap.size w w') : Rg w' b r k := ⟨(hb.block b h.lt).trans h.row, h.p.below hb, h.q.below hb, h.g.below hb⟩
theorem Rg.c0 (h : Rg w b r k) : w.cell? ⟨b, 0, none⟩ = some (.slice r.AP r.nP r.cP) := cell_of_row w b 0 _ _ (0, 0) h.row
theorem Rg.c1 (h : Rg w b r k) : w.cell? ⟨b, 1, none⟩ = some (.slice r.AQ r.nQ r.cQ) := cell_of_row w b 1 _ _ (0, 0) h.row
theorem Rg.c2 (h : Rg w b r k) : w.cell? ⟨b, 2, none⟩ = some (.slice r.AG r.nG r.cG) := cell_of_row w b 2 _ _ (0, 0) h.row
theorem Rg.c3 (h : Rg w b r k) : w.cell? ⟨b, 3, none⟩ = some (.int .i64 (k : Int)) := cell_of_row w b 3 _ _ (0, 0) h.row
theorem rone_any (w : World) : Calls Tryz.prog 73 #[] w (AnsN 1 w) := by
  go_enter Tryz.func73, Tryz.ntmps73
  go_wp2
  go_ret
  exact ⟨_, _, _, rfl, rlit w (by decide) (by decide), below_al _ _⟩
theorem Rn.drewN_ {A : Option Addr} {n c : Nat} {N : Int} (h : Rn w A n c N) (q : Nat) : Rn (w.drewN q) A n c N := ⟨h.rd.drewN q, h.nc, h.n60, h.pos⟩
theorem rcmp_quiet {A A' : Option Addr} {n c n' c' q : Nat} {N M : Int} (h : Rn w A n c N) (h' : Rn w A' n' c' M) (hn : n ≤ 100000) (hn' : n' ≤ 100000) :
    Calls Tryz.prog 54 #[.slice A n c, .slice A' n' c'] (w.drewN q) fun e w'' => e = .returned (.int .i64 (cmpI N M)) ∧ ∃ m, w'' = w.drewN m :=
  (rcmp_any (h.drewN_ q) (h'.drewN_ q) hn hn').mono fun _ _ ⟨he, m, hm⟩ => ⟨he, q + m, by rw [hm, World.drewN_drewN]⟩
/-- Is, of 0. -/
theorem ris_zero (h : Rg w b r k) {A : Option Addr} {n c : Nat} (hn : n = 0) :
    Calls Tryz.prog 48 #[.pointer (some ⟨b, 0, none⟩), .slice A n c] w (AnsV (.bool false) w) := by
  have t1 : decide ((0 : Int) < (n : Int)) = false := by simp; omega
  have t2 : decide (0 < n) = false := by simp; omega
  have q0 := h.c0
  have q1 := h.c1
  clear hn
  go_enter Tryz.func48, Tryz.ntmps48
  go_wp2_with fail
  go_quiet (fail)
  go_wp2
  go_ret
  exact ⟨rfl, below_drewN (Below.refl _ _) _⟩
set_option maxHeartbeats 2000000 in
/-- Is, of a number that isn't below P. -/
theorem ris_great (h : Rg w b r k) {A : Option Addr} {n c : Nat} {X : Int} (ha : Rn w A n c X) (hn : n ≤ 10000) (lp : r.nP ≤ 1000) (h1 : 1 ≤ X) (hx : r.P ≤ X) :
    Calls Tryz.prog 48 #[.pointer (some ⟨b, 0, none⟩), .slice A n c] w (AnsV (.bool false) w) := by
  have n0 : 0 < n := by
    have := dg_nil_iff D_two ha.pos
    have h2 : dr X ≠ 0 := fun e => by have := this.1 e; omega
    have := ha.len_
    omega
  have t1 : decide ((0 : Int) < (n : Int)) = true := by simp; omega
  have t2 : decide (cmpI X r.P < 0) = false := by
    simp
    rcases Int.lt_or_eq_of_le hx with g | g
    · rw [cmpI_gt g]; decide
    · rw [g, cmpI_eq]; decide
  have q0 := h.c0
  have q1 := h.c1
  have HA := Lib.hid ha
  have HP := Lib.hid h.p
  have n1 : (0 : Int) < (n : Int) := by omega
  clear hx ha
  go_enter Tryz.func48, Tryz.ntmps48
  go_wp2_with fail
  go_quiet ((go_at_call 54; exact rcmp_quiet HA.out HP.out (by omega) (by omega)))
  go_wp2
  go_ret
  exact ⟨rfl, below_drewN (Below.refl _ _) _⟩
set_option maxHeartbeats 8000000 in
/-- Is, of a number below P. -/
theorem ris_mid (h : Rg w b r k) {A : Option Addr} {n c : Nat} {X : Int} (ha : Rn w A n c X) (hn : n ≤ 300) (lp : r.nP ≤ 300) (lq : r.nQ ≤ 300) (h1 : 1 ≤ X) (hx : X < r.P) (s : Bool) (hs : decide (X ^ r.Q.toNat % r.P = 1) = s) :
    Calls Tryz.prog 48 #[.pointer (some ⟨b, 0, none⟩), .slice A n c] w (AnsV (.bool s) w) := by
  have n0 : 0 < n := by
    have := dg_nil_iff D_two ha.pos
    have h2 : dr X ≠ 0 := fun e => by have := this.1 e; omega
    have := ha.len_
    omega
  have p0 : 0 < r.P := by omega
  have t1 : decide ((0 : Int) < (n : Int)) = true := by simp; omega
  have t2 : decide (cmpI X r.P < 0) = true := by simp; rw [cmpI_lt hx]; decide
  obtain ⟨E, hE⟩ : ∃ E, X ^ r.Q.toNat % r.P = E := ⟨_, rfl⟩
  have t3 : ((cmpI E 1 : Int) == 0) = s := by
    rw [← hs, hE]
    by_cases g : E = 1
    · rw [g, cmpI_eq]; rfl
    · rw [decide_eq_false g]
      rcases Int.lt_or_gt_of_ne g with k | k
      · rw [cmpI_lt k]; rfl
      · rw [cmpI_gt k]; rfl
  have lE : dr E ≤ 300 := by
    rw [← hE]
    have h2 := dr_rest (N := X ^ r.Q.toNat) p0
    have h3 := h.p.len_
    omega
  have q0 := h.c0
  have q1 := h.c1
  have bd := below_dr w
  have HA := Lib.hid (ha.below bd)
  have HP := Lib.hid (h.p.below bd)
  have HQ := Lib.hid (h.q.below bd)
  have BD := Lib.hid bd
  have HE := Lib.hid hE
  have LT := Lib.hid h.lt
  clear hx bd hE hs h1
  have n1 : (0 : Int) < (n : Int) := by omega
  go_enter Tryz.func48, Tryz.ntmps48
  go_wp2_with fail
  go_region_held3 (fun w' => w'.cell? ⟨b, 0, none⟩ = some (.slice r.AP r.nP r.cP) ∧ w'.cell? ⟨b, 1, none⟩ = some (.slice r.AQ r.nQ r.cQ)) (first | exact ⟨q0, q1⟩ | exact ⟨r0, r1⟩ | exact ⟨s0, s1⟩ | exact ⟨u0, u1⟩ | exact ⟨v0, v1⟩ | go_keep | assumption)
    (first
    | (go_at_call 54; (first
        | ((with_reducible refine (rcmp_v HA.out HP.out (by omega) (by omega)).mono ?_); rintro e w1 ⟨rfl, b1⟩; have HA1 := Lib.hid (HA.out.below b1); have HP1 := Lib.hid (HP.out.below b1); have HQ1 := Lib.hid (HQ.out.below b1); have r0 := (b1.cell (p := ⟨b, 0, none⟩) LT.out).trans q0; have r1 := (b1.cell (p := ⟨b, 1, none⟩) LT.out).trans q1; have LT1 := Lib.hid (Nat.lt_of_lt_of_le LT.out b1.size))
        | ((with_reducible refine (rcmp_v kE kO (by omega) (by omega)).mono ?_); rintro e w4 ⟨rfl, b4⟩; have v0 := (b4.cell (p := ⟨b, 0, none⟩) (Nat.lt_of_lt_of_le LT.out b13.size)).trans u0; have v1 := (b4.cell (p := ⟨b, 1, none⟩) (Nat.lt_of_lt_of_le LT.out b13.size)).trans u1)))
    | (go_at_call 86; (first
        | ((with_reducible refine (rexp_any HA1.out HQ1.out HP1.out hn lq lp p0).mono ?_); rintro e w2 ⟨BE, nE, cE, rfl, kE, bE⟩; rw [HE.out] at kE; have hnE : nE ≤ 300 := (by have := kE.len_; omega); have b12 := b1.trans (bE.mono b1.size); have s0 := (bE.cell (p := ⟨b, 0, none⟩) LT1.out).trans r0; have s1 := (bE.cell (p := ⟨b, 1, none⟩) LT1.out).trans r1)
        | ((with_reducible refine (rexp_any HA2.out HQ2.out HP2.out hn lq lp p0).mono ?_); rintro e w3 ⟨BE, nE, cE, rfl, kE, bE⟩; rw [HE.out] at kE; have hnE : nE ≤ 300 := (by have := kE.len_; omega); have kO := kO.below bE; have b13 := b12.trans (bE.mono b12.size); have u0 := (bE.cell (p := ⟨b, 0, none⟩) (Nat.lt_of_lt_of_le LT.out b12.size)).trans s0; have u1 := (bE.cell (p := ⟨b, 1, none⟩) (Nat.lt_of_lt_of_le LT.out b12.size)).trans s1)))
    | (go_at_call 73; (first
        | (have := kE; refine (rone_any w2).mono ?_; rintro e w3 ⟨BO, nO, cO, rfl, kO, bO⟩; have hnO : nO ≤ 300 := (by have h1 := kO.len_; have h2 : dr 1 = 1 := (by unfold dr; rw [dgD_one (by decide) (by decide)]; rfl); omega); have kE := kE.below bO; have b13 := b12.trans (bO.mono b12.size); have u0 := (bO.cell (p := ⟨b, 0, none⟩) (Nat.lt_of_lt_of_le LT.out b12.size)).trans s0; have u1 := (bO.cell (p := ⟨b, 1, none⟩) (Nat.lt_of_lt_of_le LT.out b12.size)).trans s1)
        | (refine (rone_any w1).mono ?_; rintro e w2 ⟨BO, nO, cO, rfl, kO, bO⟩; have hnO : nO ≤ 300 := (by have h1 := kO.len_; have h2 : dr 1 = 1 := (by unfold dr; rw [dgD_one (by decide) (by decide)]; rfl); omega); have HA2 := Lib.hid (HA1.out.below bO); have HP2 := Lib.hid (HP1.out.below bO); have HQ2 := Lib.hid (HQ1.out.below bO); have b12 := b1.trans (bO.mono b1.size); have s0 := (bO.cell (p := ⟨b, 0, none⟩) LT1.out).trans r0; have s1 := (bO.cell (p := ⟨b, 1, none⟩) LT1.out).trans r1))))
  all_goals
    have b14 := b13.trans (b4.mono b13.size)
    have G := Lib.hid (BD.out.trans (b14.mono BD.out.size))
    clear b14 b13 b4
    go_wp2
    go_ret
    exact ⟨rfl, G.out⟩
/-- Is, of any number. -/
theorem ris_any (h : Rg w b r k) {A : Option Addr} {n c : Nat} {X : Int} (ha : Rn w A n c X) (hn : n ≤ 300) (lp : r.nP ≤ 300) (lq : r.nQ ≤ 300) (s : Bool) (hs : s = true ↔ El r.P r.Q X) :
    Calls Tryz.prog 48 #[.pointer (some ⟨b, 0, none⟩), .slice A n c] w (AnsV (.bool s) w) := by
  rcases Int.lt_or_eq_of_le ha.pos with g | g
  · rcases Int.lt_or_le X r.P with k | k
    · refine ris_mid h ha hn lp lq (by omega) k s ?_
      cases s with
      | true => exact decide_eq_true (hs.1 rfl).2.2
      | false => exact decide_eq_false fun e => by have := hs.2 ⟨by omega, k, e⟩; cases this
    · obtain rfl : s = false := by
        cases s with
        | false => rfl
        | true => have := (hs.1 rfl).2.1; omega
      exact ris_great h ha (by omega) (by omega) (by omega) k
  · subst g
    obtain rfl : n = 0 := by have := ha.len_; rw [this]; unfold dr; rw [dg_zero]; rfl
    obtain rfl : s = false := by
      cases s with
      | false => rfl
      | true => have := (hs.1 rfl).1; omega
    exact ris_zero h rfl
end
end Go.Proofs.YtloibmemlkfkfaaGreatDoor
