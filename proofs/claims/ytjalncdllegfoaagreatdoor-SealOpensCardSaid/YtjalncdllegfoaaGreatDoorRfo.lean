/-
  Several texts in one: R4, R4M, RFrom, R7a, R7b.
-/
import Derived.Test.YtjalncdllegfoaaGreatDoorDoc
import Derived.Test.YtjalncdllegfoaaGreatDoorGro
import Derived.Test.YtjalncdllegfoaaGreatDoorPkm
import Derived.Deep.RegionHeld3
import Derived.BigQuiet
import Derived.Deep.QuietTactic
import Derived.Test.YtjalncdllegfoaaGreatDoorMxx
import Derived.Test.YtjalncdllegfoaaGreatDoorPkg
import Derived.Test.YtjalncdllegfoaaGreatDoorPkf
/-
  The document's group in memory; what its One and Is answer.
-/
namespace Go.Proofs.YtjalncdllegfoaaGreatDoor
open Go.RowKit
set_option linter.unusedVariables false
/-- Where the document's group has its numbers. -/
structure Rgd where
  AP : Option Addr
  nP : Nat
  cP : Nat
  AQ : Option Addr
  nQ : Nat
  cQ : Nat
  AG : Option Addr
  nG : Nat
  cG : Nat
  P : Int
  Q : Int
  G : Int
def Rgd.cells (r : Rgd) (k : Nat) : Array Value := #[.slice r.AP r.nP r.cP, .slice r.AQ r.nQ r.cQ, .slice r.AG r.nG r.cG, .int .i64 (k : Int)]
structure Rg (w : World) (b : Nat) (r : Rgd) (k : Nat) : Prop where
  row : w.heap[b]? = some (.cells (r.cells k) 75 (0, 0))
  p : Rn w r.AP r.nP r.cP r.P
  q : Rn w r.AQ r.nQ r.cQ r.Q
  g : Rn w r.AG r.nG r.cG r.G
section
variable {w w' : World} {b k : Nat} {r : Rgd}
theorem Rg.lt (h : Rg w b r k) : b < w.heap.size := (Array.getElem?_eq_some_iff.1 h.row).1
theorem Rg.below (h : Rg w b r k) (hb : Below w.heap.size w w') : Rg w' b r k := ⟨(hb.block b h.lt).trans h.row, h.p.below hb, h.q.below hb, h.g.below hb⟩
theorem Rg.c0 (h : Rg w b r k) : w.cell? ⟨b, 0, none⟩ = some (.slice r.AP r.nP r.cP) := cell_of_row w b 0 _ _ (0, 0) h.row
theorem Rg.c1 (h : Rg w b r k) : w.cell? ⟨b, 1, none⟩ = some (.slice r.AQ r.nQ r.cQ) := cell_of_row w b 1 _ _ (0, 0) h.row
theorem Rg.c2 (h : Rg w b r k) : w.cell? ⟨b, 2, none⟩ = some (.slice r.AG r.nG r.cG) := cell_of_row w b 2 _ _ (0, 0) h.row
theorem Rg.c3 (h : Rg w b r k) : w.cell? ⟨b, 3, none⟩ = some (.int .i64 (k : Int)) := cell_of_row w b 3 _ _ (0, 0) h.row
theorem rone_any (w : World) : Calls Tryz.prog 45 #[] w (AnsN 1 w) := by
  go_enter Tryz.func45, Tryz.ntmps45
  go_wp2
  go_ret
  exact ⟨_, _, _, rfl, rlit w (by decide) (by decide), below_al _ _⟩
theorem Rn.drewN_ {A : Option Addr} {n c : Nat} {N : Int} (h : Rn w A n c N) (q : Nat) : Rn (w.drewN q) A n c N := ⟨h.rd.drewN q, h.nc, h.n60, h.pos⟩
theorem rcmp_quiet {A A' : Option Addr} {n c n' c' q : Nat} {N M : Int} (h : Rn w A n c N) (h' : Rn w A' n' c' M) (hn : n ≤ 100000) (hn' : n' ≤ 100000) :
    Calls Tryz.prog 44 #[.slice A n c, .slice A' n' c'] (w.drewN q) fun e w'' => e = .returned (.int .i64 (cmpI N M)) ∧ ∃ m, w'' = w.drewN m :=
  (rcmp_any (h.drewN_ q) (h'.drewN_ q) hn hn').mono fun _ _ ⟨he, m, hm⟩ => ⟨he, q + m, by rw [hm, World.drewN_drewN]⟩
/-- Is, of 0. -/
theorem ris_zero (h : Rg w b r k) {A : Option Addr} {n c : Nat} (hn : n = 0) :
    Calls Tryz.prog 26 #[.pointer (some ⟨b, 0, none⟩), .slice A n c] w (AnsV (.bool false) w) := by
  have t1 : decide ((0 : Int) < (n : Int)) = false := by simp; omega
  have t2 : decide (0 < n) = false := by simp; omega
  have q0 := h.c0
  have q1 := h.c1
  clear hn
  go_enter Tryz.func26, Tryz.ntmps26
  go_wp2_with fail
  go_quiet (fail)
  go_wp2
  go_ret
  exact ⟨rfl, below_drewN (Below.refl _ _) _⟩
set_option maxHeartbeats 2000000 in
/-- Is, of a number that isn't below P. -/
theorem ris_great (h : Rg w b r k) {A : Option Addr} {n c : Nat} {X : Int} (ha : Rn w A n c X) (hn : n ≤ 10000) (lp : r.nP ≤ 1000) (h1 : 1 ≤ X) (hx : r.P ≤ X) :
    Calls Tryz.prog 26 #[.pointer (some ⟨b, 0, none⟩), .slice A n c] w (AnsV (.bool false) w) := by
  have n0 : 0 < n := by
    have := dg_nil_iff D_two ha.pos
    have h2 : dr X ≠ 0 := fun e => by have := this.1 e; omega
    have := ha.len_
    omega
  have t1 : decide ((0 : Int) < (n : Int)) = true := by simp; omega
  have t2 : decide (cmpI X r.P < 0) = false := by
    simp
    rcases Int.lt_or_eq_of_le hx with g | g
    · rw [cmpI_gt g]; decide
    · rw [g, cmpI_eq]; decide
  have q0 := h.c0
  have q1 := h.c1
  have HA := Lib.hid ha
  have HP := Lib.hid h.p
  have n1 : (0 : Int) < (n : Int) := by omega
  clear hx ha
  go_enter Tryz.func26, Tryz.ntmps26
  go_wp2_with fail
  go_quiet ((go_at_call 44; exact rcmp_quiet HA.out HP.out (by omega) (by omega)))
  go_wp2
  go_ret
  exact ⟨rfl, below_drewN (Below.refl _ _) _⟩
set_option maxHeartbeats 8000000 in
/-- Is, of a number below P. -/
theorem ris_mid (h : Rg w b r k) {A : Option Addr} {n c : Nat} {X : Int} (ha : Rn w A n c X) (hn : n ≤ 300) (lp : r.nP ≤ 300) (lq : r.nQ ≤ 300) (h1 : 1 ≤ X) (hx : X < r.P) (s : Bool) (hs : decide (X ^ r.Q.toNat % r.P = 1) = s) :
    Calls Tryz.prog 26 #[.pointer (some ⟨b, 0, none⟩), .slice A n c] w (AnsV (.bool s) w) := by
  have n0 : 0 < n := by
    have := dg_nil_iff D_two ha.pos
    have h2 : dr X ≠ 0 := fun e => by have := this.1 e; omega
    have := ha.len_
    omega
  have p0 : 0 < r.P := by omega
  have t1 : decide ((0 : Int) < (n : Int)) = true := by simp; omega
  have t2 : decide (cmpI X r.P < 0) = true := by simp; rw [cmpI_lt hx]; decide
  obtain ⟨E, hE⟩ : ∃ E, X ^ r.Q.toNat % r.P = E := ⟨_, rfl⟩
  have t3 : ((cmpI E 1 : Int) == 0) = s := by
    rw [← hs, hE]
    by_cases g : E = 1
    · rw [g, cmpI_eq]; rfl
    · rw [decide_eq_false g]
      rcases Int.lt_or_gt_of_ne g with k | k
      · rw [cmpI_lt k]; rfl
      · rw [cmpI_gt k]; rfl
  have lE : dr E ≤ 300 := by
    rw [← hE]
    have h2 := dr_rest (N := X ^ r.Q.toNat) p0
    have h3 := h.p.len_
    omega
  have q0 := h.c0
  have q1 := h.c1
  have bd := below_dr w
  have HA := Lib.hid (ha.below bd)
  have HP := Lib.hid (h.p.below bd)
  have HQ := Lib.hid (h.q.below bd)
  have BD := Lib.hid bd
  have HE := Lib.hid hE
  have LT := Lib.hid h.lt
  clear hx bd hE hs h1
  have n1 : (0 : Int) < (n : Int) := by omega
  go_enter Tryz.func26, Tryz.ntmps26
  go_wp2_with fail
  go_region_held3 (fun w' => w'.cell? ⟨b, 0, none⟩ = some (.slice r.AP r.nP r.cP) ∧ w'.cell? ⟨b, 1, none⟩ = some (.slice r.AQ r.nQ r.cQ)) (first | exact ⟨q0, q1⟩ | exact ⟨r0, r1⟩ | exact ⟨s0, s1⟩ | exact ⟨u0, u1⟩ | exact ⟨v0, v1⟩ | go_keep | assumption)
    (first
    | (go_at_call 44; (first
        | ((with_reducible refine (rcmp_v HA.out HP.out (by omega) (by omega)).mono ?_); rintro e w1 ⟨rfl, b1⟩; have HA1 := Lib.hid (HA.out.below b1); have HP1 := Lib.hid (HP.out.below b1); have HQ1 := Lib.hid (HQ.out.below b1); have r0 := (b1.cell (p := ⟨b, 0, none⟩) LT.out).trans q0; have r1 := (b1.cell (p := ⟨b, 1, none⟩) LT.out).trans q1; have LT1 := Lib.hid (Nat.lt_of_lt_of_le LT.out b1.size))
        | ((with_reducible refine (rcmp_v kE kO (by omega) (by omega)).mono ?_); rintro e w4 ⟨rfl, b4⟩; have v0 := (b4.cell (p := ⟨b, 0, none⟩) (Nat.lt_of_lt_of_le LT.out b13.size)).trans u0; have v1 := (b4.cell (p := ⟨b, 1, none⟩) (Nat.lt_of_lt_of_le LT.out b13.size)).trans u1)))
    | (go_at_call 54; (first
        | ((with_reducible refine (rexp_any HA1.out HQ1.out HP1.out hn lq lp p0).mono ?_); rintro e w2 ⟨BE, nE, cE, rfl, kE, bE⟩; rw [HE.out] at kE; have hnE : nE ≤ 300 := (by have := kE.len_; omega); have b12 := b1.trans (bE.mono b1.size); have s0 := (bE.cell (p := ⟨b, 0, none⟩) LT1.out).trans r0; have s1 := (bE.cell (p := ⟨b, 1, none⟩) LT1.out).trans r1)
        | ((with_reducible refine (rexp_any HA2.out HQ2.out HP2.out hn lq lp p0).mono ?_); rintro e w3 ⟨BE, nE, cE, rfl, kE, bE⟩; rw [HE.out] at kE; have hnE : nE ≤ 300 := (by have := kE.len_; omega); have kO := kO.below bE; have b13 := b12.trans (bE.mono b12.size); have u0 := (bE.cell (p := ⟨b, 0, none⟩) (Nat.lt_of_lt_of_le LT.out b12.size)).trans s0; have u1 := (bE.cell (p := ⟨b, 1, none⟩) (Nat.lt_of_lt_of_le LT.out b12.size)).trans s1)))
    | (go_at_call 45; (first
        | (have := kE; refine (rone_any w2).mono ?_; rintro e w3 ⟨BO, nO, cO, rfl, kO, bO⟩; have hnO : nO ≤ 300 := (by have h1 := kO.len_; have h2 : dr 1 = 1 := (by unfold dr; rw [dgD_one (by decide) (by decide)]; rfl); omega); have kE := kE.below bO; have b13 := b12.trans (bO.mono b12.size); have u0 := (bO.cell (p := ⟨b, 0, none⟩) (Nat.lt_of_lt_of_le LT.out b12.size)).trans s0; have u1 := (bO.cell (p := ⟨b, 1, none⟩) (Nat.lt_of_lt_of_le LT.out b12.size)).trans s1)
        | (refine (rone_any w1).mono ?_; rintro e w2 ⟨BO, nO, cO, rfl, kO, bO⟩; have hnO : nO ≤ 300 := (by have h1 := kO.len_; have h2 : dr 1 = 1 := (by unfold dr; rw [dgD_one (by decide) (by decide)]; rfl); omega); have HA2 := Lib.hid (HA1.out.below bO); have HP2 := Lib.hid (HP1.out.below bO); have HQ2 := Lib.hid (HQ1.out.below bO); have b12 := b1.trans (bO.mono b1.size); have s0 := (bO.cell (p := ⟨b, 0, none⟩) LT1.out).trans r0; have s1 := (bO.cell (p := ⟨b, 1, none⟩) LT1.out).trans r1))))
  all_goals
    have b14 := b13.trans (b4.mono b13.size)
    have G := Lib.hid (BD.out.trans (b14.mono BD.out.size))
    clear b14 b13 b4
    go_wp2
    go_ret
    exact ⟨rfl, G.out⟩
/-- Is, of any number. -/
theorem ris_any (h : Rg w b r k) {A : Option Addr} {n c : Nat} {X : Int} (ha : Rn w A n c X) (hn : n ≤ 300) (lp : r.nP ≤ 300) (lq : r.nQ ≤ 300) (s : Bool) (hs : s = true ↔ El r.P r.Q X) :
    Calls Tryz.prog 26 #[.pointer (some ⟨b, 0, none⟩), .slice A n c] w (AnsV (.bool s) w) := by
  rcases Int.lt_or_eq_of_le ha.pos with g | g
  · rcases Int.lt_or_le X r.P with k | k
    · refine ris_mid h ha hn lp lq (by omega) k s ?_
      cases s with
      | true => exact decide_eq_true (hs.1 rfl).2.2
      | false => exact decide_eq_false fun e => by have := hs.2 ⟨by omega, k, e⟩; cases this
    · obtain rfl : s = false := by
        cases s with
        | false => rfl
        | true => have := (hs.1 rfl).2.1; omega
      exact ris_great h ha (by omega) (by omega) (by omega) k
  · subst g
    obtain rfl : n = 0 := by have := ha.len_; rw [this]; unfold dr; rw [dg_zero]; rfl
    obtain rfl : s = false := by
      cases s with
      | false => rfl
      | true => have := (hs.1 rfl).1; omega
    exact ris_zero h rfl
end
end Go.Proofs.YtjalncdllegfoaaGreatDoor
/-
  The document's group: what Mul, Exp and Inverse answer.
-/
namespace Go.Proofs.YtjalncdllegfoaaGreatDoor
open Go.RowKit
set_option linter.unusedVariables false
section
variable {w : World} {b k : Nat} {r : Rgd} {A A' : Option Addr} {n c n' c' : Nat} {X Y : Int}
set_option maxHeartbeats 4000000 in
theorem rgx_any (h : Rg w b r k) (lp : r.nP ≤ 300) (lq : r.nQ ≤ 300) (p0 : 0 < r.P) (q0' : 0 < r.Q) (ha : Rn w A n c X) (hb : Rn w A' n' c' Y) (hn : n ≤ 300) (hn' : n' ≤ 1000) :
    Calls Tryz.prog 27 #[.pointer (some ⟨b, 0, none⟩), .slice A n c, .slice A' n' c'] w (AnsN (gx r.P r.Q X Y) w) := by
  have q0 := h.c0
  have q1 := h.c1
  have bd := below_dr w
  have HA := Lib.hid (ha.below bd)
  have HB := Lib.hid (hb.below bd)
  have HP := Lib.hid (h.p.below bd)
  have HQ := Lib.hid (h.q.below bd)
  have BD := Lib.hid bd
  have LT := Lib.hid h.lt
  have HY := Lib.hid hb.pos
  have lQ := Lib.hid h.q.len_
  clear bd h ha hb
  go_enter Tryz.func27, Tryz.ntmps27
  go_wp2_with fail
  go_region_held (fun w' => w'.cell? ⟨b, 0, none⟩ = some (.slice r.AP r.nP r.cP) ∧ w'.cell? ⟨b, 1, none⟩ = some (.slice r.AQ r.nQ r.cQ)) (first | exact ⟨q0, q1⟩ | exact ⟨r0, r1⟩ | exact ⟨s0, s1⟩ | go_keep | assumption)
    (first
    | (go_at_call 55; (with_reducible refine (rrest_any HB.out HQ.out hn' (by omega) q0').mono ?_); rintro e w1 ⟨B1, m1, c1, rfl, k1, b1⟩; have hm1 : m1 ≤ 300 := (by have h1 := k1.len_; have h2 := dr_rest (N := Y) q0'; have h3 := lQ.out; omega); have HK1 := Lib.hid k1; have HP1 := Lib.hid (HP.out.below b1); have HA1 := Lib.hid (HA.out.below b1); have r0 := (b1.cell (p := ⟨b, 0, none⟩) LT.out).trans q0; have r1 := (b1.cell (p := ⟨b, 1, none⟩) LT.out).trans q1; have LT1 := Lib.hid (Nat.lt_of_lt_of_le LT.out b1.size); have B01 := Lib.hid b1; clear k1 b1)
    | (go_at_call 54; (with_reducible refine (rexp_any HA1.out HK1.out HP1.out hn hm1 lp p0).mono ?_); rintro e w2 ⟨B2, m2, c2, rfl, k2, b2⟩; have s0 := (b2.cell (p := ⟨b, 0, none⟩) LT1.out).trans r0; have s1 := (b2.cell (p := ⟨b, 1, none⟩) LT1.out).trans r1; have HK2 := Lib.hid k2; have B02 := Lib.hid (B01.out.trans (b2.mono B01.out.size)); clear k2 b2))
  all_goals
    go_wp2_with fail
    go_ret
    exact ⟨_, _, _, rfl, HK2.out, BD.out.trans (B02.out.mono BD.out.size)⟩
end
end Go.Proofs.YtjalncdllegfoaaGreatDoor
/-
  The document's own way from bytes and to bytes: what treenailref01.From and Bytes answer; treenaillaw00.Code.
-/
namespace Go.Proofs.YtjalncdllegfoaaGreatDoor
open Go.RowKit
set_option linter.unusedVariables false
/-- The number that the first k bytes are, the highest first. -/
def pv (bs : List Int) : Nat → Int
  | 0 => 0
  | k + 1 => pv bs k * 256 + dig bs k
theorem pv_low (bs : List Int) (n : Nat) : ∀ m, m ≤ n → pv bs m * 256 ^ (n - m) + low bs n (n - m) = low bs n n := by
  intro m
  induction m with
  | zero => intro _; simp [pv]
  | succ m ih =>
    intro hm
    have h := ih (by omega)
    have e1 : n - m = (n - (m + 1)) + 1 := by omega
    rw [e1, low_succ, Int.pow_succ, show n - 1 - (n - (m + 1)) = m by omega] at h
    simp only [pv]
    rw [← h]
    generalize (256 : Int) ^ (n - (m + 1)) = p
    grind
theorem pv_all (bs : List Int) (n : Nat) : pv bs n = low bs n n := by
  have h := pv_low bs n n (Nat.le_refl _)
  simpa [low, vf] using h
theorem pv_bd {bs : List Int} (hd : Dig 256 bs) (k : Nat) : 0 ≤ pv bs k ∧ pv bs k < 256 ^ k := by
  induction k with
  | zero => simp [pv]
  | succ k ih =>
    have d := dig_bd (b := 256) (by decide) hd k
    have e : (256 : Int) ^ (k + 1) = 256 ^ k * 256 := Int.pow_succ _ _
    simp only [pv]
    rw [e]
    have := Int.mul_le_mul_of_nonneg_right (show pv bs k + 1 ≤ 256 ^ k by omega) (show (0 : Int) ≤ 256 by decide)
    omega
theorem pow_D256 : (256 : Int) ^ 512 = D ^ 256 := by
  have h1 : (256 : Int) = 2 ^ 8 := by decide
  rw [D_pow, h1, ← Int.pow_mul]
theorem dr_pow {x : Int} {k : Nat} (h0 : 0 ≤ x) (h : x < 256 ^ k) (hk : k ≤ 512) : dr x ≤ 256 := by
  refine dg_len_le D_two h0 ?_
  have := pow_mono (b := 256) (by decide) hk
  rw [← pow_D256]; omega
theorem dr_pow2 {x : Int} {k : Nat} (h0 : 0 ≤ x) (h : x < 256 ^ k) (hk : k ≤ 512) : dr (x * 256) ≤ 257 := by
  refine dg_len_le D_two (by omega) ?_
  have := pow_mono (b := 256) (by decide) hk
  have e : D ^ 257 = D ^ 256 * D := Int.pow_succ _ _
  rw [e, ← pow_D256]
  generalize (256 : Int) ^ 512 = p at *
  have h3 := Int.mul_le_mul_of_nonneg_left (show (256 : Int) ≤ D by decide) (show 0 ≤ p by omega)
  omega
theorem Rn.drew_ {w : World} {A : Option Addr} {n c : Nat} {N : Int} (h : Rn w A n c N) : Rn w.drew A n c N := ⟨h.rd.drew, h.nc, h.n60, h.pos⟩
theorem rlit2 (w : World) (b : Int) : Rn ((w.alloc (.cells #[.int .i64 b] 3)).alloc (.cells #[.int .i64 256] 3)).drew (some ⟨w.heap.size + 1, 0, none⟩) 1 1 256 := by
  have h := rlit (w.alloc (.cells #[.int .i64 b] 3)) (x := 256) (by decide) (by decide)
  have e : (w.alloc (.cells #[.int .i64 b] 3)).heap.size = w.heap.size + 1 := by simp
  rw [e] at h
  exact h.drew_
theorem below_dr1 {w w' : World} {o : Obj} (h : Below (w.alloc o).drew.heap.size (w.alloc o).drew w') : Below w.heap.size w w' :=
  (((Below.refl _ _).alloc (Nat.le_refl _) _).drew).trans (h.mono (by show w.heap.size ≤ (w.alloc o).heap.size; simp))
theorem below_dr2 {w w' : World} {o o' : Obj} (h : Below ((w.alloc o).alloc o').drew.heap.size ((w.alloc o).alloc o').drew w') : Below w.heap.size w w' :=
  below_one (below_dr1 h)
theorem row_b1 {w w' : World} {b : Int} {o' : Obj} (h : Below ((w.alloc (.cells #[.int .i64 b] 3)).alloc o').drew.heap.size ((w.alloc (.cells #[.int .i64 b] 3)).alloc o').drew w') : Row w' w.heap.size 3 .i64 [b] :=
  ((Row.new w 3 .i64 [b]).alloc o').drew.below h (by show w.heap.size < ((w.alloc _).alloc o').heap.size; simp; omega)
theorem row_b2 {w w' : World} {b : Int} {o : Obj} (h : Below ((w.alloc o).alloc (.cells #[.int .i64 b] 3)).drew.heap.size ((w.alloc o).alloc (.cells #[.int .i64 b] 3)).drew w') : Row w' (w.heap.size + 1) 3 .i64 [b] := by
  have hr := Row.new (w.alloc o) 3 .i64 [b]
  have e : (w.alloc o).heap.size = w.heap.size + 1 := by simp
  rw [e] at hr
  exact hr.drew.below h (by show w.heap.size + 1 < ((w.alloc o).alloc _).heap.size; simp)
theorem row_n (w : World) (b : Int) : Row (w.alloc (.cells #[.int .i64 b] 3)) w.heap.size 3 .i64 [b] := Row.new w 3 .i64 [b]
theorem trim_lit {w : World} {g : Nat} {b : Int} (hr : Row w g 3 .i64 [b]) (h0 : 0 ≤ b) (h1 : b < 65536) :
    Calls Tryz.prog 53 #[.slice (some ⟨g, 0, none⟩) 1 1] w fun e w' => (∃ m, e = .returned (.slice (some ⟨g, 0, none⟩) m 1) ∧ Rn w (some ⟨g, 0, none⟩) m 1 b ∧ m ≤ 1) ∧ w = w' := by
  have hrd : Rd .i64 w (some ⟨g, 0, none⟩) 1 [b] := hr.rd rfl (fun j y hy => by rwa [Nat.zero_add])
  have hd : Dig D [b] := fun x hx => by simp at hx; subst hx; exact ⟨h0, h1⟩
  have e : val D [b] = b := by simp [val]
  have k := trim_own hrd hd (Nat.le_refl 1) (by omega)
  rw [e] at k
  refine (trim_any _ 1 1 [b] w hrd hd (Nat.le_refl _) (by omega)).mono fun e' w' ⟨he, hw⟩ => ⟨⟨dr b, by rw [he, e], k, k.nc⟩, hw⟩
def RfR (bs : List Int) (n : Nat) (w : World) (o i : Value) (wr : World) : Prop :=
  ∃ (k : Nat) (B : Option Addr) (m cap : Nat), k ≤ n ∧ i = .int .i64 k ∧ o = .slice B m cap ∧ Rn wr B m cap (pv bs k) ∧ Below w.heap.size w wr
/-! ### Bytes -/
theorem rbyte {xs : List Int} (hd : Dig D xs) (i : Nat) : dig xs (i / 2) / 2 ^ (8 * (i % 2)) % 256 = val D xs / 256 ^ i % 256 := by
  have h := val_vf D xs (m := i / 2 + 1 + xs.length) (by omega)
  rw [vf_split D (dig xs) (i / 2 + 1) xs.length] at h
  have hlow := vf_bd (b := D) (by decide) (fun j => dig_bd (b := D) (by decide) hd j) (i / 2)
  generalize vf D (fun j => dig xs (i / 2 + 1 + j)) xs.length = hi at h
  simp only [vf] at h
  rw [h]
  have e0 : (256 : Int) ^ i = 2 ^ (16 * (i / 2) + 8 * (i % 2)) := by
    have : (256 : Int) = 2 ^ 8 := by decide
    rw [this, ← Int.pow_mul]; congr 1; omega
  have e1 : (256 : Int) ^ i = D ^ (i / 2) * 2 ^ (8 * (i % 2)) := by rw [e0, Int.pow_add, D_pow]
  have e2 : D ^ (i / 2 + 1) = D ^ (i / 2) * D := Int.pow_succ _ _
  have e3 : D = 2 ^ (8 * (i % 2)) * 2 ^ (8 - 8 * (i % 2)) * 256 := by
    rcases Nat.mod_two_eq_zero_or_one i with g | g <;> rw [g] <;> decide
  have hp := pow_pos' D_two (i / 2)
  have hp2 : (0 : Int) < 2 ^ (8 * (i % 2)) := Int.pow_pos (by decide)
  have e4 : vf D (dig xs) (i / 2) + dig xs (i / 2) * D ^ (i / 2) + D ^ (i / 2 + 1) * hi = vf D (dig xs) (i / 2) + D ^ (i / 2) * (dig xs (i / 2) + D * hi) := by rw [e2]; grind
  rw [e4, e1, ← Int.ediv_ediv_of_nonneg (Int.le_of_lt hp), Int.add_mul_ediv_left _ _ (Int.ne_of_gt hp), Int.ediv_eq_zero_of_lt hlow.1 hlow.2, Int.zero_add]
  have e5 : dig xs (i / 2) + D * hi = dig xs (i / 2) + 2 ^ (8 * (i % 2)) * (256 * (2 ^ (8 - 8 * (i % 2)) * hi)) := by
    have : D * hi = 2 ^ (8 * (i % 2)) * (256 * (2 ^ (8 - 8 * (i % 2)) * hi)) := by
      conv => lhs; rw [e3]
      generalize (2 : Int) ^ (8 * (i % 2)) = p
      generalize (2 : Int) ^ (8 - 8 * (i % 2)) = q
      grind
    rw [this]
  rw [e5, Int.add_mul_ediv_left _ _ (Int.ne_of_gt hp2), Int.add_mul_emod_self_left]
def RyP (N : Int) (l : Nat) (w : World) (e : Ending) (w' : World) : Prop :=
  e = .returned (.tuple #[.slice (some ⟨w.heap.size, 0, none⟩) l l, .bool (decide ((nb N : Int) ≤ 8 * (l : Int)))]) ∧ Row w' w.heap.size 5 .u8 (bytesL N l) ∧ Below w.heap.size w w'
set_option maxHeartbeats 4000000 in
theorem rbytes_any {A : Option Addr} {n c : Nat} {N : Int} {w : World} (h : Rn w A n c N) (hn : n ≤ 100000) (l : Nat) (hl : l ≤ 1024) :
    Calls Tryz.prog 93 #[.slice A n c, .int .i64 l] w (RyP N l w) := by
  have hmk := fun W => run_make8 l (C := (l : Int)) rfl (by omega) W
  obtain ⟨Z, hZ⟩ : ∃ Z : List Int, Z = List.replicate l 0 := ⟨_, rfl⟩
  rw [← hZ] at hmk
  have HZ := Lib.hid hZ
  clear hZ
  have hXd := dig_dg D_two h.pos
  have hbb := rbyte hXd
  rw [val_dg D_two h.pos] at hbb
  have HBB := Lib.hid hbb
  have DX := Lib.hid (dig_D hXd)
  clear hbb
  go_enter Tryz.func93, Tryz.ntmps93
  go_wp2_with fail
  clear hmk
  go_loopw [7] (fun i wr => BytR N l w i wr) (fun i _ => l - (intOf i).toNat)
  case atStart =>
    exact ⟨0, Z, Nat.zero_le _, rfl, Row.new _ _ _ _, by rw [HZ.out]; simp, fun j h1 h2 => by omega, (Below.refl _ _).alloc (Nat.le_refl _) _⟩
  case round =>
    obtain ⟨k, zs, hk, rfl, hrow, hzl, hz, hb⟩ := hrel
    have HZE := Lib.hid hz
    have HZL := Lib.hid hzl
    clear hz
    rcases Nat.lt_or_ge k l with hlt | hge
    · have hX := h.rd.below hb
      obtain ⟨p, hp⟩ : ∃ p, p + k + 1 = l := ⟨l - 1 - k, by omega⟩
      have e1 : (l : Int) - 1 - k = p := by omega
      have fz := hrow.frozen p
      have cz := hrow.cell (getElem?_dig (show p < zs.length by omega))
      have hpl : p < l := by omega
      have HP := Lib.hid hp
      obtain ⟨d, hd⟩ : ∃ d, dig (dg D N) (k / 2) = d := ⟨_, rfl⟩
      have dd := DX.out (k / 2)
      rw [hd] at dd
      have hat := fun W' (hh : Rd .i64 W' A n (dg D N)) => at_any A n c (dg D N) (k / 2) W' hh
      rw [hd] at hat
      have HAT := Lib.hid hat
      have d0 := dd.1
      have d1 := dd.2
      have hval := HBB.out k
      rw [hd] at hval
      clear hzl hp hat hd
      rcases Nat.mod_two_eq_zero_or_one k with g | g
      · rw [g] at hval
        have hval2 : d % 256 = N / 256 ^ k % 256 := by simpa using hval
        have HVAL := Lib.hid hval2
        have t1 : ((k : Int) % 2 == 1) = false := by simp; omega
        clear hval hval2 g
        go_wp2_with fail
        refine (HAT.out _ hX).mono ?_
        rintro e w1 ⟨rfl, rfl⟩
        go_wp2_with fail
        go_roundw
        case rel =>
          have hps := HP.out
          refine ⟨k + 1, _, by omega, by go_num, hrow.set _ _, by simpa using HZL.out, fun j j1 j2 => ?_, hb.setCell (Nat.le_refl _) _⟩
          rcases Nat.lt_or_ge p j with g | g
          · rw [dig_set_ne (by omega)]; exact HZE.out j (by omega) j2
          · obtain rfl : j = p := by omega
            rw [dig_set_same (by rw [HZL.out]; exact hpl), show l - 1 - j = k by omega, ← HVAL.out]
        case measure => simp [intOf]; omega
      · rw [g] at hval
        have hval2 : d / 256 % 256 = N / 256 ^ k % 256 := by rw [← hval]; rfl
        have HVAL := Lib.hid hval2
        have t1 : ((k : Int) % 2 == 1) = true := by simp; omega
        clear hval hval2 g
        go_wp2_with fail
        refine (HAT.out _ hX).mono ?_
        rintro e w1 ⟨rfl, rfl⟩
        go_wp2_with fail
        go_roundw
        case rel =>
          have hps := HP.out
          refine ⟨k + 1, _, by omega, by go_num, hrow.set _ _, by simpa using HZL.out, fun j j1 j2 => ?_, hb.setCell (Nat.le_refl _) _⟩
          rcases Nat.lt_or_ge p j with g | g
          · rw [dig_set_ne (by omega)]; exact HZE.out j (by omega) j2
          · obtain rfl : j = p := by omega
            rw [dig_set_same (by rw [HZL.out]; exact hpl), show l - 1 - j = k by omega, ← HVAL.out]
        case measure => simp [intOf]; omega
    · obtain rfl : k = l := by omega
      have hzs : zs = bytesL N k := ext_dig (by rw [hzl, bytesL_len]) (fun j hj => by rw [bytesL_dig (by omega)]; exact HZE.out j (by omega) (by omega))
      subst hzs
      go_wp2_with fail
      refine (rbits_any (h.below hb) hn).mono ?_
      rintro e w1 ⟨rfl, rfl⟩
      go_wp2
      go_ret2
      exact ⟨rfl, hrow, hb⟩
end Go.Proofs.YtjalncdllegfoaaGreatDoor
/-
  The document's layer 7: what Long, Longs, Fits and Odd answer.
-/
namespace Go.Proofs.YtjalncdllegfoaaGreatDoor
open Go.RowKit
set_option linter.unusedVariables false
section
variable {w : World} {A : Option Addr} {n c : Nat} {S : Nat → Nsl} {N : Int}
def LgR (S : Nat → Nsl) (n : Nat) (w : World) (i : Value) (wr : World) : Prop := ∃ k : Nat, k ≤ n ∧ i = .int .i64 k ∧ (∀ j, j < k → dl (S j).N ≤ 64) ∧ w = wr
end
end Go.Proofs.YtjalncdllegfoaaGreatDoor
/-
  The document's layer 7: what Odd answers.
-/
namespace Go.Proofs.YtjalncdllegfoaaGreatDoor
open Go.RowKit
set_option linter.unusedVariables false
/-- A number that the document's way bears: short, or too long for the program. -/
def Li (n : Nat) (N : Int) : Prop := n ≤ 300 ∧ (dl N ≤ 6 ∨ 64 < dl N)
def LiS (s : Stp) : Prop := Li s.n1 s.P ∧ Li s.n2 s.Q ∧ Li s.n3 s.A
/-- A group of the document's that is small enough. -/
structure Rg7 (w : World) (b : Nat) (r : Rgd) (k : Nat) : Prop extends Rg w b r k where
  lp : r.nP ≤ 300
  lq : r.nQ ≤ 300
  safe : Safe r.P r.Q
  el : El r.P r.Q r.G
  pW : r.P ≤ W ^ 64
theorem Rg7.below {w w' : World} {b k : Nat} {r : Rgd} (h : Rg7 w b r k) (hb : Below w.heap.size w w') : Rg7 w' b r k := ⟨h.toRg.below hb, h.lp, h.lq, h.safe, h.el, h.pW⟩
section
variable {w : World} {b k : Nat} {r : Rgd} {A : Option Addr} {n c : Nat} {X : Int}
theorem of_nm7 (h : Nm w A n c X) (hn : n ≤ 1000) : Calls Tryz.prog 25 #[.slice A n c] w (AnsNn X w) := by
  obtain ⟨⟨ys, y1, y2, y3⟩, -, -, -⟩ := h
  have := of_new A n c ys w y1 y2 hn
  rwa [y3] at this
theorem dr_li {n : Nat} (h : Li n X) (h0 : 0 ≤ X) : dr X ≤ 300 ∨ W ^ 64 ≤ X := by
  rcases h.2 with g | g
  · left
    have h1 := lt_dl h0 g
    refine dg_len_le D_two h0 (Int.lt_of_lt_of_le h1 ?_)
    decide +kernel
  · right
    rcases Int.lt_or_le X (W ^ 64) with q | q
    · have := dl_le h0 q; omega
    · exact q
theorem is7_any (h : Rg7 w b r k) {m : Nat} (hl : Li m X) (hm : Rn w A n c X) (hn : n ≤ 10000) (s : Bool) (hs : s = true ↔ El r.P r.Q X) :
    Calls Tryz.prog 26 #[.pointer (some ⟨b, 0, none⟩), .slice A n c] w (AnsV (.bool s) w) := by
  rcases dr_li hl hm.pos with g | g
  · exact ris_any h.toRg hm (by rw [hm.len_]; exact g) h.lp h.lq s hs
  · have hx : r.P ≤ X := Int.le_trans h.pW g
    have e : s = false := by
      rcases Bool.eq_false_or_eq_true s with q | q
      · have := (hs.1 q).2.1; omega
      · exact q
    subst e
    have hP := h.safe.p2
    exact ris_great h.toRg hm hn (by have := h.lp; omega) (by omega) hx
/-- A number that came in, asked for: Is(Of(..)). -/
theorem rn_len7 {m : Nat} (h0 : 0 ≤ X) (hm : X < W ^ m) (h : m ≤ 1000) : dr X ≤ 10000 := by
  refine Nat.le_trans (dr_le h0 (k := m) (by exact dl_le h0 hm)) (by omega)
/-- Whether it is an element. -/
theorem el_bool (P Q X : Int) : ∃ s : Bool, s = true ↔ El P Q X := by
  by_cases h : El P Q X
  · exact ⟨true, fun _ => h, fun _ => rfl⟩
  · exact ⟨false, fun e => (by cases e), fun e => absurd e h⟩
def OdR (P Q : Int) (S : Nat → Stp) (n : Nat) (w : World) (i : Value) (wr : World) : Prop := ∃ k : Nat, k ≤ n ∧ i = .int .i64 k ∧ (∀ j, j < k → ElT P Q (Trp.of (S j))) ∧ Below w.heap.size w wr
theorem li_dr {m : Nat} (hl : Li m X) {w : World} {A : Option Addr} {c : Nat} (h : Nm w A m c X) : dr X ≤ 10000 := Nat.le_trans (dr_le h.pos (k := m) h.dl_le) (by have := hl.1; omega)
end
end Go.Proofs.YtjalncdllegfoaaGreatDoor
