/-
  The functions of one index that Seal, Anew, Strip, Turn and Open make: what they answer.
-/
import Derived.Test.YtpmnghealjgkeaaGreatSt7
import Derived.Test.YtpmnghealjgkeaaGreatLe7
namespace Go.Proofs.YtpmnghealjgkeaaGreat
open Go.RowKit
set_option linter.unusedVariables false
section
variable {w w0 : World} {b r : Nat} {d : Gd} {q q' : Bool} {Ak Am Ar Al Av : Option Addr} {nk ck nm cm nr cr nl cl nv cv g1 g2 g3 g4 i : Nat} {K V : Int} {M R : Nat → Nsl} {S : Nat → Stp}
/-- What was made of a pair, handed on through a variable of the call's own. -/
theorem pairP_out {w W1 w5 : World} {r b s : Nat} {q' : Bool} {T : Trp} {s5 : Stp} (hB : Bo r w W1) (hO : Bo r W1 w5) (hr : r < s) (hs : w.heap.size = s) (hz : W1.heap.size = s + 1) (hS : Sq w5 r b q') (hp : q' = false → PrO w5 W1.drew.heap.size s5 T)
    : PairP r b q' T w (.returned (.agg #[.slice s5.A1 s5.n1 s5.c1, .slice s5.A2 s5.n2 s5.c2, .slice s5.A3 s5.n3 s5.c3])) (((w5.setCell ⟨s, 0, none⟩ (.slice s5.A1 s5.n1 s5.c1)).setCell ⟨s, 1, none⟩ (.slice s5.A2 s5.n2 s5.c2)).setCell ⟨s, 2, none⟩ (.slice s5.A3 s5.n3 s5.c3)) := by
  have z : W1.drew.heap.size = s + 1 := hz
  refine ⟨s5, rfl, fun g => ?_, hS.three (by omega), (hB.trans hO).three (by omega) _ _ _⟩
  have p := hp g
  exact ⟨p.p.three (fun a ha => by have := p.n1 a ha; omega), p.q.three (fun a ha => by have := p.n2 a ha; omega), p.a.three (fun a ha => by have := p.n3 a ha; omega), p.tr, fun a ha => by have := p.n1 a ha; omega, fun a ha => by have := p.n2 a ha; omega, fun a ha => by have := p.n3 a ha; omega⟩
set_option maxHeartbeats 4000000 in
set_option maxRecDepth 100000 in
theorem clo_Seal (h : Sq w r b q) (hb : Below w0.heap.size w0 w) (h0 : w0.heap.size ≤ r) (hg : Gr w0 b d) (k1 : w.cell? ⟨g1, 0, none⟩ = some (.slice Ak nk ck)) (e1 : g1 ≠ r) (k2 : w.cell? ⟨g2, 0, none⟩ = some (.slice Am nm cm)) (e2 : g2 ≠ r) (k3 : w.cell? ⟨g3, 0, none⟩ = some (.slice Ar nr cr)) (e3 : g3 ≠ r) (hk : Nm w0 Ak nk ck K) (hm : Ns w0 Am nm cm M) (him : i < nm) (hr : Ns w0 Ar nr cr R) (hir : i < nr) (lr : dl (R i).N ≤ 64) (hq : q' = true ↔ q = true ∨ ¬ (El d.P d.Q K ∧ El d.P d.Q (M i).N)) :
    Calls Tryz.prog 45 #[.int .i64 (i : Int), .pointer (some ⟨r, 0, none⟩), .pointer (some ⟨g1, 0, none⟩), .pointer (some ⟨g2, 0, none⟩), .pointer (some ⟨g3, 0, none⟩)] w (PairP r b q' (sealN d.P d.Q d.G K (M i).N (R i).N) w) := by
  obtain ⟨bm, offm, rfl, lbm, ym⟩ := hm.ex (by omega)
  obtain ⟨br, offr, rfl, lbr, yr⟩ := hr.ex (by omega)
  have hsz := hb.size
  obtain ⟨s, hs⟩ : ∃ s, w.heap.size = s := ⟨_, rfl⟩
  obtain ⟨W1, hW⟩ : ∃ W1, W1 = w.alloc (.cells #[.slice none 0 0, .slice none 0 0, .slice none 0 0] 61) := ⟨_, rfl⟩
  have b1 : Below w.heap.size w W1 := by rw [hW]; exact (Below.refl _ _).alloc (Nat.le_refl _) _
  have row : W1.heap[s]? = some (.cells #[.slice none 0 0, .slice none 0 0, .slice none 0 0] 61 (0, 0)) := by rw [hW, ← hs]; exact heap_alloc_new w _
  have sz1 : W1.heap.size = s + 1 := by rw [hW, ← hs]; simp
  have rl : r < s := by rw [← hs]; exact h.lt
  have lg1 : g1 < w.heap.size := block_lt_of_cell k1
  have lg2 : g2 < w.heap.size := block_lt_of_cell k2
  have lg3 : g3 < w.heap.size := block_lt_of_cell k3
  have hall : ∀ W', Bo r W1 W' → (W'.cell? ⟨g1, 0, none⟩ = some (.slice Ak nk ck) ∧ W'.cell? ⟨g2, 0, none⟩ = some (.slice (some ⟨bm, offm, none⟩) nm cm) ∧ W'.cell? ⟨bm, offm + i, none⟩ = some (.slice (M i).A (M i).n (M i).c) ∧ W'.cell? ⟨g3, 0, none⟩ = some (.slice (some ⟨br, offr, none⟩) nr cr) ∧ W'.cell? ⟨br, offr + i, none⟩ = some (.slice (R i).A (R i).n (R i).c)) ∧ W'.heap[s]? = some (.cells #[.slice none 0 0, .slice none 0 0, .slice none 0 0] 61 (0, 0)) := fun W' k =>
    ⟨⟨(k.cell (p := ⟨g1, 0, none⟩) (show g1 < _ by omega) e1).trans ((b1.cell (p := ⟨g1, 0, none⟩) lg1).trans k1), (k.cell (p := ⟨g2, 0, none⟩) (show g2 < _ by omega) e2).trans ((b1.cell (p := ⟨g2, 0, none⟩) lg2).trans k2), (k.cell (p := ⟨bm, offm + i, none⟩) (show bm < _ by omega) (show bm ≠ r by omega)).trans ((b1.cell (p := ⟨bm, offm + i, none⟩) (show bm < _ by omega)).trans ((hb.cell (p := ⟨bm, offm + i, none⟩) lbm).trans (ym i him))), (k.cell (p := ⟨g3, 0, none⟩) (show g3 < _ by omega) e3).trans ((b1.cell (p := ⟨g3, 0, none⟩) lg3).trans k3), (k.cell (p := ⟨br, offr + i, none⟩) (show br < _ by omega) (show br ≠ r by omega)).trans ((b1.cell (p := ⟨br, offr + i, none⟩) (show br < _ by omega)).trans ((hb.cell (p := ⟨br, offr + i, none⟩) lbr).trans (yr i hir)))⟩, (k.block s (by omega) (by omega)).trans row⟩
  have hall3 : ∀ W', Bo r W1 W' → ∀ x y z : Value, (((W'.setCell ⟨s, 0, none⟩ x).setCell ⟨s, 1, none⟩ y).setCell ⟨s, 2, none⟩ z).cell? ⟨g1, 0, none⟩ = some (.slice Ak nk ck) ∧ (((W'.setCell ⟨s, 0, none⟩ x).setCell ⟨s, 1, none⟩ y).setCell ⟨s, 2, none⟩ z).cell? ⟨g2, 0, none⟩ = some (.slice (some ⟨bm, offm, none⟩) nm cm) ∧ (((W'.setCell ⟨s, 0, none⟩ x).setCell ⟨s, 1, none⟩ y).setCell ⟨s, 2, none⟩ z).cell? ⟨bm, offm + i, none⟩ = some (.slice (M i).A (M i).n (M i).c) ∧ (((W'.setCell ⟨s, 0, none⟩ x).setCell ⟨s, 1, none⟩ y).setCell ⟨s, 2, none⟩ z).cell? ⟨g3, 0, none⟩ = some (.slice (some ⟨br, offr, none⟩) nr cr) ∧ (((W'.setCell ⟨s, 0, none⟩ x).setCell ⟨s, 1, none⟩ y).setCell ⟨s, 2, none⟩ z).cell? ⟨br, offr + i, none⟩ = some (.slice (R i).A (R i).n (R i).c) := fun W' k x y z => by
    obtain ⟨⟨t0, t1, t2, t3, t4⟩, -⟩ := hall W' k
    exact ⟨(three_cell (by omega)).trans t0, (three_cell (by omega)).trans t1, (three_cell (by omega)).trans t2, (three_cell (by omega)).trans t3, (three_cell (by omega)).trans t4⟩
  have HALL := Lib.hid hall
  have HALL3 := Lib.hid hall3
  have HS := Lib.hid ((h.below b1).below (Below.refl _ _).drew)
  have HB := Lib.hid ((hb.trans (b1.mono hsz)).trans ((Below.refl _ _).drew.mono (show w0.heap.size ≤ W1.heap.size by omega)))
  have HG := Lib.hid hg
  have HNk := Lib.hid hk
  have HEm := Lib.hid (hm.at_ i him)
  have HEr := Lib.hid (hr.at_ i hir)
  have HQ := Lib.hid hq
  have BD := Lib.hid (Bo.of r (Below.refl W1.heap.size W1).drew)
  have B1 := Lib.hid (Bo.of r b1)
  have HSS := Lib.hid hs
  have HSZ := Lib.hid sz1
  have kA := (hall W1 (Bo.refl _ _)).1
  have hjm : (i : Int) < (nm : Int) := by omega
  have hjr : (i : Int) < (nr : Int) := by omega
  clear h hb hg hall hall3 row sz1 b1 hq hk hm hr k1 e1 lg1 k2 e2 lg2 k3 e3 lg3 ym yr
  go_enter Tryz.func45, Tryz.ntmps45
  go_wp2_with fail
  rw [← hW]
  try rw [hs]
  clear hW hs
  go_region_held3 (fun w' => w'.cell? ⟨g1, 0, none⟩ = some (.slice Ak nk ck) ∧ w'.cell? ⟨g2, 0, none⟩ = some (.slice (some ⟨bm, offm, none⟩) nm cm) ∧ w'.cell? ⟨bm, offm + i, none⟩ = some (.slice (M i).A (M i).n (M i).c) ∧ w'.cell? ⟨g3, 0, none⟩ = some (.slice (some ⟨br, offr, none⟩) nr cr) ∧ w'.cell? ⟨br, offr + i, none⟩ = some (.slice (R i).A (R i).n (R i).c)) (first | exact kA | exact kB | exact kC _ _ _ | go_keep | assumption)
    (first
    | (go_at_call 46; (with_reducible refine (seal_q HS.out HB.out h0 HG.out HNk.out HEm.out HEr.out lr HQ.out).mono ?_); rintro e w5 ⟨s5, rfl, hp5, hs5, hb5⟩; have BO5 := Lib.hid (BD.out.trans hb5); have kB := (HALL.out _ BO5.out).1; have P5 := Lib.hid hp5; have HS5 := Lib.hid hs5; have R5 := Lib.hid (HALL.out _ BO5.out).2; have kC := HALL3.out _ BO5.out; have x0 := (cell_of_row w5 s 0 _ _ _ R5.out); have x1 := (cell_of_row w5 s 1 _ _ _ R5.out); have x2 := (cell_of_row w5 s 2 _ _ _ R5.out); have f0 := frozen_of_row w5 s 0 _ _ R5.out; have f1 := frozen_of_row w5 s 1 _ _ R5.out; have f2 := frozen_of_row w5 s 2 _ _ R5.out; clear hp5 hs5 hb5))
  all_goals
    go_wp2_with fail
    refine bodyPost_ret (v := .agg #[.slice s5.A1 s5.n1 s5.c1, .slice s5.A2 s5.n2 s5.c2, .slice s5.A3 s5.n3 s5.c3]) (results_cell_row Tryz.results45 _ _ s _ _ _ _ rfl (three_row R5.out) Tryz.underlying61 rfl sizePair) rfl ?_
    exact pairP_out B1.out BO5.out rl HSS.out HSZ.out HS5.out P5.out
theorem ent_Seal : ∀ (xs : Array Value) (W : World), (callFunc 45 xs).run Tryz.prog W = .ok (.enter 45 xs) W := enter_of Tryz.func45 (by kernel_rfl) rfl
set_option maxHeartbeats 4000000 in
set_option maxRecDepth 100000 in
theorem clo_Anew (h : Sq w r b q) (hb : Below w0.heap.size w0 w) (h0 : w0.heap.size ≤ r) (hg : Gr w0 b d) (k1 : w.cell? ⟨g1, 0, none⟩ = some (.slice Ak nk ck)) (e1 : g1 ≠ r) (k2 : w.cell? ⟨g2, 0, none⟩ = some (.slice Al nl cl)) (e2 : g2 ≠ r) (k3 : w.cell? ⟨g3, 0, none⟩ = some (.slice Ar nr cr)) (e3 : g3 ≠ r) (hk : Nm w0 Ak nk ck K) (hl : Ch w0 Al nl cl S) (hil : i < nl) (hr : Ns w0 Ar nr cr R) (hir : i < nr) (lr : dl (R i).N ≤ 64) (hq : q' = true ↔ q = true ∨ ¬ (El d.P d.Q K ∧ ElT d.P d.Q (Trp.of (S i)))) :
    Calls Tryz.prog 47 #[.int .i64 (i : Int), .pointer (some ⟨r, 0, none⟩), .pointer (some ⟨g1, 0, none⟩), .pointer (some ⟨g2, 0, none⟩), .pointer (some ⟨g3, 0, none⟩)] w (PairP r b q' (anewN d.P d.Q d.G K (Trp.of (S i)) (R i).N) w) := by
  obtain ⟨bl, offl, rfl, lbl, yl⟩ := hl.ex (by omega)
  obtain ⟨br, offr, rfl, lbr, yr⟩ := hr.ex (by omega)
  have hsz := hb.size
  obtain ⟨s, hs⟩ : ∃ s, w.heap.size = s := ⟨_, rfl⟩
  obtain ⟨W1, hW⟩ : ∃ W1, W1 = w.alloc (.cells #[.slice none 0 0, .slice none 0 0, .slice none 0 0] 61) := ⟨_, rfl⟩
  have b1 : Below w.heap.size w W1 := by rw [hW]; exact (Below.refl _ _).alloc (Nat.le_refl _) _
  have row : W1.heap[s]? = some (.cells #[.slice none 0 0, .slice none 0 0, .slice none 0 0] 61 (0, 0)) := by rw [hW, ← hs]; exact heap_alloc_new w _
  have sz1 : W1.heap.size = s + 1 := by rw [hW, ← hs]; simp
  have rl : r < s := by rw [← hs]; exact h.lt
  have lg1 : g1 < w.heap.size := block_lt_of_cell k1
  have lg2 : g2 < w.heap.size := block_lt_of_cell k2
  have lg3 : g3 < w.heap.size := block_lt_of_cell k3
  have hall : ∀ W', Bo r W1 W' → (W'.cell? ⟨g1, 0, none⟩ = some (.slice Ak nk ck) ∧ W'.cell? ⟨g2, 0, none⟩ = some (.slice (some ⟨bl, offl, none⟩) nl cl) ∧ W'.cell? ⟨bl, offl + i * 3, none⟩ = some (.slice (S i).A1 (S i).n1 (S i).c1) ∧ W'.cell? ⟨bl, offl + i * 3 + 1, none⟩ = some (.slice (S i).A2 (S i).n2 (S i).c2) ∧ W'.cell? ⟨bl, offl + i * 3 + 2, none⟩ = some (.slice (S i).A3 (S i).n3 (S i).c3) ∧ W'.cell? ⟨g3, 0, none⟩ = some (.slice (some ⟨br, offr, none⟩) nr cr) ∧ W'.cell? ⟨br, offr + i, none⟩ = some (.slice (R i).A (R i).n (R i).c)) ∧ W'.heap[s]? = some (.cells #[.slice none 0 0, .slice none 0 0, .slice none 0 0] 61 (0, 0)) := fun W' k =>
    ⟨⟨(k.cell (p := ⟨g1, 0, none⟩) (show g1 < _ by omega) e1).trans ((b1.cell (p := ⟨g1, 0, none⟩) lg1).trans k1), (k.cell (p := ⟨g2, 0, none⟩) (show g2 < _ by omega) e2).trans ((b1.cell (p := ⟨g2, 0, none⟩) lg2).trans k2), (k.cell (p := ⟨bl, offl + i * 3, none⟩) (show bl < _ by omega) (show bl ≠ r by omega)).trans ((b1.cell (p := ⟨bl, offl + i * 3, none⟩) (show bl < _ by omega)).trans ((hb.cell (p := ⟨bl, offl + i * 3, none⟩) lbl).trans (yl i hil).c0)), (k.cell (p := ⟨bl, offl + i * 3 + 1, none⟩) (show bl < _ by omega) (show bl ≠ r by omega)).trans ((b1.cell (p := ⟨bl, offl + i * 3 + 1, none⟩) (show bl < _ by omega)).trans ((hb.cell (p := ⟨bl, offl + i * 3 + 1, none⟩) lbl).trans (yl i hil).c1)), (k.cell (p := ⟨bl, offl + i * 3 + 2, none⟩) (show bl < _ by omega) (show bl ≠ r by omega)).trans ((b1.cell (p := ⟨bl, offl + i * 3 + 2, none⟩) (show bl < _ by omega)).trans ((hb.cell (p := ⟨bl, offl + i * 3 + 2, none⟩) lbl).trans (yl i hil).c2)), (k.cell (p := ⟨g3, 0, none⟩) (show g3 < _ by omega) e3).trans ((b1.cell (p := ⟨g3, 0, none⟩) lg3).trans k3), (k.cell (p := ⟨br, offr + i, none⟩) (show br < _ by omega) (show br ≠ r by omega)).trans ((b1.cell (p := ⟨br, offr + i, none⟩) (show br < _ by omega)).trans ((hb.cell (p := ⟨br, offr + i, none⟩) lbr).trans (yr i hir)))⟩, (k.block s (by omega) (by omega)).trans row⟩
  have hall3 : ∀ W', Bo r W1 W' → ∀ x y z : Value, (((W'.setCell ⟨s, 0, none⟩ x).setCell ⟨s, 1, none⟩ y).setCell ⟨s, 2, none⟩ z).cell? ⟨g1, 0, none⟩ = some (.slice Ak nk ck) ∧ (((W'.setCell ⟨s, 0, none⟩ x).setCell ⟨s, 1, none⟩ y).setCell ⟨s, 2, none⟩ z).cell? ⟨g2, 0, none⟩ = some (.slice (some ⟨bl, offl, none⟩) nl cl) ∧ (((W'.setCell ⟨s, 0, none⟩ x).setCell ⟨s, 1, none⟩ y).setCell ⟨s, 2, none⟩ z).cell? ⟨bl, offl + i * 3, none⟩ = some (.slice (S i).A1 (S i).n1 (S i).c1) ∧ (((W'.setCell ⟨s, 0, none⟩ x).setCell ⟨s, 1, none⟩ y).setCell ⟨s, 2, none⟩ z).cell? ⟨bl, offl + i * 3 + 1, none⟩ = some (.slice (S i).A2 (S i).n2 (S i).c2) ∧ (((W'.setCell ⟨s, 0, none⟩ x).setCell ⟨s, 1, none⟩ y).setCell ⟨s, 2, none⟩ z).cell? ⟨bl, offl + i * 3 + 2, none⟩ = some (.slice (S i).A3 (S i).n3 (S i).c3) ∧ (((W'.setCell ⟨s, 0, none⟩ x).setCell ⟨s, 1, none⟩ y).setCell ⟨s, 2, none⟩ z).cell? ⟨g3, 0, none⟩ = some (.slice (some ⟨br, offr, none⟩) nr cr) ∧ (((W'.setCell ⟨s, 0, none⟩ x).setCell ⟨s, 1, none⟩ y).setCell ⟨s, 2, none⟩ z).cell? ⟨br, offr + i, none⟩ = some (.slice (R i).A (R i).n (R i).c) := fun W' k x y z => by
    obtain ⟨⟨t0, t1, t2, t3, t4, t5, t6⟩, -⟩ := hall W' k
    exact ⟨(three_cell (by omega)).trans t0, (three_cell (by omega)).trans t1, (three_cell (by omega)).trans t2, (three_cell (by omega)).trans t3, (three_cell (by omega)).trans t4, (three_cell (by omega)).trans t5, (three_cell (by omega)).trans t6⟩
  have HALL := Lib.hid hall
  have HALL3 := Lib.hid hall3
  have HS := Lib.hid ((h.below b1).below (Below.refl _ _).drew)
  have HB := Lib.hid ((hb.trans (b1.mono hsz)).trans ((Below.refl _ _).drew.mono (show w0.heap.size ≤ W1.heap.size by omega)))
  have HG := Lib.hid hg
  have HNk := Lib.hid hk
  have HEl := Lib.hid (hl.at_ i hil)
  have HEr := Lib.hid (hr.at_ i hir)
  have HQ := Lib.hid hq
  have BD := Lib.hid (Bo.of r (Below.refl W1.heap.size W1).drew)
  have B1 := Lib.hid (Bo.of r b1)
  have HSS := Lib.hid hs
  have HSZ := Lib.hid sz1
  have kA := (hall W1 (Bo.refl _ _)).1
  have hjl : (i : Int) < (nl : Int) := by omega
  have hjr : (i : Int) < (nr : Int) := by omega
  clear h hb hg hall hall3 row sz1 b1 hq hk hl hr k1 e1 lg1 k2 e2 lg2 k3 e3 lg3 yl yr
  go_enter Tryz.func47, Tryz.ntmps47
  go_wp2_with fail
  rw [← hW]
  try rw [hs]
  clear hW hs
  go_region_held3 (fun w' => w'.cell? ⟨g1, 0, none⟩ = some (.slice Ak nk ck) ∧ w'.cell? ⟨g2, 0, none⟩ = some (.slice (some ⟨bl, offl, none⟩) nl cl) ∧ w'.cell? ⟨bl, offl + i * 3, none⟩ = some (.slice (S i).A1 (S i).n1 (S i).c1) ∧ w'.cell? ⟨bl, offl + i * 3 + 1, none⟩ = some (.slice (S i).A2 (S i).n2 (S i).c2) ∧ w'.cell? ⟨bl, offl + i * 3 + 2, none⟩ = some (.slice (S i).A3 (S i).n3 (S i).c3) ∧ w'.cell? ⟨g3, 0, none⟩ = some (.slice (some ⟨br, offr, none⟩) nr cr) ∧ w'.cell? ⟨br, offr + i, none⟩ = some (.slice (R i).A (R i).n (R i).c)) (first | exact kA | exact kB | exact kC _ _ _ | go_keep | assumption)
    (first
    | (go_at_call 48; (with_reducible refine (anew_q HS.out HB.out h0 HG.out HNk.out HEl.out.p HEl.out.q HEl.out.a HEr.out lr HQ.out).mono ?_); rintro e w5 ⟨s5, rfl, hp5, hs5, hb5⟩; have BO5 := Lib.hid (BD.out.trans hb5); have kB := (HALL.out _ BO5.out).1; have P5 := Lib.hid hp5; have HS5 := Lib.hid hs5; have R5 := Lib.hid (HALL.out _ BO5.out).2; have kC := HALL3.out _ BO5.out; have x0 := (cell_of_row w5 s 0 _ _ _ R5.out); have x1 := (cell_of_row w5 s 1 _ _ _ R5.out); have x2 := (cell_of_row w5 s 2 _ _ _ R5.out); have f0 := frozen_of_row w5 s 0 _ _ R5.out; have f1 := frozen_of_row w5 s 1 _ _ R5.out; have f2 := frozen_of_row w5 s 2 _ _ R5.out; clear hp5 hs5 hb5))
  all_goals
    go_wp2_with fail
    refine bodyPost_ret (v := .agg #[.slice s5.A1 s5.n1 s5.c1, .slice s5.A2 s5.n2 s5.c2, .slice s5.A3 s5.n3 s5.c3]) (results_cell_row Tryz.results47 _ _ s _ _ _ _ rfl (three_row R5.out) Tryz.underlying61 rfl sizePair) rfl ?_
    exact pairP_out B1.out BO5.out rl HSS.out HSZ.out HS5.out P5.out
theorem ent_Anew : ∀ (xs : Array Value) (W : World), (callFunc 47 xs).run Tryz.prog W = .ok (.enter 47 xs) W := enter_of Tryz.func47 (by kernel_rfl) rfl
set_option maxHeartbeats 4000000 in
set_option maxRecDepth 100000 in
theorem clo_Strip (h : Sq w r b q) (hb : Below w0.heap.size w0 w) (h0 : w0.heap.size ≤ r) (hg : Gr w0 b d) (k1 : w.cell? ⟨g1, 0, none⟩ = some (.slice Av nv cv)) (e1 : g1 ≠ r) (k2 : w.cell? ⟨g2, 0, none⟩ = some (.slice Ak nk ck)) (e2 : g2 ≠ r) (k3 : w.cell? ⟨g3, 0, none⟩ = some (.slice Al nl cl)) (e3 : g3 ≠ r) (k4 : w.cell? ⟨g4, 0, none⟩ = some (.slice Ar nr cr)) (e4 : g4 ≠ r) (hv : Nm w0 Av nv cv V) (hk : Nm w0 Ak nk ck K) (hl : Ch w0 Al nl cl S) (hil : i < nl) (hr : Ns w0 Ar nr cr R) (hir : i < nr) (lr : dl (R i).N ≤ 64) (lv : dl V ≤ 64) (hq : q' = true ↔ q = true ∨ ¬ (El d.P d.Q K ∧ ElT d.P d.Q (Trp.of (S i)))) :
    Calls Tryz.prog 64 #[.int .i64 (i : Int), .pointer (some ⟨r, 0, none⟩), .pointer (some ⟨g1, 0, none⟩), .pointer (some ⟨g2, 0, none⟩), .pointer (some ⟨g3, 0, none⟩), .pointer (some ⟨g4, 0, none⟩)] w (PairP r b q' (stripN d.P d.Q d.G V K (Trp.of (S i)) (R i).N) w) := by
  obtain ⟨bl, offl, rfl, lbl, yl⟩ := hl.ex (by omega)
  obtain ⟨br, offr, rfl, lbr, yr⟩ := hr.ex (by omega)
  have hsz := hb.size
  obtain ⟨s, hs⟩ : ∃ s, w.heap.size = s := ⟨_, rfl⟩
  obtain ⟨W1, hW⟩ : ∃ W1, W1 = w.alloc (.cells #[.slice none 0 0, .slice none 0 0, .slice none 0 0] 61) := ⟨_, rfl⟩
  have b1 : Below w.heap.size w W1 := by rw [hW]; exact (Below.refl _ _).alloc (Nat.le_refl _) _
  have row : W1.heap[s]? = some (.cells #[.slice none 0 0, .slice none 0 0, .slice none 0 0] 61 (0, 0)) := by rw [hW, ← hs]; exact heap_alloc_new w _
  have sz1 : W1.heap.size = s + 1 := by rw [hW, ← hs]; simp
  have rl : r < s := by rw [← hs]; exact h.lt
  have lg1 : g1 < w.heap.size := block_lt_of_cell k1
  have lg2 : g2 < w.heap.size := block_lt_of_cell k2
  have lg3 : g3 < w.heap.size := block_lt_of_cell k3
  have lg4 : g4 < w.heap.size := block_lt_of_cell k4
  have hall : ∀ W', Bo r W1 W' → (W'.cell? ⟨g1, 0, none⟩ = some (.slice Av nv cv) ∧ W'.cell? ⟨g2, 0, none⟩ = some (.slice Ak nk ck) ∧ W'.cell? ⟨g3, 0, none⟩ = some (.slice (some ⟨bl, offl, none⟩) nl cl) ∧ W'.cell? ⟨bl, offl + i * 3, none⟩ = some (.slice (S i).A1 (S i).n1 (S i).c1) ∧ W'.cell? ⟨bl, offl + i * 3 + 1, none⟩ = some (.slice (S i).A2 (S i).n2 (S i).c2) ∧ W'.cell? ⟨bl, offl + i * 3 + 2, none⟩ = some (.slice (S i).A3 (S i).n3 (S i).c3) ∧ W'.cell? ⟨g4, 0, none⟩ = some (.slice (some ⟨br, offr, none⟩) nr cr) ∧ W'.cell? ⟨br, offr + i, none⟩ = some (.slice (R i).A (R i).n (R i).c)) ∧ W'.heap[s]? = some (.cells #[.slice none 0 0, .slice none 0 0, .slice none 0 0] 61 (0, 0)) := fun W' k =>
    ⟨⟨(k.cell (p := ⟨g1, 0, none⟩) (show g1 < _ by omega) e1).trans ((b1.cell (p := ⟨g1, 0, none⟩) lg1).trans k1), (k.cell (p := ⟨g2, 0, none⟩) (show g2 < _ by omega) e2).trans ((b1.cell (p := ⟨g2, 0, none⟩) lg2).trans k2), (k.cell (p := ⟨g3, 0, none⟩) (show g3 < _ by omega) e3).trans ((b1.cell (p := ⟨g3, 0, none⟩) lg3).trans k3), (k.cell (p := ⟨bl, offl + i * 3, none⟩) (show bl < _ by omega) (show bl ≠ r by omega)).trans ((b1.cell (p := ⟨bl, offl + i * 3, none⟩) (show bl < _ by omega)).trans ((hb.cell (p := ⟨bl, offl + i * 3, none⟩) lbl).trans (yl i hil).c0)), (k.cell (p := ⟨bl, offl + i * 3 + 1, none⟩) (show bl < _ by omega) (show bl ≠ r by omega)).trans ((b1.cell (p := ⟨bl, offl + i * 3 + 1, none⟩) (show bl < _ by omega)).trans ((hb.cell (p := ⟨bl, offl + i * 3 + 1, none⟩) lbl).trans (yl i hil).c1)), (k.cell (p := ⟨bl, offl + i * 3 + 2, none⟩) (show bl < _ by omega) (show bl ≠ r by omega)).trans ((b1.cell (p := ⟨bl, offl + i * 3 + 2, none⟩) (show bl < _ by omega)).trans ((hb.cell (p := ⟨bl, offl + i * 3 + 2, none⟩) lbl).trans (yl i hil).c2)), (k.cell (p := ⟨g4, 0, none⟩) (show g4 < _ by omega) e4).trans ((b1.cell (p := ⟨g4, 0, none⟩) lg4).trans k4), (k.cell (p := ⟨br, offr + i, none⟩) (show br < _ by omega) (show br ≠ r by omega)).trans ((b1.cell (p := ⟨br, offr + i, none⟩) (show br < _ by omega)).trans ((hb.cell (p := ⟨br, offr + i, none⟩) lbr).trans (yr i hir)))⟩, (k.block s (by omega) (by omega)).trans row⟩
  have hall3 : ∀ W', Bo r W1 W' → ∀ x y z : Value, (((W'.setCell ⟨s, 0, none⟩ x).setCell ⟨s, 1, none⟩ y).setCell ⟨s, 2, none⟩ z).cell? ⟨g1, 0, none⟩ = some (.slice Av nv cv) ∧ (((W'.setCell ⟨s, 0, none⟩ x).setCell ⟨s, 1, none⟩ y).setCell ⟨s, 2, none⟩ z).cell? ⟨g2, 0, none⟩ = some (.slice Ak nk ck) ∧ (((W'.setCell ⟨s, 0, none⟩ x).setCell ⟨s, 1, none⟩ y).setCell ⟨s, 2, none⟩ z).cell? ⟨g3, 0, none⟩ = some (.slice (some ⟨bl, offl, none⟩) nl cl) ∧ (((W'.setCell ⟨s, 0, none⟩ x).setCell ⟨s, 1, none⟩ y).setCell ⟨s, 2, none⟩ z).cell? ⟨bl, offl + i * 3, none⟩ = some (.slice (S i).A1 (S i).n1 (S i).c1) ∧ (((W'.setCell ⟨s, 0, none⟩ x).setCell ⟨s, 1, none⟩ y).setCell ⟨s, 2, none⟩ z).cell? ⟨bl, offl + i * 3 + 1, none⟩ = some (.slice (S i).A2 (S i).n2 (S i).c2) ∧ (((W'.setCell ⟨s, 0, none⟩ x).setCell ⟨s, 1, none⟩ y).setCell ⟨s, 2, none⟩ z).cell? ⟨bl, offl + i * 3 + 2, none⟩ = some (.slice (S i).A3 (S i).n3 (S i).c3) ∧ (((W'.setCell ⟨s, 0, none⟩ x).setCell ⟨s, 1, none⟩ y).setCell ⟨s, 2, none⟩ z).cell? ⟨g4, 0, none⟩ = some (.slice (some ⟨br, offr, none⟩) nr cr) ∧ (((W'.setCell ⟨s, 0, none⟩ x).setCell ⟨s, 1, none⟩ y).setCell ⟨s, 2, none⟩ z).cell? ⟨br, offr + i, none⟩ = some (.slice (R i).A (R i).n (R i).c) := fun W' k x y z => by
    obtain ⟨⟨t0, t1, t2, t3, t4, t5, t6, t7⟩, -⟩ := hall W' k
    exact ⟨(three_cell (by omega)).trans t0, (three_cell (by omega)).trans t1, (three_cell (by omega)).trans t2, (three_cell (by omega)).trans t3, (three_cell (by omega)).trans t4, (three_cell (by omega)).trans t5, (three_cell (by omega)).trans t6, (three_cell (by omega)).trans t7⟩
  have HALL := Lib.hid hall
  have HALL3 := Lib.hid hall3
  have HS := Lib.hid ((h.below b1).below (Below.refl _ _).drew)
  have HB := Lib.hid ((hb.trans (b1.mono hsz)).trans ((Below.refl _ _).drew.mono (show w0.heap.size ≤ W1.heap.size by omega)))
  have HG := Lib.hid hg
  have HNv := Lib.hid hv
  have HNk := Lib.hid hk
  have HEl := Lib.hid (hl.at_ i hil)
  have HEr := Lib.hid (hr.at_ i hir)
  have HQ := Lib.hid hq
  have BD := Lib.hid (Bo.of r (Below.refl W1.heap.size W1).drew)
  have B1 := Lib.hid (Bo.of r b1)
  have HSS := Lib.hid hs
  have HSZ := Lib.hid sz1
  have kA := (hall W1 (Bo.refl _ _)).1
  have hjl : (i : Int) < (nl : Int) := by omega
  have hjr : (i : Int) < (nr : Int) := by omega
  clear h hb hg hall hall3 row sz1 b1 hq hv hk hl hr k1 e1 lg1 k2 e2 lg2 k3 e3 lg3 k4 e4 lg4 yl yr
  go_enter Tryz.func64, Tryz.ntmps64
  go_wp2_with fail
  rw [← hW]
  try rw [hs]
  clear hW hs
  go_region_held3 (fun w' => w'.cell? ⟨g1, 0, none⟩ = some (.slice Av nv cv) ∧ w'.cell? ⟨g2, 0, none⟩ = some (.slice Ak nk ck) ∧ w'.cell? ⟨g3, 0, none⟩ = some (.slice (some ⟨bl, offl, none⟩) nl cl) ∧ w'.cell? ⟨bl, offl + i * 3, none⟩ = some (.slice (S i).A1 (S i).n1 (S i).c1) ∧ w'.cell? ⟨bl, offl + i * 3 + 1, none⟩ = some (.slice (S i).A2 (S i).n2 (S i).c2) ∧ w'.cell? ⟨bl, offl + i * 3 + 2, none⟩ = some (.slice (S i).A3 (S i).n3 (S i).c3) ∧ w'.cell? ⟨g4, 0, none⟩ = some (.slice (some ⟨br, offr, none⟩) nr cr) ∧ w'.cell? ⟨br, offr + i, none⟩ = some (.slice (R i).A (R i).n (R i).c)) (first | exact kA | exact kB | exact kC _ _ _ | go_keep | assumption)
    (first
    | (go_at_call 65; (with_reducible refine (strip_q HS.out HB.out h0 HG.out HNv.out lv HNk.out HEl.out.p HEl.out.q HEl.out.a HEr.out lr HQ.out).mono ?_); rintro e w5 ⟨s5, rfl, hp5, hs5, hb5⟩; have BO5 := Lib.hid (BD.out.trans hb5); have kB := (HALL.out _ BO5.out).1; have P5 := Lib.hid hp5; have HS5 := Lib.hid hs5; have R5 := Lib.hid (HALL.out _ BO5.out).2; have kC := HALL3.out _ BO5.out; have x0 := (cell_of_row w5 s 0 _ _ _ R5.out); have x1 := (cell_of_row w5 s 1 _ _ _ R5.out); have x2 := (cell_of_row w5 s 2 _ _ _ R5.out); have f0 := frozen_of_row w5 s 0 _ _ R5.out; have f1 := frozen_of_row w5 s 1 _ _ R5.out; have f2 := frozen_of_row w5 s 2 _ _ R5.out; clear hp5 hs5 hb5))
  all_goals
    go_wp2_with fail
    refine bodyPost_ret (v := .agg #[.slice s5.A1 s5.n1 s5.c1, .slice s5.A2 s5.n2 s5.c2, .slice s5.A3 s5.n3 s5.c3]) (results_cell_row Tryz.results64 _ _ s _ _ _ _ rfl (three_row R5.out) Tryz.underlying61 rfl sizePair) rfl ?_
    exact pairP_out B1.out BO5.out rl HSS.out HSZ.out HS5.out P5.out
theorem ent_Strip : ∀ (xs : Array Value) (W : World), (callFunc 64 xs).run Tryz.prog W = .ok (.enter 64 xs) W := enter_of Tryz.func64 (by kernel_rfl) rfl
set_option maxHeartbeats 4000000 in
set_option maxRecDepth 100000 in
theorem clo_Open (h : Sq w r b q) (hb : Below w0.heap.size w0 w) (h0 : w0.heap.size ≤ r) (hg : Gr w0 b d) (k1 : w.cell? ⟨g1, 0, none⟩ = some (.slice Al nl cl)) (e1 : g1 ≠ r) (hl : Ch w0 Al nl cl S) (hil : i < nl) (hq : q' = true ↔ q = true ∨ ¬ (ElT d.P d.Q (Trp.of (S i)))) :
    Calls Tryz.prog 68 #[.int .i64 (i : Int), .pointer (some ⟨r, 0, none⟩), .pointer (some ⟨g1, 0, none⟩)] w (PairP r b q' (Trp.of (S i)) w) := by
  obtain ⟨bl, offl, rfl, lbl, yl⟩ := hl.ex (by omega)
  have hsz := hb.size
  obtain ⟨s, hs⟩ : ∃ s, w.heap.size = s := ⟨_, rfl⟩
  obtain ⟨W1, hW⟩ : ∃ W1, W1 = w.alloc (.cells #[.slice none 0 0, .slice none 0 0, .slice none 0 0] 61) := ⟨_, rfl⟩
  have b1 : Below w.heap.size w W1 := by rw [hW]; exact (Below.refl _ _).alloc (Nat.le_refl _) _
  have row : W1.heap[s]? = some (.cells #[.slice none 0 0, .slice none 0 0, .slice none 0 0] 61 (0, 0)) := by rw [hW, ← hs]; exact heap_alloc_new w _
  have sz1 : W1.heap.size = s + 1 := by rw [hW, ← hs]; simp
  have rl : r < s := by rw [← hs]; exact h.lt
  have lg1 : g1 < w.heap.size := block_lt_of_cell k1
  have hall : ∀ W', Bo r W1 W' → (W'.cell? ⟨g1, 0, none⟩ = some (.slice (some ⟨bl, offl, none⟩) nl cl) ∧ W'.cell? ⟨bl, offl + i * 3, none⟩ = some (.slice (S i).A1 (S i).n1 (S i).c1) ∧ W'.cell? ⟨bl, offl + i * 3 + 1, none⟩ = some (.slice (S i).A2 (S i).n2 (S i).c2) ∧ W'.cell? ⟨bl, offl + i * 3 + 2, none⟩ = some (.slice (S i).A3 (S i).n3 (S i).c3)) ∧ W'.heap[s]? = some (.cells #[.slice none 0 0, .slice none 0 0, .slice none 0 0] 61 (0, 0)) := fun W' k =>
    ⟨⟨(k.cell (p := ⟨g1, 0, none⟩) (show g1 < _ by omega) e1).trans ((b1.cell (p := ⟨g1, 0, none⟩) lg1).trans k1), (k.cell (p := ⟨bl, offl + i * 3, none⟩) (show bl < _ by omega) (show bl ≠ r by omega)).trans ((b1.cell (p := ⟨bl, offl + i * 3, none⟩) (show bl < _ by omega)).trans ((hb.cell (p := ⟨bl, offl + i * 3, none⟩) lbl).trans (yl i hil).c0)), (k.cell (p := ⟨bl, offl + i * 3 + 1, none⟩) (show bl < _ by omega) (show bl ≠ r by omega)).trans ((b1.cell (p := ⟨bl, offl + i * 3 + 1, none⟩) (show bl < _ by omega)).trans ((hb.cell (p := ⟨bl, offl + i * 3 + 1, none⟩) lbl).trans (yl i hil).c1)), (k.cell (p := ⟨bl, offl + i * 3 + 2, none⟩) (show bl < _ by omega) (show bl ≠ r by omega)).trans ((b1.cell (p := ⟨bl, offl + i * 3 + 2, none⟩) (show bl < _ by omega)).trans ((hb.cell (p := ⟨bl, offl + i * 3 + 2, none⟩) lbl).trans (yl i hil).c2))⟩, (k.block s (by omega) (by omega)).trans row⟩
  have hall3 : ∀ W', Bo r W1 W' → ∀ x y z : Value, (((W'.setCell ⟨s, 0, none⟩ x).setCell ⟨s, 1, none⟩ y).setCell ⟨s, 2, none⟩ z).cell? ⟨g1, 0, none⟩ = some (.slice (some ⟨bl, offl, none⟩) nl cl) ∧ (((W'.setCell ⟨s, 0, none⟩ x).setCell ⟨s, 1, none⟩ y).setCell ⟨s, 2, none⟩ z).cell? ⟨bl, offl + i * 3, none⟩ = some (.slice (S i).A1 (S i).n1 (S i).c1) ∧ (((W'.setCell ⟨s, 0, none⟩ x).setCell ⟨s, 1, none⟩ y).setCell ⟨s, 2, none⟩ z).cell? ⟨bl, offl + i * 3 + 1, none⟩ = some (.slice (S i).A2 (S i).n2 (S i).c2) ∧ (((W'.setCell ⟨s, 0, none⟩ x).setCell ⟨s, 1, none⟩ y).setCell ⟨s, 2, none⟩ z).cell? ⟨bl, offl + i * 3 + 2, none⟩ = some (.slice (S i).A3 (S i).n3 (S i).c3) := fun W' k x y z => by
    obtain ⟨⟨t0, t1, t2, t3⟩, -⟩ := hall W' k
    exact ⟨(three_cell (by omega)).trans t0, (three_cell (by omega)).trans t1, (three_cell (by omega)).trans t2, (three_cell (by omega)).trans t3⟩
  have HALL := Lib.hid hall
  have HALL3 := Lib.hid hall3
  have HS := Lib.hid (h.below b1)
  have HB := Lib.hid (hb.trans (b1.mono hsz))
  have HG := Lib.hid hg
  have HEl := Lib.hid (hl.at_ i hil)
  have HQ := Lib.hid hq
  have BD := Lib.hid (Bo.refl r W1)
  have B1 := Lib.hid (Bo.of r b1)
  have HSS := Lib.hid hs
  have HSZ := Lib.hid sz1
  have kA := (hall W1 (Bo.refl _ _)).1
  have hjl : (i : Int) < (nl : Int) := by omega
  clear h hb hg hall hall3 row sz1 b1 hq hl k1 e1 lg1 yl
  go_enter Tryz.func68, Tryz.ntmps68
  obtain ⟨z0, z1, z2, z3⟩ := kA
  rw [hW] at z0 z1 z2 z3
  try rw [hs] at z0 z1 z2 z3
  go_wp2_with fail
  rw [← hW]
  clear z0 z1 z2 z3
  try rw [hs]
  clear hW hs
  refine (pair_q HS.out HB.out h0 HG.out HEl.out.p HEl.out.q HEl.out.a HQ.out).mono ?_
  rintro e w5 ⟨s5, rfl, hp5, hs5, hb5⟩
  have BO5 := Lib.hid (BD.out.trans hb5)
  have P5 := Lib.hid hp5
  have HS5 := Lib.hid hs5
  have R5 := Lib.hid (HALL.out _ BO5.out).2
  clear hp5 hs5 hb5
  have x0 := (cell_of_row w5 s 0 _ _ _ R5.out)
  have x1 := (cell_of_row w5 s 1 _ _ _ R5.out)
  have x2 := (cell_of_row w5 s 2 _ _ _ R5.out)
  have f0 := frozen_of_row w5 s 0 _ _ R5.out
  have f1 := frozen_of_row w5 s 1 _ _ R5.out
  have f2 := frozen_of_row w5 s 2 _ _ R5.out
  go_wp2_with fail
  refine bodyPost_ret (v := .agg #[.slice s5.A1 s5.n1 s5.c1, .slice s5.A2 s5.n2 s5.c2, .slice s5.A3 s5.n3 s5.c3]) (results_cell_row Tryz.results68 _ _ s _ _ _ _ rfl (three_row R5.out) Tryz.underlying61 rfl sizePair) rfl ?_
  exact pairP_out B1.out BO5.out rl HSS.out HSZ.out HS5.out P5.out
theorem ent_Open : ∀ (xs : Array Value) (W : World), (callFunc 68 xs).run Tryz.prog W = .ok (.enter 68 xs) W := enter_of Tryz.func68 (by kernel_rfl) rfl
set_option maxHeartbeats 4000000 in
set_option maxRecDepth 100000 in
theorem clo_Turn (h : Sq w r b q) (hb : Below w0.heap.size w0 w) (h0 : w0.heap.size ≤ r) (hg : Gr w0 b d) (k1 : w.cell? ⟨g1, 0, none⟩ = some (.slice Al nl cl)) (e1 : g1 ≠ r) (hl : Ch w0 Al nl cl S) (hil : i < nl) (hq : q' = true ↔ q = true ∨ ¬ (ElT d.P d.Q (Trp.of (S i)))) :
    Calls Tryz.prog 66 #[.int .i64 (i : Int), .pointer (some ⟨r, 0, none⟩), .pointer (some ⟨g1, 0, none⟩)] w (PairP r b q' (turnN (Trp.of (S i))) w) := by
  obtain ⟨bl, offl, rfl, lbl, yl⟩ := hl.ex (by omega)
  have hsz := hb.size
  obtain ⟨s, hs⟩ : ∃ s, w.heap.size = s := ⟨_, rfl⟩
  obtain ⟨W1, hW⟩ : ∃ W1, W1 = w.alloc (.cells #[.slice none 0 0, .slice none 0 0, .slice none 0 0] 61) := ⟨_, rfl⟩
  have b1 : Below w.heap.size w W1 := by rw [hW]; exact (Below.refl _ _).alloc (Nat.le_refl _) _
  have row : W1.heap[s]? = some (.cells #[.slice none 0 0, .slice none 0 0, .slice none 0 0] 61 (0, 0)) := by rw [hW, ← hs]; exact heap_alloc_new w _
  have sz1 : W1.heap.size = s + 1 := by rw [hW, ← hs]; simp
  have rl : r < s := by rw [← hs]; exact h.lt
  have lg1 : g1 < w.heap.size := block_lt_of_cell k1
  have hall : ∀ W', Bo r W1 W' → (W'.cell? ⟨g1, 0, none⟩ = some (.slice (some ⟨bl, offl, none⟩) nl cl) ∧ W'.cell? ⟨bl, offl + i * 3, none⟩ = some (.slice (S i).A1 (S i).n1 (S i).c1) ∧ W'.cell? ⟨bl, offl + i * 3 + 1, none⟩ = some (.slice (S i).A2 (S i).n2 (S i).c2) ∧ W'.cell? ⟨bl, offl + i * 3 + 2, none⟩ = some (.slice (S i).A3 (S i).n3 (S i).c3)) ∧ W'.heap[s]? = some (.cells #[.slice none 0 0, .slice none 0 0, .slice none 0 0] 61 (0, 0)) := fun W' k =>
    ⟨⟨(k.cell (p := ⟨g1, 0, none⟩) (show g1 < _ by omega) e1).trans ((b1.cell (p := ⟨g1, 0, none⟩) lg1).trans k1), (k.cell (p := ⟨bl, offl + i * 3, none⟩) (show bl < _ by omega) (show bl ≠ r by omega)).trans ((b1.cell (p := ⟨bl, offl + i * 3, none⟩) (show bl < _ by omega)).trans ((hb.cell (p := ⟨bl, offl + i * 3, none⟩) lbl).trans (yl i hil).c0)), (k.cell (p := ⟨bl, offl + i * 3 + 1, none⟩) (show bl < _ by omega) (show bl ≠ r by omega)).trans ((b1.cell (p := ⟨bl, offl + i * 3 + 1, none⟩) (show bl < _ by omega)).trans ((hb.cell (p := ⟨bl, offl + i * 3 + 1, none⟩) lbl).trans (yl i hil).c1)), (k.cell (p := ⟨bl, offl + i * 3 + 2, none⟩) (show bl < _ by omega) (show bl ≠ r by omega)).trans ((b1.cell (p := ⟨bl, offl + i * 3 + 2, none⟩) (show bl < _ by omega)).trans ((hb.cell (p := ⟨bl, offl + i * 3 + 2, none⟩) lbl).trans (yl i hil).c2))⟩, (k.block s (by omega) (by omega)).trans row⟩
  have hall3 : ∀ W', Bo r W1 W' → ∀ x y z : Value, (((W'.setCell ⟨s, 0, none⟩ x).setCell ⟨s, 1, none⟩ y).setCell ⟨s, 2, none⟩ z).cell? ⟨g1, 0, none⟩ = some (.slice (some ⟨bl, offl, none⟩) nl cl) ∧ (((W'.setCell ⟨s, 0, none⟩ x).setCell ⟨s, 1, none⟩ y).setCell ⟨s, 2, none⟩ z).cell? ⟨bl, offl + i * 3, none⟩ = some (.slice (S i).A1 (S i).n1 (S i).c1) ∧ (((W'.setCell ⟨s, 0, none⟩ x).setCell ⟨s, 1, none⟩ y).setCell ⟨s, 2, none⟩ z).cell? ⟨bl, offl + i * 3 + 1, none⟩ = some (.slice (S i).A2 (S i).n2 (S i).c2) ∧ (((W'.setCell ⟨s, 0, none⟩ x).setCell ⟨s, 1, none⟩ y).setCell ⟨s, 2, none⟩ z).cell? ⟨bl, offl + i * 3 + 2, none⟩ = some (.slice (S i).A3 (S i).n3 (S i).c3) := fun W' k x y z => by
    obtain ⟨⟨t0, t1, t2, t3⟩, -⟩ := hall W' k
    exact ⟨(three_cell (by omega)).trans t0, (three_cell (by omega)).trans t1, (three_cell (by omega)).trans t2, (three_cell (by omega)).trans t3⟩
  have HALL := Lib.hid hall
  have HALL3 := Lib.hid hall3
  have HS := Lib.hid (h.below b1)
  have HB := Lib.hid (hb.trans (b1.mono hsz))
  have HG := Lib.hid hg
  have HEl := Lib.hid (hl.at_ i hil)
  have HQ := Lib.hid hq
  have BD := Lib.hid (Bo.refl r W1)
  have B1 := Lib.hid (Bo.of r b1)
  have HSS := Lib.hid hs
  have HSZ := Lib.hid sz1
  have kA := (hall W1 (Bo.refl _ _)).1
  have hjl : (i : Int) < (nl : Int) := by omega
  clear h hb hg hall hall3 row sz1 b1 hq hl k1 e1 lg1 yl
  go_enter Tryz.func66, Tryz.ntmps66
  obtain ⟨z0, z1, z2, z3⟩ := kA
  rw [hW] at z0 z1 z2 z3
  try rw [hs] at z0 z1 z2 z3
  go_wp2_with fail
  rw [← hW]
  clear z0 z1 z2 z3
  try rw [hs]
  clear hW hs
  refine (pair_q HS.out HB.out h0 HG.out HEl.out.p HEl.out.q HEl.out.a HQ.out).mono ?_
  rintro e w5 ⟨s5, rfl, hp5, hs5, hb5⟩
  have BO5 := Lib.hid (BD.out.trans hb5)
  have P5 := Lib.hid hp5
  have HS5 := Lib.hid hs5
  have R5 := Lib.hid (HALL.out _ BO5.out).2
  clear hp5 hs5 hb5
  obtain ⟨W6, hW6⟩ : ∃ W6, W6 = (w5.alloc (.cells #[.slice s5.A1 s5.n1 s5.c1, .slice s5.A2 s5.n2 s5.c2, .slice s5.A3 s5.n3 s5.c3] 61)).alloc (.cells #[.int .u64 1] 78) := ⟨_, rfl⟩
  have b6 : Below w5.heap.size w5 W6 := by rw [hW6]; exact ((Below.refl _ _).alloc (Nat.le_refl _) _).alloc (by simp) _
  have c6 : Cn W6 (some ⟨w5.heap.size + 1, 0, none⟩) 1 1 1 := by
    rw [hW6]
    have := cn_lit1 (w5.alloc (.cells #[.slice s5.A1 s5.n1 s5.c1, .slice s5.A2 s5.n2 s5.c2, .slice s5.A3 s5.n3 s5.c3] 61))
    simpa using this
  have R6 := Lib.hid ((b6.block s (by have := (Array.getElem?_eq_some_iff.1 R5.out).1; omega)).trans R5.out)
  have x0 := (cell_of_row W6 s 0 _ _ _ R6.out)
  have x1 := (cell_of_row W6 s 1 _ _ _ R6.out)
  have x2 := (cell_of_row W6 s 2 _ _ _ R6.out)
  have f0 := frozen_of_row W6 s 0 _ _ R6.out
  have f1 := frozen_of_row W6 s 1 _ _ R6.out
  have f2 := frozen_of_row W6 s 2 _ _ R6.out
  have C6 := Lib.hid c6
  have B6 := Lib.hid b6
  clear c6 b6
  rw [hW6] at x0 x1 x2 f0 f1 f2
  go_wp2_with fail
  rw [← hW6]
  clear x0 x1 x2 f0 f1 f2 hW6
  refine bodyPost_ret (v := .agg #[.slice s5.A3 s5.n3 s5.c3, .slice s5.A2 s5.n2 s5.c2, .slice (some ⟨w5.heap.size + 1, 0, none⟩) 1 1]) (results_cell_row Tryz.results66 _ _ s _ _ _ _ rfl (three_row R6.out) Tryz.underlying61 rfl sizePair) rfl ?_
  have hz := HSZ.out
  have hz5 := BO5.out.size
  have hss := HSS.out
  refine pairP_end ⟨s5.A3, s5.n3, s5.c3, s5.A2, s5.n2, s5.c2, some ⟨w5.heap.size + 1, 0, none⟩, 1, 1, s5.A, s5.Q, 1⟩ (B1.out.trans (BO5.out.trans (Bo.of r B6.out))) (by omega) rl (HS5.out.below B6.out) (fun g => ?_) (fun g a ha => by have := (P5.out g).n3 a ha; omega) (fun g a ha => by have := (P5.out g).n2 a ha; omega) (fun _ a ha => by injection ha with ha; subst ha; constructor <;> (simp; omega))
  have p := P5.out g
  exact ⟨(Bo.of r B6.out).cn p.a (fun a ha => by have := p.n3 a ha; omega), (Bo.of r B6.out).cn p.q (fun a ha => by have := p.n2 a ha; omega), C6.out, (show turnN (Trp.of s5) = _ by rw [p.tr]; rfl)⟩
theorem ent_Turn : ∀ (xs : Array Value) (W : World), (callFunc 66 xs).run Tryz.prog W = .ok (.enter 66 xs) W := enter_of Tryz.func66 (by kernel_rfl) rfl
end
end Go.Proofs.YtpmnghealjgkeaaGreat
