/-
  Several texts in one: Pw4, Pw5.
-/
import Derived.Test.YtcnekfpgoceblaaPch
/-
  The program's writer: the closures that message makes, and writeLists. By program: genpw4.py.
-/
namespace Go.Proofs.Ytcnekfpgoceblaa
open Go.RowKit
set_option linter.unusedVariables false
/-- A variable that a closure holds: its block, and what is in it. -/
def BxK (g o : Nat) (u : Value) (W : World) : Prop := g ≠ o ∧ ∃ t, t ≠ 5 ∧ W.heap[g]? = some (.cells #[u] t (0, 0))
theorem BxK.cell {g o : Nat} {u : Value} {W : World} (h : BxK g o u W) : W.cell? ⟨g, 0, none⟩ = some u := by
  obtain ⟨h0, t, h1, h2⟩ := h
  exact cell_of_row W g 0 _ _ _ h2
theorem BxK.lt {g o : Nat} {u : Value} {W : World} (h : BxK g o u W) : g < W.heap.size := by
  obtain ⟨h0, t, h1, h2⟩ := h
  exact (Array.getElem?_eq_some_iff.1 h2).1
theorem BxK.gw {g o : Nat} {u : Value} {W W' : World} (h : BxK g o u W) (hg : Gw o W W') : BxK g o u W' := by
  have hl := h.lt
  obtain ⟨h0, t, h1, h2⟩ := h
  refine ⟨h0, t, h1, (hg.block g hl h0 (.inr ?_)).trans h2⟩
  rintro ⟨cur, m, h3⟩
  rw [h2] at h3
  injection h3 with h3
  injection h3 with h4 h5
  exact h1 h5
theorem BxK.new {o : Nat} (W : World) (u : Value) {t : TypeId} (ht : t ≠ 5) (ho : o < W.heap.size) : BxK W.heap.size o u (W.alloc (.cells #[u] t)) := ⟨by omega, t, ht, heap_alloc_new W _⟩
theorem not_byb {W : World} {g : Nat} {c : Array Value} {t : TypeId} {m : Nat × Nat} (h : W.heap[g]? = some (.cells c t m)) (ht : t ≠ 5) : ¬ ByB W g := by
  rintro ⟨cur, m, h3⟩
  rw [h] at h3
  injection h3 with h3
  injection h3 with h4 h5
  exact ht h5
def nsP (p : Stp) (i : Nat) : Nsl := if i = 0 then ⟨p.A1, p.n1, p.c1, p.P⟩ else if i = 1 then ⟨p.A2, p.n2, p.c2, p.Q⟩ else ⟨p.A3, p.n3, p.c3, p.A⟩
def nsF (p : Pf2) (i : Nat) : Nsl := if i = 0 then ⟨p.A1, p.n1, p.c1, p.E⟩ else ⟨p.A2, p.n2, p.c2, p.Z⟩
/-- A proof's numbers, in memory. -/
abbrev Pf2.At (w : World) (s : Pf2) : Prop := Nm w s.A1 s.n1 s.c1 s.E ∧ Nm w s.A2 s.n2 s.c2 s.Z
theorem sq_mkW : ∀ (fn : Fn) (first cap : Array Value) (w : World), (Instr.makeFunc fn first cap).run Try.prog w = .ok (.func fn first cap) w := fun _ _ _ _ => rfl
theorem ent_w {f : FuncId} {fn : Func} {c : Code} (hf : Try.prog.funcs[f]? = some fn) (hname : (fn.name == "runtime.NumGoroutine") = false) (hb : fn.body = some c) : ∀ (xs : Array Value) (W : World), (callFunc f xs).run Try.prog W = .ok (.enter f xs) W := fun xs W => by
  have h1 : fn.name ≠ "runtime.NumGoroutine" := by simpa using hname
  simp [callFunc, hf, h1, hb]
/-! ### Pair -/
theorem ent_pa : ∀ (xs : Array Value) (W : World), (callFunc 43 xs).run Try.prog W = .ok (.enter 43 xs) W := ent_w Try.func43 (by kernel_rfl) rfl
theorem ent_lpa : ∀ (xs : Array Value) (W : World), (callFunc 64 xs).run Try.prog W = .ok (.enter 64 xs) W := ent_w Try.func64 (by kernel_rfl) rfl
set_option maxHeartbeats 4000000 in
set_option maxRecDepth 100000 in
theorem pm_pa {w0 w : World} {o M g : Nat} {s : OuS} {p : Stp} (hp : p.At w0) (hb : Below w0.heap.size w0 w) (h0 : w0.heap.size ≤ o) (h : Pt w o M s) (hM : M ≤ 2097152) (hk : BxK g o (.pointer (some ⟨o, 0, none⟩)) w) :
    Calls Try.prog 43 #[.agg #[.slice p.A1 p.n1 p.c1, .slice p.A2 p.n2 p.c2, .slice p.A3 p.n3 p.c3], .pointer (some ⟨g, 0, none⟩)] w (PtP o M (((s.num p.P).num p.Q).num p.A) w) := by
  have HO := Lib.hid h
  have HPP := Lib.hid hp
  have HB0 := Lib.hid hb
  have lt := h.lt
  have k0 := hk.cell
  have lg := hk.lt
  obtain ⟨W1, hW1⟩ : ∃ W1, w.alloc (.cells #[.slice p.A1 p.n1 p.c1, .slice p.A2 p.n2 p.c2, .slice p.A3 p.n3 p.c3] 74) = W1 := ⟨_, rfl⟩
  have b1 : Below w.heap.size w W1 := by rw [← hW1]; exact (Below.refl _ _).alloc (Nat.le_refl _) _
  have k1 : W1.cell? ⟨g, 0, none⟩ = some (.pointer (some ⟨o, 0, none⟩)) := (b1.cell (p := ⟨g, 0, none⟩) lg).trans k0
  have s1 : W1.heap.size = w.heap.size + 1 := by rw [← hW1]; simp
  have x0 : W1.cell? ⟨w.heap.size, 0, none⟩ = some (.slice p.A1 p.n1 p.c1) := by rw [← hW1]; exact (World.cell?_alloc_at _ _ _ _ rfl).trans rfl
  have x1 : W1.cell? ⟨w.heap.size, 1, none⟩ = some (.slice p.A2 p.n2 p.c2) := by rw [← hW1]; exact (World.cell?_alloc_at _ _ _ _ rfl).trans rfl
  have x2 : W1.cell? ⟨w.heap.size, 2, none⟩ = some (.slice p.A3 p.n3 p.c3) := by rw [← hW1]; exact (World.cell?_alloc_at _ _ _ _ rfl).trans rfl
  obtain ⟨W2, hW2⟩ : ∃ W2, W1.alloc (.cells #[.slice p.A1 p.n1 p.c1, .slice p.A2 p.n2 p.c2, .slice p.A3 p.n3 p.c3] 26) = W2 := ⟨_, rfl⟩
  have b2 : Below W1.heap.size W1 W2 := by rw [← hW2]; exact (Below.refl _ _).alloc (Nat.le_refl _) _
  have R2 := Lib.hid (show W2.heap[w.heap.size + 1]? = some (.cells #[.slice p.A1 p.n1 p.c1, .slice p.A2 p.n2 p.c2, .slice p.A3 p.n3 p.c3] 26 (0, 0)) by rw [← hW2, ← s1]; exact heap_alloc_new W1 _)
  have B12 := Lib.hid (show Below w.heap.size w W2 from b1.trans (b2.mono (by omega)))
  have l2 : w.heap.size + 1 < W2.heap.size := by rw [← hW2, ← s1]; simp
  clear h hp hb hk b1 b2
  go_enter Try.func43, Try.ntmps43
  go_wp2_with fail
  try rw [hW1]
  try rw [hW1]
  try rw [hW2]
  with_reducible refine (pnums_any (S := nsP p) (n := 3) (g := w.heap.size + 1) (HO.out.below B12.out) hM h0 (HB0.out.trans (B12.out.mono HB0.out.size)) (by decide) l2 (by omega) (not_byb R2.out (by decide)) (fun i hi => ?_) (fun i hi => ?_)).mono ?_
  · rcases (show i = 0 ∨ i = 1 ∨ i = 2 by omega) with rfl | rfl | rfl
    all_goals exact cell_of_row W2 (w.heap.size + 1) _ _ _ _ R2.out
  · rcases (show i = 0 ∨ i = 1 ∨ i = 2 by omega) with rfl | rfl | rfl
    · exact HPP.out.p
    · exact HPP.out.q
    · exact HPP.out.a
  rintro e w3 ⟨rfl, o3, b3⟩
  have O3 := Lib.hid o3
  have B3 := Lib.hid b3
  clear o3 b3
  go_wp2_with fail
  refine bodyPost_ret (results_none rfl _ _ _) rfl ?_
  exact ⟨rfl, O3.out, (Gw.of B12.out (Nat.le_refl _)).trans B3.out⟩
/-- What the closures hold. -/
def Kpa (o g g1 g2 : Nat) (W : World) : Prop := BxK g o (.pointer (some ⟨o, 0, none⟩)) W ∧ BxK g1 o (.pointer (some ⟨o, 0, none⟩)) W ∧ BxK g2 o (.func (.func 43) #[] #[.pointer (some ⟨g, 0, none⟩)]) W
theorem Kpa.b0 {o g g1 g2 : Nat} {W : World} (h : Kpa o g g1 g2 W) : BxK g o (.pointer (some ⟨o, 0, none⟩)) W := h.1
theorem Kpa.gw {o g g1 g2 : Nat} (W W' : World) (h : Kpa o g g1 g2 W) (k : Gw o W W') : Kpa o g g1 g2 W' := ⟨h.1.gw k, h.2.1.gw k, h.2.2.gw k⟩
theorem over_pa {M : Nat} (S : Nat → Stp) (s : OuS) (i : Nat) (h : s.over M) : (((s.num (S i).P).num (S i).Q).num (S i).A).over M := OuS.over_num _ (OuS.over_num _ (OuS.over_num _ h))
set_option maxHeartbeats 4000000 in
set_option maxRecDepth 100000 in
theorem pl_pa {w0 w : World} {o M g g1 g2 : Nat} {s : OuS} {A : Option Addr} {n c : Nat} {S : Nat → Stp} (hS : Ch w0 A n c S) (hb : Below w0.heap.size w0 w) (h0 : w0.heap.size ≤ o) (h : Pt w o M s) (hM : M ≤ 2097152) (hk : Kpa o g g1 g2 w) :
    Calls Try.prog 64 #[.slice A n c, .pointer (some ⟨g1, 0, none⟩), .pointer (some ⟨g2, 0, none⟩)] w (PtP o M (letO (s.cnt (n : Int)) S n) w) := by
  have HO := Lib.hid h
  have HS := Lib.hid hS
  have HB0 := Lib.hid hb
  have HK := Lib.hid hk
  have k1 := hk.2.1.cell
  have k2 := hk.2.2.cell
  have E := Lib.hid (show letO (s.cnt (n : Int)) S n = (List.range n).foldl (fun s i => ((s.num (S i).P).num (S i).Q).num (S i).A) (s.put (cntE n)) by
    rw [OuS.cnt_ok (by unfold topC; have := HS.out.c60; omega)]; rfl)
  clear h hS hb hk
  go_enter Try.func64, Try.ntmps64
  go_wp2_with fail
  with_reducible refine (wl_pair (K := fun W => Kpa o g g1 g2 W) (fun W W' a b => Kpa.gw W W' a b) ent_pa (S := S) (f := fun s i => ((s.num (S i).P).num (S i).Q).num (S i).A) (fun s i hh => over_pa S s i hh) (fun i hi W s' hbw hpt hkw => pm_pa (HS.out.at_ i hi) hbw h0 hpt hM hkw.b0) HO.out hM h0 HB0.out HK.out HS.out.c60 HS.out.ex).mono ?_
  rintro e w3 ⟨rfl, o3, b3⟩
  have O3 := Lib.hid o3
  have B3 := Lib.hid b3
  clear o3 b3
  go_wp2_with fail
  refine bodyPost_ret (results_none rfl _ _ _) rfl ?_
  exact ⟨rfl, by rw [E.out]; exact O3.out, B3.out⟩
theorem over_lpa {M : Nat} (B : Nat → Lsl) (s : OuS) (i : Nat) (h : s.over M) : (letO (s.cnt ((B i).n : Int)) (B i).S (B i).n).over M :=
  over_fold (f := fun s j => ((s.num ((B i).S j).P).num ((B i).S j).Q).num ((B i).S j).A) (fun s j hh => over_pa (B i).S s j hh) (s.cnt ((B i).n : Int)) (Nat.zero_le _) (OuS.over_cnt _ h)
set_option maxHeartbeats 4000000 in
set_option maxRecDepth 100000 in
theorem pls_pa {w0 w : World} {o M g : Nat} {s : OuS} {A : Option Addr} {n c : Nat} {B : Nat → Lsl} (hS : Bat w0 A n c B) (hb : Below w0.heap.size w0 w) (h0 : w0.heap.size ≤ o) (h : Pt w o M s) (hM : M ≤ 2097152) (hk : BxK g o (.pointer (some ⟨o, 0, none⟩)) w) :
    Calls Try.prog 42 #[.pointer (some ⟨o, 0, none⟩), .slice A n c, .func (.func 43) #[] #[.pointer (some ⟨g, 0, none⟩)]] w (PtP o M (batO (s.cnt (n : Int)) B n) w) := by
  have HO := Lib.hid h
  have HS := Lib.hid hS
  have HB0 := Lib.hid hb
  have lt := h.lt
  obtain ⟨W1, hW1⟩ : ∃ W1, w.alloc (.cells #[.pointer (some ⟨o, 0, none⟩)] 62) = W1 := ⟨_, rfl⟩
  have b1 : Below w.heap.size w W1 := by rw [← hW1]; exact (Below.refl _ _).alloc (Nat.le_refl _) _
  have s1 : W1.heap.size = w.heap.size + 1 := by rw [← hW1]; simp
  obtain ⟨W2, hW2⟩ : ∃ W2, W1.alloc (.cells #[.func (.func 43) #[] #[.pointer (some ⟨g, 0, none⟩)]] 98) = W2 := ⟨_, rfl⟩
  have b2 : Below W1.heap.size W1 W2 := by rw [← hW2]; exact (Below.refl _ _).alloc (Nat.le_refl _) _
  have kk : Kpa o g w.heap.size (w.heap.size + 1) W2 := ⟨hk.gw ((Gw.of b1 (Nat.le_refl _)).trans (Gw.of b2 (Nat.le_refl _))), (by rw [← hW1]; exact BxK.new w _ (by decide) lt : BxK w.heap.size o _ W1).gw (Gw.of b2 (Nat.le_refl _)), by rw [← hW2, ← s1]; exact BxK.new W1 _ (by decide) (by omega)⟩
  have B12 := Lib.hid (show Below w.heap.size w W2 from b1.trans (b2.mono (by omega)))
  have HK := Lib.hid kk
  have k1 := kk.2.1.cell
  have he := @sq_mkW
  have E := Lib.hid (show batO (s.cnt (n : Int)) B n = (List.range n).foldl (fun s i => letO (s.cnt ((B i).n : Int)) (B i).S (B i).n) (s.put (cntE n)) by
    rw [OuS.cnt_ok (by unfold topC; have := HS.out.c60; omega)]; rfl)
  clear h hS hb hk b1 b2 kk
  go_enter Try.func42, Try.ntmps42
  go_wp2_with fail
  try rw [hW1]
  try rw [hW2]
  with_reducible refine (wl_pairs (K := fun W => Kpa o g w.heap.size (w.heap.size + 1) W) (fun W W' a b => Kpa.gw W W' a b) ent_lpa (EA := fun i => (B i).A) (En := fun i => (B i).n) (Ec := fun i => (B i).c) (f := fun s i => letO (s.cnt ((B i).n : Int)) (B i).S (B i).n) (fun s i hh => over_lpa B s i hh) (fun i hi W s' hbw hpt hkw => pl_pa (HS.out.at_ i hi) hbw h0 hpt hM hkw) (HO.out.below B12.out) hM h0 (HB0.out.trans (B12.out.mono HB0.out.size)) HK.out HS.out.c60 HS.out.ex).mono ?_
  rintro e w3 ⟨rfl, o3, b3⟩
  have O3 := Lib.hid o3
  have B3 := Lib.hid b3
  clear o3 b3
  go_wp2_with fail
  refine bodyPost_ret (results_none rfl _ _ _) rfl ?_
  exact ⟨rfl, by rw [E.out]; exact O3.out, (Gw.of B12.out (Nat.le_refl _)).trans B3.out⟩
/-! ### Proof -/
theorem ent_pf : ∀ (xs : Array Value) (W : World), (callFunc 46 xs).run Try.prog W = .ok (.enter 46 xs) W := ent_w Try.func46 (by kernel_rfl) rfl
theorem ent_lpf : ∀ (xs : Array Value) (W : World), (callFunc 68 xs).run Try.prog W = .ok (.enter 68 xs) W := ent_w Try.func68 (by kernel_rfl) rfl
set_option maxHeartbeats 4000000 in
set_option maxRecDepth 100000 in
theorem pm_pf {w0 w : World} {o M g : Nat} {s : OuS} {p : Pf2} (hp : p.At w0) (hb : Below w0.heap.size w0 w) (h0 : w0.heap.size ≤ o) (h : Pt w o M s) (hM : M ≤ 2097152) (hk : BxK g o (.pointer (some ⟨o, 0, none⟩)) w) :
    Calls Try.prog 46 #[.agg #[.slice p.A1 p.n1 p.c1, .slice p.A2 p.n2 p.c2], .pointer (some ⟨g, 0, none⟩)] w (PtP o M ((s.num p.E).num p.Z) w) := by
  have HO := Lib.hid h
  have HPP := Lib.hid hp
  have HB0 := Lib.hid hb
  have lt := h.lt
  have k0 := hk.cell
  have lg := hk.lt
  obtain ⟨W1, hW1⟩ : ∃ W1, w.alloc (.cells #[.slice p.A1 p.n1 p.c1, .slice p.A2 p.n2 p.c2] 76) = W1 := ⟨_, rfl⟩
  have b1 : Below w.heap.size w W1 := by rw [← hW1]; exact (Below.refl _ _).alloc (Nat.le_refl _) _
  have k1 : W1.cell? ⟨g, 0, none⟩ = some (.pointer (some ⟨o, 0, none⟩)) := (b1.cell (p := ⟨g, 0, none⟩) lg).trans k0
  have s1 : W1.heap.size = w.heap.size + 1 := by rw [← hW1]; simp
  have x0 : W1.cell? ⟨w.heap.size, 0, none⟩ = some (.slice p.A1 p.n1 p.c1) := by rw [← hW1]; exact (World.cell?_alloc_at _ _ _ _ rfl).trans rfl
  have x1 : W1.cell? ⟨w.heap.size, 1, none⟩ = some (.slice p.A2 p.n2 p.c2) := by rw [← hW1]; exact (World.cell?_alloc_at _ _ _ _ rfl).trans rfl
  obtain ⟨W2, hW2⟩ : ∃ W2, W1.alloc (.cells #[.slice p.A1 p.n1 p.c1, .slice p.A2 p.n2 p.c2] 26) = W2 := ⟨_, rfl⟩
  have b2 : Below W1.heap.size W1 W2 := by rw [← hW2]; exact (Below.refl _ _).alloc (Nat.le_refl _) _
  have R2 := Lib.hid (show W2.heap[w.heap.size + 1]? = some (.cells #[.slice p.A1 p.n1 p.c1, .slice p.A2 p.n2 p.c2] 26 (0, 0)) by rw [← hW2, ← s1]; exact heap_alloc_new W1 _)
  have B12 := Lib.hid (show Below w.heap.size w W2 from b1.trans (b2.mono (by omega)))
  have l2 : w.heap.size + 1 < W2.heap.size := by rw [← hW2, ← s1]; simp
  clear h hp hb hk b1 b2
  go_enter Try.func46, Try.ntmps46
  go_wp2_with fail
  try rw [hW1]
  try rw [hW1]
  try rw [hW2]
  with_reducible refine (pnums_any (S := nsF p) (n := 2) (g := w.heap.size + 1) (HO.out.below B12.out) hM h0 (HB0.out.trans (B12.out.mono HB0.out.size)) (by decide) l2 (by omega) (not_byb R2.out (by decide)) (fun i hi => ?_) (fun i hi => ?_)).mono ?_
  · rcases (show i = 0 ∨ i = 1 by omega) with rfl | rfl
    all_goals exact cell_of_row W2 (w.heap.size + 1) _ _ _ _ R2.out
  · rcases (show i = 0 ∨ i = 1 by omega) with rfl | rfl
    · exact HPP.out.1
    · exact HPP.out.2
  rintro e w3 ⟨rfl, o3, b3⟩
  have O3 := Lib.hid o3
  have B3 := Lib.hid b3
  clear o3 b3
  go_wp2_with fail
  refine bodyPost_ret (results_none rfl _ _ _) rfl ?_
  exact ⟨rfl, O3.out, (Gw.of B12.out (Nat.le_refl _)).trans B3.out⟩
/-- What the closures hold. -/
def Kpf (o g g1 g2 : Nat) (W : World) : Prop := BxK g o (.pointer (some ⟨o, 0, none⟩)) W ∧ BxK g1 o (.pointer (some ⟨o, 0, none⟩)) W ∧ BxK g2 o (.func (.func 46) #[] #[.pointer (some ⟨g, 0, none⟩)]) W
theorem Kpf.b0 {o g g1 g2 : Nat} {W : World} (h : Kpf o g g1 g2 W) : BxK g o (.pointer (some ⟨o, 0, none⟩)) W := h.1
theorem Kpf.gw {o g g1 g2 : Nat} (W W' : World) (h : Kpf o g g1 g2 W) (k : Gw o W W') : Kpf o g g1 g2 W' := ⟨h.1.gw k, h.2.1.gw k, h.2.2.gw k⟩
theorem over_pf {M : Nat} (S : Nat → Pf2) (s : OuS) (i : Nat) (h : s.over M) : ((s.num (S i).E).num (S i).Z).over M := OuS.over_num _ (OuS.over_num _ h)
set_option maxHeartbeats 4000000 in
set_option maxRecDepth 100000 in
theorem pl_pf {w0 w : World} {o M g g1 g2 : Nat} {s : OuS} {A : Option Addr} {n c : Nat} {S : Nat → Pf2} (hS : Pfs w0 A n c S) (hb : Below w0.heap.size w0 w) (h0 : w0.heap.size ≤ o) (h : Pt w o M s) (hM : M ≤ 2097152) (hk : Kpf o g g1 g2 w) :
    Calls Try.prog 68 #[.slice A n c, .pointer (some ⟨g1, 0, none⟩), .pointer (some ⟨g2, 0, none⟩)] w (PtP o M (pflO (s.cnt (n : Int)) S n) w) := by
  have HO := Lib.hid h
  have HS := Lib.hid hS
  have HB0 := Lib.hid hb
  have HK := Lib.hid hk
  have k1 := hk.2.1.cell
  have k2 := hk.2.2.cell
  have E := Lib.hid (show pflO (s.cnt (n : Int)) S n = (List.range n).foldl (fun s i => (s.num (S i).E).num (S i).Z) (s.put (cntE n)) by
    rw [OuS.cnt_ok (by unfold topC; have := HS.out.c60; omega)]; rfl)
  clear h hS hb hk
  go_enter Try.func68, Try.ntmps68
  go_wp2_with fail
  with_reducible refine (wl_proof (K := fun W => Kpf o g g1 g2 W) (fun W W' a b => Kpf.gw W W' a b) ent_pf (S := S) (f := fun s i => (s.num (S i).E).num (S i).Z) (fun s i hh => over_pf S s i hh) (fun i hi W s' hbw hpt hkw => pm_pf (HS.out.at_ i hi) hbw h0 hpt hM hkw.b0) HO.out hM h0 HB0.out HK.out HS.out.c60 HS.out.ex).mono ?_
  rintro e w3 ⟨rfl, o3, b3⟩
  have O3 := Lib.hid o3
  have B3 := Lib.hid b3
  clear o3 b3
  go_wp2_with fail
  refine bodyPost_ret (results_none rfl _ _ _) rfl ?_
  exact ⟨rfl, by rw [E.out]; exact O3.out, B3.out⟩
theorem over_lpf {M : Nat} (B : Nat → Psl) (s : OuS) (i : Nat) (h : s.over M) : (pflO (s.cnt ((B i).n : Int)) (B i).S (B i).n).over M :=
  over_fold (f := fun s j => (s.num ((B i).S j).E).num ((B i).S j).Z) (fun s j hh => over_pf (B i).S s j hh) (s.cnt ((B i).n : Int)) (Nat.zero_le _) (OuS.over_cnt _ h)
set_option maxHeartbeats 4000000 in
set_option maxRecDepth 100000 in
theorem pls_pf {w0 w : World} {o M g : Nat} {s : OuS} {A : Option Addr} {n c : Nat} {B : Nat → Psl} (hS : Pba w0 A n c B) (hb : Below w0.heap.size w0 w) (h0 : w0.heap.size ≤ o) (h : Pt w o M s) (hM : M ≤ 2097152) (hk : BxK g o (.pointer (some ⟨o, 0, none⟩)) w) :
    Calls Try.prog 45 #[.pointer (some ⟨o, 0, none⟩), .slice A n c, .func (.func 46) #[] #[.pointer (some ⟨g, 0, none⟩)]] w (PtP o M (pbaO (s.cnt (n : Int)) B n) w) := by
  have HO := Lib.hid h
  have HS := Lib.hid hS
  have HB0 := Lib.hid hb
  have lt := h.lt
  obtain ⟨W1, hW1⟩ : ∃ W1, w.alloc (.cells #[.pointer (some ⟨o, 0, none⟩)] 62) = W1 := ⟨_, rfl⟩
  have b1 : Below w.heap.size w W1 := by rw [← hW1]; exact (Below.refl _ _).alloc (Nat.le_refl _) _
  have s1 : W1.heap.size = w.heap.size + 1 := by rw [← hW1]; simp
  obtain ⟨W2, hW2⟩ : ∃ W2, W1.alloc (.cells #[.func (.func 46) #[] #[.pointer (some ⟨g, 0, none⟩)]] 100) = W2 := ⟨_, rfl⟩
  have b2 : Below W1.heap.size W1 W2 := by rw [← hW2]; exact (Below.refl _ _).alloc (Nat.le_refl _) _
  have kk : Kpf o g w.heap.size (w.heap.size + 1) W2 := ⟨hk.gw ((Gw.of b1 (Nat.le_refl _)).trans (Gw.of b2 (Nat.le_refl _))), (by rw [← hW1]; exact BxK.new w _ (by decide) lt : BxK w.heap.size o _ W1).gw (Gw.of b2 (Nat.le_refl _)), by rw [← hW2, ← s1]; exact BxK.new W1 _ (by decide) (by omega)⟩
  have B12 := Lib.hid (show Below w.heap.size w W2 from b1.trans (b2.mono (by omega)))
  have HK := Lib.hid kk
  have k1 := kk.2.1.cell
  have he := @sq_mkW
  have E := Lib.hid (show pbaO (s.cnt (n : Int)) B n = (List.range n).foldl (fun s i => pflO (s.cnt ((B i).n : Int)) (B i).S (B i).n) (s.put (cntE n)) by
    rw [OuS.cnt_ok (by unfold topC; have := HS.out.c60; omega)]; rfl)
  clear h hS hb hk b1 b2 kk
  go_enter Try.func45, Try.ntmps45
  go_wp2_with fail
  try rw [hW1]
  try rw [hW2]
  with_reducible refine (wl_proofs (K := fun W => Kpf o g w.heap.size (w.heap.size + 1) W) (fun W W' a b => Kpf.gw W W' a b) ent_lpf (EA := fun i => (B i).A) (En := fun i => (B i).n) (Ec := fun i => (B i).c) (f := fun s i => pflO (s.cnt ((B i).n : Int)) (B i).S (B i).n) (fun s i hh => over_lpf B s i hh) (fun i hi W s' hbw hpt hkw => pl_pf (HS.out.at_ i hi) hbw h0 hpt hM hkw) (HO.out.below B12.out) hM h0 (HB0.out.trans (B12.out.mono HB0.out.size)) HK.out HS.out.c60 HS.out.ex).mono ?_
  rintro e w3 ⟨rfl, o3, b3⟩
  have O3 := Lib.hid o3
  have B3 := Lib.hid b3
  clear o3 b3
  go_wp2_with fail
  refine bodyPost_ret (results_none rfl _ _ _) rfl ?_
  exact ⟨rfl, by rw [E.out]; exact O3.out, (Gw.of B12.out (Nat.le_refl _)).trans B3.out⟩
end Go.Proofs.Ytcnekfpgoceblaa
/-
  The program's writer: what areCounts, written, message and Message answer.
-/
namespace Go.Proofs.Ytcnekfpgoceblaa
open Go.RowKit
set_option linter.unusedVariables false
/-- May be written as a count. -/
abbrev Cnt (n : Int) : Prop := 0 ≤ n ∧ n ≤ 4611686018427387904
/-! ### areCounts -/
def AcR (xs : List Int) (n : Nat) (w : World) (i : Value) (wr : World) : Prop := ∃ j : Nat, i = .int .i64 j ∧ j ≤ n ∧ (∀ m, m < j → Cnt (dig xs m)) ∧ w = wr
set_option maxHeartbeats 1000000 in
theorem acnt_any {w : World} {A : Option Addr} {n c : Nat} {xs : List Int} (h : Rd .i64 w A n xs) (hx : ∀ i, i < n → -9223372036854775808 ≤ dig xs i ∧ dig xs i ≤ 9223372036854775807) (hn : n ≤ 1000) :
    Calls Try.prog 22 #[.slice A n c] w fun e w' => (∃ q : Bool, e = .returned (.bool q) ∧ (q = true ↔ ∀ i, i < n → Cnt (dig xs i))) ∧ w = w' := by
  have HX := Lib.hid hx
  clear hx
  go_enter Try.func22, Try.ntmps22
  go_wp2_with fail
  go_loopw [7] (fun i wr => AcR xs n w i wr) (fun i _ => n - (intOf i).toNat)
  case atStart => exact ⟨0, rfl, Nat.zero_le _, fun m hm => absurd hm (Nat.not_lt_zero m), rfl⟩
  case round =>
    obtain ⟨j, rfl, hj, hs, rfl⟩ := hrel
    have HS := Lib.hid hs
    clear hs
    rcases Nat.lt_or_ge j n with hlt | hge
    · have hji : (j : Int) < (n : Int) := by omega
      obtain ⟨b, off, x, rfl, hb, hx, hcell⟩ := h.at_ hlt
      have XB := HX.out j hlt
      have HXD := Lib.hid (dig_lt hx)
      rw [dig_lt hx] at XB
      clear hx
      by_cases g : Cnt x
      · have e1 : decide ((4611686018427387904 : Int) < IntKind.u64.wrap x) = false := by rw [IntKind.wrap_u64]; simp; omega
        have e2 : IntKind.u64.wrap x = x := by rw [IntKind.wrap_u64]; omega
        rw [e2] at e1
        have G := Lib.hid g
        clear g XB
        go_wp2_with fail
        go_roundw
        case rel =>
          refine ⟨j + 1, by go_num, by omega, fun m hm => ?_, rfl⟩
          rcases Nat.lt_or_ge m j with q | q
          · exact HS.out m q
          · obtain rfl : m = j := by omega
            rw [HXD.out]; exact G.out
        case measure => simp [intOf]; omega
      · have e1 : decide ((4611686018427387904 : Int) < IntKind.u64.wrap x) = true := by rw [IntKind.wrap_u64]; simp; omega
        have G := Lib.hid g
        clear g XB
        go_wp2_with fail
        go_ret
        exact ⟨⟨_, rfl, ⟨fun hh => (by cases hh), fun hh => absurd (by have := hh j hlt; rwa [HXD.out] at this) G.out⟩⟩, rfl⟩
    · obtain rfl : j = n := by omega
      have hji : decide ((j : Int) < (j : Int)) = false := by simp
      go_wp2_with fail
      go_ret
      exact ⟨⟨_, rfl, ⟨fun _ => HS.out, fun _ => rfl⟩⟩, rfl⟩
/-! ### written -/
/-- An error, or none. -/
def erW (c : Int) : Value := if c = 0 then .nilIface else .iface 57 (.int .i64 c)
/-- What a writer answers. -/
def WrP (o M : Nat) (s : OuS) (w : World) (e : Ending) (w' : World) : Prop :=
  (¬ s.over M ∧ ∃ v, e = .returned (.tuple #[v, .nilIface]) ∧ Own8 w' (o + 1) v s.b ∧ Below o w w') ∨ (s.over M ∧ e = .returned (.tuple #[.slice none 0 0, .iface 57 (.int .i64 2)]) ∧ Below o w w')
set_option maxHeartbeats 1000000 in
theorem pwritten_any {w : World} {o M : Nat} {s : OuS} (h : Pt w o M s) :
    Calls Try.prog 24 #[.pointer (some ⟨o, 0, none⟩)] w (WrP o M s w) := by
  obtain ⟨v, l, q, hw, hl⟩ := h
  obtain ⟨Av, cv, rfl, -⟩ := own_rd hw.own
  have HW := Lib.hid hw
  have HL := Lib.hid hl
  have c0 := hw.c0
  have c2 := hw.c2
  obtain ⟨L, hL⟩ : ∃ L, l.length = L := ⟨_, rfl⟩
  have HLL := Lib.hid hL
  rw [hL] at c0
  clear hw hl hL
  cases q with
  | true =>
    go_enter Try.func24, Try.ntmps24
    go_wp2_with fail
    go_ret2
    refine .inr ⟨?_, rfl, Below.refl _ _⟩
    rcases HL.out with ⟨-, k⟩ | ⟨k, -⟩
    · exact k
    · cases k
  | false =>
    go_enter Try.func24, Try.ntmps24
    go_wp2_with fail
    go_ret2
    rcases HL.out with ⟨k, -⟩ | ⟨-, k, k2⟩
    · cases k
    · refine .inl ⟨k, _, rfl, ?_, Below.refl _ _⟩
      rw [← k2, ← HLL.out]
      exact HW.out.own
end Go.Proofs.Ytcnekfpgoceblaa
