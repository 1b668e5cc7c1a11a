/-
  Several texts in one: Pw6, Pw7.
-/
import Derived.Test.YtcnekfpgoceblaaPci
import Derived.Test.YtcnekfpgoceblaaHsa
/-
  The program's writer: what message answers. By program: genpw6.py.
-/
namespace Go.Proofs.Ytcnekfpgoceblaa
open Go.RowKit
set_option linter.unusedVariables false
theorem pcntI_any {w : World} {o M : Nat} {s : OuS} (h : Pt w o M s) (hM : M ≤ 2097152) {n : Int} (hn : Cnt n) :
    Calls Try.prog 40 #[.pointer (some ⟨o, 0, none⟩), .int .u64 n] w (PtP o M (s.cnt n) w) := by
  obtain ⟨k, rfl⟩ := Int.eq_ofNat_of_zero_le hn.1
  have h2 := hn.2
  rw [OuS.cnt_ok (by unfold topC; omega)]
  exact pcnt_any h hM (by omega)
theorem ptxtI_any {w : World} {o M : Nat} {s : OuS} (h : Pt w o M s) (hM : M ≤ 2097152) {A : Option Addr} {n c : Nat} {xs : List Int} (hr : Rd .u8 w A n xs) (hn : n ≤ 4611686018427387904) (hA : ∀ a, A = some a → 0 < n → a.block < o) :
    Calls Try.prog 48 #[.pointer (some ⟨o, 0, none⟩), .slice A n c] w (PtP o M ((s.cnt (n : Int)).put xs) w) := by
  rw [OuS.cnt_ok (by unfold topC; omega)]
  exact ptxt_any h hM hr hn hA
theorem sizeI : (Try.prog.info? 3).map (·.size) = some 1 := by kernel_rfl
theorem ix6_0 (x0 x1 x2 x3 x4 x5 : Value) : ∀ W : World, (Instr.index 94 (.agg #[x0, x1, x2, x3, x4, x5]) (.int .i64 0)).run Try.prog W = .ok x0 W := fun W => run_index_arr (P := Try.prog) (i := 0) Try.underlying94 Try.underlying3 sizeI .i64 (by decide) rfl W
theorem ix6_1 (x0 x1 x2 x3 x4 x5 : Value) : ∀ W : World, (Instr.index 94 (.agg #[x0, x1, x2, x3, x4, x5]) (.int .i64 1)).run Try.prog W = .ok x1 W := fun W => run_index_arr (P := Try.prog) (i := 1) Try.underlying94 Try.underlying3 sizeI .i64 (by decide) rfl W
theorem ix6_2 (x0 x1 x2 x3 x4 x5 : Value) : ∀ W : World, (Instr.index 94 (.agg #[x0, x1, x2, x3, x4, x5]) (.int .i64 2)).run Try.prog W = .ok x2 W := fun W => run_index_arr (P := Try.prog) (i := 2) Try.underlying94 Try.underlying3 sizeI .i64 (by decide) rfl W
theorem ix6_3 (x0 x1 x2 x3 x4 x5 : Value) : ∀ W : World, (Instr.index 94 (.agg #[x0, x1, x2, x3, x4, x5]) (.int .i64 3)).run Try.prog W = .ok x3 W := fun W => run_index_arr (P := Try.prog) (i := 3) Try.underlying94 Try.underlying3 sizeI .i64 (by decide) rfl W
theorem ix6_4 (x0 x1 x2 x3 x4 x5 : Value) : ∀ W : World, (Instr.index 94 (.agg #[x0, x1, x2, x3, x4, x5]) (.int .i64 4)).run Try.prog W = .ok x4 W := fun W => run_index_arr (P := Try.prog) (i := 4) Try.underlying94 Try.underlying3 sizeI .i64 (by decide) rfl W
theorem ix6_5 (x0 x1 x2 x3 x4 x5 : Value) : ∀ W : World, (Instr.index 94 (.agg #[x0, x1, x2, x3, x4, x5]) (.int .i64 5)).run Try.prog W = .ok x5 W := fun W => run_index_arr (P := Try.prog) (i := 5) Try.underlying94 Try.underlying3 sizeI .i64 (by decide) rfl W
/-- The first six numbers. -/
def cn6 (m : Mgd) (j : Nat) : OuS := (List.range j).foldl (fun s i => s.cnt (if i = 0 then m.k else if i = 1 then m.g else if i = 2 then m.l else if i = 3 then m.p else if i = 4 then m.s else m.u)) ⟨[], 0⟩
def C6R (m : Mgd) (o M : Nat) (w : World) (i : Value) (wr : World) : Prop := ∃ j : Nat, i = .int .i64 j ∧ j ≤ 6 ∧ Pt wr o M (cn6 m j) ∧ Gw o w wr
theorem ent_text : ∀ (xs : Array Value) (W : World), (callFunc 48 xs).run Try.prog W = .ok (.enter 48 xs) W := ent_w Try.func48 (by kernel_rfl) rfl
theorem Rd.inW {k : IntKind} {w0 : World} {A : Option Addr} {n : Nat} {xs : List Int} (h : Rd k w0 A n xs) : ∀ a, A = some a → 0 < n → a.block < w0.heap.size := fun a ha hn => by
  obtain ⟨b, off, e, hb, -⟩ := h.cells hn
  rw [e] at ha; injection ha with ha; subst ha; exact hb
theorem msg_eq {m : Mgd} (h : m.nt ≤ 17592186044416) :
    (List.range 1).foldl (fun s i => s.num m.V) (((List.range m.nt).foldl (fun s i => (s.cnt ((m.T i).xs.length : Int)).put (m.T i).xs) ((pbaO ((batO (((cn6 m 6).tru m.ok).cnt (m.nb : Int)) m.B m.nb).cnt (m.np : Int)) m.P m.np).put (cntE m.nt))).cnt m.i) = msgO m := by
  rw [← OuS.cnt_ok (n := m.nt) (by unfold topC; omega)]
  rfl
/-- Its numbers may be written as counts. -/
structure Mgd.Cn (m : Mgd) : Prop where
  k : Cnt m.k
  g : Cnt m.g
  l : Cnt m.l
  p : Cnt m.p
  s : Cnt m.s
  u : Cnt m.u
  i : Cnt m.i
set_option maxHeartbeats 16000000 in
set_option maxRecDepth 100000 in
theorem pmsg_any {w0 w : World} {o M : Nat} {m : Mgd} (hm : Mg w0 m) (hc : m.Cn) (hT : ∀ i, i < m.nt → (m.T i).xs.length ≤ 4611686018427387904) (hb : Below w0.heap.size w0 w) (h0 : w0.heap.size ≤ o) (h : Pt w o M ⟨[], 0⟩) (hM : M ≤ 2097152) :
    Calls Try.prog 23 #[.pointer (some ⟨o, 0, none⟩), .agg #[.int .i64 m.k, .int .i64 m.g, .int .i64 m.l, .int .i64 m.p, .int .i64 m.s, .int .i64 m.u, .bool m.ok, .slice m.Ab m.nb m.cb, .slice m.Ap m.np m.cp, .slice m.At m.nt m.ct, .int .i64 m.i, .slice m.Av m.nv m.cv]] w (PtP o M (msgO m) w) := by
  have HO := Lib.hid h
  have HM := Lib.hid hm
  have HC := Lib.hid hc
  have HT := Lib.hid hT
  have lt := h.lt
  obtain ⟨W1, hW1⟩ : ∃ W1, w.alloc (.cells #[.pointer (some ⟨o, 0, none⟩)] 62) = W1 := ⟨_, rfl⟩
  have b1 : Below w.heap.size w W1 := by rw [← hW1]; exact (Below.refl _ _).alloc (Nat.le_refl _) _
  have s1 : W1.heap.size = w.heap.size + 1 := by rw [← hW1]; simp
  obtain ⟨W2, hW2⟩ : ∃ W2, W1.alloc (.cells #[.int .i64 m.k, .int .i64 m.g, .int .i64 m.l, .int .i64 m.p, .int .i64 m.s, .int .i64 m.u, .bool m.ok, .slice m.Ab m.nb m.cb, .slice m.Ap m.np m.cp, .slice m.At m.nt m.ct, .int .i64 m.i, .slice m.Av m.nv m.cv] 30) = W2 := ⟨_, rfl⟩
  have b2 : Below W1.heap.size W1 W2 := by rw [← hW2]; exact (Below.refl _ _).alloc (Nat.le_refl _) _
  have r2 : W2.heap[w.heap.size + 1]? = some (.cells #[.int .i64 m.k, .int .i64 m.g, .int .i64 m.l, .int .i64 m.p, .int .i64 m.s, .int .i64 m.u, .bool m.ok, .slice m.Ab m.nb m.cb, .slice m.Ap m.np m.cp, .slice m.At m.nt m.ct, .int .i64 m.i, .slice m.Av m.nv m.cv] 30 (0, 0)) := by rw [← hW2, ← s1]; exact heap_alloc_new W1 _
  have kk : BxK w.heap.size o (.pointer (some ⟨o, 0, none⟩)) W2 := (by rw [← hW1]; exact BxK.new w _ (by decide) lt : BxK w.heap.size o _ W1).gw (Gw.of b2 (Nat.le_refl _))
  have l2 : w.heap.size + 1 < W2.heap.size := (Array.getElem?_eq_some_iff.1 r2).1
  have B12 := Lib.hid (show Below w.heap.size w W2 from b1.trans (b2.mono (by omega)))
  have RM := Lib.hid (show ∀ W, Gw o W2 W → W.heap[w.heap.size + 1]? = some (.cells #[.int .i64 m.k, .int .i64 m.g, .int .i64 m.l, .int .i64 m.p, .int .i64 m.s, .int .i64 m.u, .bool m.ok, .slice m.Ab m.nb m.cb, .slice m.Ap m.np m.cp, .slice m.At m.nt m.ct, .int .i64 m.i, .slice m.Av m.nv m.cv] 30 (0, 0)) from fun W hW => (hW.block _ l2 (by omega) (.inr (not_byb r2 (by decide)))).trans r2)
  have RK := Lib.hid (show ∀ W, Gw o W2 W → BxK w.heap.size o (.pointer (some ⟨o, 0, none⟩)) W from fun W hW => kk.gw hW)
  have RB := Lib.hid (show ∀ W, Gw o W2 W → Below w0.heap.size w0 W from fun W hW => (hb.trans (B12.out.mono hb.size)).trans ((hW.below (by omega)).mono h0))
  have HO2 := Lib.hid (HO.out.below B12.out)
  have y0 := cell_of_row W2 (w.heap.size + 1) 0 _ _ _ r2
  have y1 := cell_of_row W2 (w.heap.size + 1) 1 _ _ _ r2
  have y2 := cell_of_row W2 (w.heap.size + 1) 2 _ _ _ r2
  have y3 := cell_of_row W2 (w.heap.size + 1) 3 _ _ _ r2
  have y4 := cell_of_row W2 (w.heap.size + 1) 4 _ _ _ r2
  have y5 := cell_of_row W2 (w.heap.size + 1) 5 _ _ _ r2
  clear h hm hb b1 b2 kk r2 hc hT
  go_enter Try.func23, Try.ntmps23
  go_wp2_with fail
  try rw [hW1]
  try rw [hW2]
  go_wp2_with fail
  clear y0 y1 y2 y3 y4 y5 s1
  go_loopw [19] (fun i wr => C6R m o M W2 i wr) (fun i _ => 6 - (intOf i).toNat)
  case atStart => exact ⟨0, rfl, by decide, HO2.out, Gw.refl _ _⟩
  case round =>
    obtain ⟨j, rfl, hj, hot, hbb⟩ := hrel
    have HOT := Lib.hid hot
    have HB := Lib.hid hbb
    have kx := (RK.out wr hbb).cell
    clear hot hbb
    rcases (show j = 0 ∨ j = 1 ∨ j = 2 ∨ j = 3 ∨ j = 4 ∨ j = 5 ∨ j = 6 by omega) with rfl | rfl | rfl | rfl | rfl | rfl | rfl
    · have ei := ix6_0 (.int .i64 m.k) (.int .i64 m.g) (.int .i64 m.l) (.int .i64 m.p) (.int .i64 m.s) (.int .i64 m.u)
      have e1 : IntKind.u64.wrap m.k = m.k := by have h1 := HC.out.k.1; have h2 := HC.out.k.2; rw [IntKind.wrap_u64]; omega
      go_wp2_with fail
      refine (pcntI_any HOT.out hM HC.out.k).mono ?_
      rintro e w3 ⟨rfl, o3, b3⟩
      have O3 := Lib.hid o3
      have B3 := Lib.hid b3
      clear o3 b3 e1 kx ei
      go_wp2_with fail
      go_roundw
      case rel => exact ⟨1, by go_num, by decide, O3.out, HB.out.trans B3.out⟩
      case measure => simp [intOf]
    · have ei := ix6_1 (.int .i64 m.k) (.int .i64 m.g) (.int .i64 m.l) (.int .i64 m.p) (.int .i64 m.s) (.int .i64 m.u)
      have e1 : IntKind.u64.wrap m.g = m.g := by have h1 := HC.out.g.1; have h2 := HC.out.g.2; rw [IntKind.wrap_u64]; omega
      go_wp2_with fail
      refine (pcntI_any HOT.out hM HC.out.g).mono ?_
      rintro e w3 ⟨rfl, o3, b3⟩
      have O3 := Lib.hid o3
      have B3 := Lib.hid b3
      clear o3 b3 e1 kx ei
      go_wp2_with fail
      go_roundw
      case rel => exact ⟨2, by go_num, by decide, O3.out, HB.out.trans B3.out⟩
      case measure => simp [intOf]
    · have ei := ix6_2 (.int .i64 m.k) (.int .i64 m.g) (.int .i64 m.l) (.int .i64 m.p) (.int .i64 m.s) (.int .i64 m.u)
      have e1 : IntKind.u64.wrap m.l = m.l := by have h1 := HC.out.l.1; have h2 := HC.out.l.2; rw [IntKind.wrap_u64]; omega
      go_wp2_with fail
      refine (pcntI_any HOT.out hM HC.out.l).mono ?_
      rintro e w3 ⟨rfl, o3, b3⟩
      have O3 := Lib.hid o3
      have B3 := Lib.hid b3
      clear o3 b3 e1 kx ei
      go_wp2_with fail
      go_roundw
      case rel => exact ⟨3, by go_num, by decide, O3.out, HB.out.trans B3.out⟩
      case measure => simp [intOf]
    · have ei := ix6_3 (.int .i64 m.k) (.int .i64 m.g) (.int .i64 m.l) (.int .i64 m.p) (.int .i64 m.s) (.int .i64 m.u)
      have e1 : IntKind.u64.wrap m.p = m.p := by have h1 := HC.out.p.1; have h2 := HC.out.p.2; rw [IntKind.wrap_u64]; omega
      go_wp2_with fail
      refine (pcntI_any HOT.out hM HC.out.p).mono ?_
      rintro e w3 ⟨rfl, o3, b3⟩
      have O3 := Lib.hid o3
      have B3 := Lib.hid b3
      clear o3 b3 e1 kx ei
      go_wp2_with fail
      go_roundw
      case rel => exact ⟨4, by go_num, by decide, O3.out, HB.out.trans B3.out⟩
      case measure => simp [intOf]
    · have ei := ix6_4 (.int .i64 m.k) (.int .i64 m.g) (.int .i64 m.l) (.int .i64 m.p) (.int .i64 m.s) (.int .i64 m.u)
      have e1 : IntKind.u64.wrap m.s = m.s := by have h1 := HC.out.s.1; have h2 := HC.out.s.2; rw [IntKind.wrap_u64]; omega
      go_wp2_with fail
      refine (pcntI_any HOT.out hM HC.out.s).mono ?_
      rintro e w3 ⟨rfl, o3, b3⟩
      have O3 := Lib.hid o3
      have B3 := Lib.hid b3
      clear o3 b3 e1 kx ei
      go_wp2_with fail
      go_roundw
      case rel => exact ⟨5, by go_num, by decide, O3.out, HB.out.trans B3.out⟩
      case measure => simp [intOf]
    · have ei := ix6_5 (.int .i64 m.k) (.int .i64 m.g) (.int .i64 m.l) (.int .i64 m.p) (.int .i64 m.s) (.int .i64 m.u)
      have e1 : IntKind.u64.wrap m.u = m.u := by have h1 := HC.out.u.1; have h2 := HC.out.u.2; rw [IntKind.wrap_u64]; omega
      go_wp2_with fail
      refine (pcntI_any HOT.out hM HC.out.u).mono ?_
      rintro e w3 ⟨rfl, o3, b3⟩
      have O3 := Lib.hid o3
      have B3 := Lib.hid b3
      clear o3 b3 e1 kx ei
      go_wp2_with fail
      go_roundw
      case rel => exact ⟨6, by go_num, by decide, O3.out, HB.out.trans B3.out⟩
      case measure => simp [intOf]
    · have HOT := HOT
      have y6 := cell_of_row wr (w.heap.size + 1) 6 _ _ _ (RM.out wr HB.out)
      go_wp2_with fail
      refine (pflag_any HOT.out hM m.ok).mono ?_
      rintro e w3 ⟨rfl, o3, b3⟩
      have O3 := Lib.hid o3
      have B3 := Lib.hid (HB.out.trans b3)
      clear o3 b3 kx y6 HOT
      have kx := (RK.out w3 B3.out).cell
      have y7 := cell_of_row w3 (w.heap.size + 1) 7 _ _ _ (RM.out w3 B3.out)
      go_wp2_with fail
      with_reducible refine (pls_pa HM.out.b (RB.out w3 B3.out) h0 O3.out hM (RK.out w3 B3.out)).mono ?_
      rintro e w4 ⟨rfl, o4, b4⟩
      have O4 := Lib.hid o4
      have B4 := Lib.hid (B3.out.trans b4)
      clear o4 b4 kx y7 O3
      have kx := (RK.out w4 B4.out).cell
      have y8 := cell_of_row w4 (w.heap.size + 1) 8 _ _ _ (RM.out w4 B4.out)
      go_wp2_with fail
      with_reducible refine (pls_pf HM.out.p (RB.out w4 B4.out) h0 O4.out hM (RK.out w4 B4.out)).mono ?_
      rintro e w5 ⟨rfl, o5, b5⟩
      have O5 := Lib.hid o5
      have B5 := Lib.hid (B4.out.trans b5)
      clear o5 b5 kx y8 O4
      have kx := (RK.out w5 B5.out).cell
      have y9 := cell_of_row w5 (w.heap.size + 1) 9 _ _ _ (RM.out w5 B5.out)
      go_wp2_with fail
      refine (wl_text (K := fun _ => True) (fun _ _ _ _ => trivial) ent_text (EA := fun i => (m.T i).A) (En := fun i => (m.T i).xs.length) (Ec := fun i => (m.T i).c) (f := fun s i => (s.cnt ((m.T i).xs.length : Int)).put (m.T i).xs) (fun s i hh => OuS.over_put _ (OuS.over_cnt _ hh)) (fun i hi W s' hbw hpt _ => ptxtI_any hpt hM ((HM.out.t.at_ i hi).1.below hbw) (HT.out i hi) (fun a ha hn => Nat.lt_of_lt_of_le ((HM.out.t.at_ i hi).1.inW a ha hn) h0)) O5.out hM h0 (RB.out w5 B5.out) trivial HM.out.t.c60 HM.out.t.ex).mono ?_
      rintro e w6 ⟨rfl, o6, b6⟩
      have O6 := Lib.hid o6
      have B6 := Lib.hid (B5.out.trans b6)
      clear o6 b6 kx y9 O5
      have kx := (RK.out w6 B6.out).cell
      have y10 := cell_of_row w6 (w.heap.size + 1) 10 _ _ _ (RM.out w6 B6.out)
      have e1 : IntKind.u64.wrap m.i = m.i := by have h1 := HC.out.i.1; have h2 := HC.out.i.2; rw [IntKind.wrap_u64]; omega
      go_wp2_with fail
      refine (pcntI_any O6.out hM HC.out.i).mono ?_
      rintro e w7 ⟨rfl, o7, b7⟩
      have O7 := Lib.hid o7
      have B7 := Lib.hid (B6.out.trans b7)
      clear o7 b7 kx y10 O6 e1
      have kx := (RK.out w7 B7.out).cell
      have y11 := cell_of_row w7 (w.heap.size + 1) 11 _ _ _ (RM.out w7 B7.out)
      obtain ⟨W8, hW8⟩ : ∃ W8, w7.alloc (.cells #[.slice m.Av m.nv m.cv] 26) = W8 := ⟨_, rfl⟩
      have B78 := Lib.hid (show Below w7.heap.size w7 W8 by rw [← hW8]; exact (Below.refl _ _).alloc (Nat.le_refl _) _)
      have R8 := Lib.hid (show W8.heap[w7.heap.size]? = some (.cells #[.slice m.Av m.nv m.cv] 26 (0, 0)) by rw [← hW8]; exact heap_alloc_new w7 _)
      have l8 : w7.heap.size < W8.heap.size := by rw [← hW8]; simp
      have l7 : o < w7.heap.size := O7.out.lt
      have B8 := Lib.hid (B7.out.trans (Gw.of B78.out (Nat.le_refl _)))
      go_wp2_with fail
      try rw [hW8]
      clear hW8
      refine (pnums_any (S := fun _ => ⟨m.Av, m.nv, m.cv, m.V⟩) (n := 1) (g := w7.heap.size) (O7.out.below B78.out) hM h0 (RB.out W8 B8.out) (by decide) l8 (by omega) (not_byb R8.out (by decide)) (fun i hi => ?_) (fun i hi => HM.out.v)).mono ?_
      · obtain rfl : i = 0 := by omega
        exact cell_of_row W8 w7.heap.size _ _ _ _ R8.out
      rintro e w9 ⟨rfl, o9, b9⟩
      have O9 := Lib.hid o9
      have B9 := Lib.hid (B8.out.trans b9)
      clear o9 b9 kx y11 O7
      go_wp2_with fail
      refine bodyPost_ret (results_none rfl _ _ _) rfl ?_
      refine ⟨rfl, ?_, (Gw.of B12.out (Nat.le_refl _)).trans B9.out⟩
      have h := O9.out
      rw [← msg_eq HM.out.t.c60]
      exact h
end Go.Proofs.Ytcnekfpgoceblaa
/-
  The program's writing: what Message, packet and Packet answer. By program: genpw7.py.
-/
namespace Go.Proofs.Ytcnekfpgoceblaa
open Go.RowKit
set_option linter.unusedVariables false
/-- A number that an int can be. -/
abbrev I64 (n : Int) : Prop := -9223372036854775808 ≤ n ∧ n ≤ 9223372036854775807
structure Mgd.Int (m : Mgd) : Prop where
  k : I64 m.k
  g : I64 m.g
  l : I64 m.l
  p : I64 m.p
  s : I64 m.s
  u : I64 m.u
  i : I64 m.i
/-- What a call that writes answers. -/
def WoP (cn : Prop) (M : Nat) (s : OuS) (w : World) (e : Ending) (w' : World) : Prop :=
  (¬ cn ∧ e = .returned (.tuple #[.slice none 0 0, .iface 57 (.int .i64 1)]) ∧ Below w.heap.size w w') ∨
  (cn ∧ s.over M ∧ e = .returned (.tuple #[.slice none 0 0, .iface 57 (.int .i64 2)]) ∧ Below w.heap.size w w') ∨
  (cn ∧ ¬ s.over M ∧ ∃ v, e = .returned (.tuple #[v, .nilIface]) ∧ Own8 w' w.heap.size v s.b ∧ Below w.heap.size w w')
theorem rd_row {k : IntKind} {w : World} {b : Nat} {xs : List Int} {t : TypeId} (h : w.heap[b]? = some (.cells (xs.map (Value.int k)).toArray t (0, 0))) : Rd k w (some ⟨b, 0, none⟩) xs.length xs := by
  refine ⟨rfl, fun hn => ⟨b, 0, rfl, (Array.getElem?_eq_some_iff.1 h).1, fun j x hx => ?_⟩⟩
  rw [Nat.zero_add]
  rw [cell_of_row w b j _ _ _ h]
  simp [hx]
theorem new_writer {w : World} {M : Nat} : Pt (w.alloc (.cells #[.slice none 0 0, .int .i64 M, .bool false] 64)) w.heap.size M ⟨[], 0⟩ :=
  ⟨.slice none 0 0, [], false, ⟨heap_alloc_new w _, ⟨rfl, .inl ⟨rfl, rfl⟩⟩, Nat.zero_le _⟩, .inr ⟨rfl, by rintro (h | h); exact h rfl; exact absurd h (Nat.not_lt_zero _), rfl⟩⟩
set_option maxHeartbeats 16000000 in
set_option maxRecDepth 100000 in
theorem pMessage_any {w : World} {m : Mgd} (hm : Mg w m) (hI : m.Int) (hT : ∀ i, i < m.nt → (m.T i).xs.length ≤ 4611686018427387904) :
    Calls Try.prog 11 #[.agg #[.int .i64 m.k, .int .i64 m.g, .int .i64 m.l, .int .i64 m.p, .int .i64 m.s, .int .i64 m.u, .bool m.ok, .slice m.Ab m.nb m.cb, .slice m.Ap m.np m.cp, .slice m.At m.nt m.ct, .int .i64 m.i, .slice m.Av m.nv m.cv]] w (WoP m.Cn 1048576 (msgO m) w) := by
  have HM := Lib.hid hm
  have HT := Lib.hid hT
  have HI := Lib.hid hI
  obtain ⟨W1, hW1⟩ : ∃ W1, w.alloc (.cells #[.int .i64 m.k, .int .i64 m.g, .int .i64 m.l, .int .i64 m.p, .int .i64 m.s, .int .i64 m.u, .bool m.ok, .slice m.Ab m.nb m.cb, .slice m.Ap m.np m.cp, .slice m.At m.nt m.ct, .int .i64 m.i, .slice m.Av m.nv m.cv] 30) = W1 := ⟨_, rfl⟩
  have b1 : Below w.heap.size w W1 := by rw [← hW1]; exact (Below.refl _ _).alloc (Nat.le_refl _) _
  have s1 : W1.heap.size = w.heap.size + 1 := by rw [← hW1]; simp
  have r1 : W1.heap[w.heap.size]? = some (.cells #[.int .i64 m.k, .int .i64 m.g, .int .i64 m.l, .int .i64 m.p, .int .i64 m.s, .int .i64 m.u, .bool m.ok, .slice m.Ab m.nb m.cb, .slice m.Ap m.np m.cp, .slice m.At m.nt m.ct, .int .i64 m.i, .slice m.Av m.nv m.cv] 30 (0, 0)) := by rw [← hW1]; exact heap_alloc_new w _
  obtain ⟨W2, hW2⟩ : ∃ W2, W1.alloc (.cells #[.int .i64 m.k, .int .i64 m.g, .int .i64 m.l, .int .i64 m.p, .int .i64 m.s, .int .i64 m.u, .int .i64 m.i] 3) = W2 := ⟨_, rfl⟩
  have b2 : Below W1.heap.size W1 W2 := by rw [← hW2]; exact (Below.refl _ _).alloc (Nat.le_refl _) _
  have s2 : W2.heap.size = w.heap.size + 2 := by rw [← hW2]; simp [s1]
  have R2 := Lib.hid (show W2.heap[w.heap.size + 1]? = some (.cells #[.int .i64 m.k, .int .i64 m.g, .int .i64 m.l, .int .i64 m.p, .int .i64 m.s, .int .i64 m.u, .int .i64 m.i] 3 (0, 0)) by rw [← hW2, ← s1]; exact heap_alloc_new W1 _)
  have B2 := Lib.hid (show Below w.heap.size w W2 from b1.trans (b2.mono (by omega)))
  have r1' : W2.heap[w.heap.size]? = some (.cells #[.int .i64 m.k, .int .i64 m.g, .int .i64 m.l, .int .i64 m.p, .int .i64 m.s, .int .i64 m.u, .bool m.ok, .slice m.Ab m.nb m.cb, .slice m.Ap m.np m.cp, .slice m.At m.nt m.ct, .int .i64 m.i, .slice m.Av m.nv m.cv] 30 (0, 0)) := (b2.block _ (by omega)).trans r1
  have RD := Lib.hid (rd_row (k := .i64) (xs := [m.k, m.g, m.l, m.p, m.s, m.u, m.i]) R2.out)
  have RI := Lib.hid (show ∀ i, i < 7 → I64 (dig [m.k, m.g, m.l, m.p, m.s, m.u, m.i] i) from fun i hi => by
    rcases (show i = 0 ∨ i = 1 ∨ i = 2 ∨ i = 3 ∨ i = 4 ∨ i = 5 ∨ i = 6 by omega) with rfl | rfl | rfl | rfl | rfl | rfl | rfl
    · exact HI.out.k
    · exact HI.out.g
    · exact HI.out.l
    · exact HI.out.p
    · exact HI.out.s
    · exact HI.out.u
    · exact HI.out.i)
  have CI := Lib.hid (show (∀ i, i < 7 → Cnt (dig [m.k, m.g, m.l, m.p, m.s, m.u, m.i] i)) ↔ m.Cn from ⟨fun h => ⟨h 0 (by decide), h 1 (by decide), h 2 (by decide), h 3 (by decide), h 4 (by decide), h 5 (by decide), h 6 (by decide)⟩, fun h i hi => by
    rcases (show i = 0 ∨ i = 1 ∨ i = 2 ∨ i = 3 ∨ i = 4 ∨ i = 5 ∨ i = 6 by omega) with rfl | rfl | rfl | rfl | rfl | rfl | rfl
    · exact h.k
    · exact h.g
    · exact h.l
    · exact h.p
    · exact h.s
    · exact h.u
    · exact h.i⟩)
  have y0 := cell_of_row W1 w.heap.size 0 _ _ _ r1
  have y1 := cell_of_row W1 w.heap.size 1 _ _ _ r1
  have y2 := cell_of_row W1 w.heap.size 2 _ _ _ r1
  have y3 := cell_of_row W1 w.heap.size 3 _ _ _ r1
  have y4 := cell_of_row W1 w.heap.size 4 _ _ _ r1
  have y5 := cell_of_row W1 w.heap.size 5 _ _ _ r1
  have y10 := cell_of_row W1 w.heap.size 10 _ _ _ r1
  clear hm hI hT b1 b2 r1
  go_enter Try.func11, Try.ntmps11
  go_wp2_with fail
  try rw [hW1]
  try rw [hW2]
  refine (acnt_any (n := 7) RD.out RI.out (by decide)).mono ?_
  rintro e w3 ⟨⟨q, rfl, hq⟩, rfl⟩
  have HQ := Lib.hid (hq.trans CI.out)
  have HW2 := Lib.hid hW2
  clear hq hW2 y0 y1 y2 y3 y4 y5 y10
  cases q with
  | false =>
    clear s1 s2 hW1
    go_wp2_with fail
    go_ret2
    exact .inl ⟨fun h => (by have := HQ.out.2 h; cases this), rfl, B2.out⟩
  | true =>
    obtain ⟨W3, hW3⟩ : ∃ W3, W2.alloc (.cells #[.slice none 0 0, .int .i64 1048576, .bool false] 64) = W3 := ⟨_, rfl⟩
    have b3 : Below W2.heap.size W2 W3 := by rw [← hW3]; exact (Below.refl _ _).alloc (Nat.le_refl _) _
    have R1 := Lib.hid (show W3.heap[w.heap.size]? = some (.cells #[.int .i64 m.k, .int .i64 m.g, .int .i64 m.l, .int .i64 m.p, .int .i64 m.s, .int .i64 m.u, .bool m.ok, .slice m.Ab m.nb m.cb, .slice m.Ap m.np m.cp, .slice m.At m.nt m.ct, .int .i64 m.i, .slice m.Av m.nv m.cv] 30 (0, 0)) from (b3.block _ (by omega)).trans r1')
    have B3 := Lib.hid (show Below w.heap.size w W3 from B2.out.trans (b3.mono (by omega)))
    have PT := Lib.hid (show Pt W3 (w.heap.size + 2) 1048576 ⟨[], 0⟩ by rw [← hW3, ← s2]; exact new_writer)
    have z0 := cell_of_row W3 w.heap.size 0 _ _ _ R1.out
    have z1 := cell_of_row W3 w.heap.size 1 _ _ _ R1.out
    have z2 := cell_of_row W3 w.heap.size 2 _ _ _ R1.out
    have z3 := cell_of_row W3 w.heap.size 3 _ _ _ R1.out
    have z4 := cell_of_row W3 w.heap.size 4 _ _ _ R1.out
    have z5 := cell_of_row W3 w.heap.size 5 _ _ _ R1.out
    have z6 := cell_of_row W3 w.heap.size 6 _ _ _ R1.out
    have z7 := cell_of_row W3 w.heap.size 7 _ _ _ R1.out
    have z8 := cell_of_row W3 w.heap.size 8 _ _ _ R1.out
    have z9 := cell_of_row W3 w.heap.size 9 _ _ _ R1.out
    have z10 := cell_of_row W3 w.heap.size 10 _ _ _ R1.out
    have z11 := cell_of_row W3 w.heap.size 11 _ _ _ R1.out
    clear r1' b3
    go_wp2_with fail
    try rw [hW3]
    refine (pmsg_any HM.out (HQ.out.1 (by trivial)) HT.out B3.out (by omega) PT.out (by decide)).mono ?_
    rintro e w4 ⟨rfl, o4, b4⟩
    have O4 := Lib.hid o4
    have B4 := Lib.hid (B3.out.trans ((b4.below PT.out.lt).mono (show w.heap.size ≤ w.heap.size + 2 by omega)))
    clear o4 b4 hW3 hW1 s1 s2 z0 z1 z2 z3 z4 z5 z6 z7 z8 z9 z10 z11
    go_wp2_with fail
    refine (pwritten_any O4.out).mono ?_
    rintro e w5 (⟨ho, v, rfl, hv, hb⟩ | ⟨ho, rfl, hb⟩)
    · obtain ⟨Av, cv, rfl, -⟩ := own_rd hv
      have HO := Lib.hid ho
      have HV := Lib.hid hv
      have HB := Lib.hid hb
      clear ho hv hb
      go_wp2_with fail
      go_ret2
      exact .inr (.inr ⟨HQ.out.1 (by trivial), HO.out, _, rfl, own_base HV.out (by omega), B4.out.trans (HB.out.mono (by omega))⟩)
    · have HO := Lib.hid ho
      have HB := Lib.hid hb
      clear ho hb
      go_wp2_with fail
      go_ret2
      exact .inr (.inl ⟨HQ.out.1 (by trivial), HO.out, rfl, B4.out.trans (HB.out.mono (by omega))⟩)
/-! ### packets -/
/-- A packet in memory. -/
structure Pkd where
  f : _root_.Int
  t : _root_.Int
  q : _root_.Int
  a : Bool
  A : Option Addr
  c : Nat
  xs : List _root_.Int
structure Pkd.Cn (m : Pkd) : Prop where
  f : Cnt m.f
  t : Cnt m.t
  q : Cnt m.q
def pktO (m : Pkd) : OuS := ((((((⟨[], 0⟩ : OuS).cnt m.f).cnt m.t).cnt m.q).tru m.a).cnt (m.xs.length : _root_.Int)).put m.xs
set_option maxHeartbeats 8000000 in
set_option maxRecDepth 100000 in
theorem ppkt_any {w0 w : World} {o M : Nat} {m : Pkd} (hr : Rd .u8 w0 m.A m.xs.length m.xs) (hc : m.Cn) (hT : m.xs.length ≤ 4611686018427387904) (hb : Below w0.heap.size w0 w) (h0 : w0.heap.size ≤ o) (h : Pt w o M ⟨[], 0⟩) (hM : M ≤ 2097152) :
    Calls Try.prog 29 #[.pointer (some ⟨o, 0, none⟩), .agg #[.int .i64 m.f, .int .i64 m.t, .int .u64 m.q, .bool m.a, .slice m.A m.xs.length m.c]] w (PtP o M (pktO m) w) := by
  have HO := Lib.hid h
  have HR := Lib.hid hr
  have HC := Lib.hid hc
  have lt := h.lt
  obtain ⟨W2, hW2⟩ : ∃ W2, w.alloc (.cells #[.int .i64 m.f, .int .i64 m.t, .int .u64 m.q, .bool m.a, .slice m.A m.xs.length m.c] 43) = W2 := ⟨_, rfl⟩
  have b2 : Below w.heap.size w W2 := by rw [← hW2]; exact (Below.refl _ _).alloc (Nat.le_refl _) _
  have r2 : W2.heap[w.heap.size]? = some (.cells #[.int .i64 m.f, .int .i64 m.t, .int .u64 m.q, .bool m.a, .slice m.A m.xs.length m.c] 43 (0, 0)) := by rw [← hW2]; exact heap_alloc_new w _
  have l2 : w.heap.size < W2.heap.size := (Array.getElem?_eq_some_iff.1 r2).1
  have B12 := Lib.hid b2
  have RM := Lib.hid (show ∀ W, Gw o W2 W → W.heap[w.heap.size]? = some (.cells #[.int .i64 m.f, .int .i64 m.t, .int .u64 m.q, .bool m.a, .slice m.A m.xs.length m.c] 43 (0, 0)) from fun W hW => (hW.block _ l2 (by omega) (.inr (not_byb r2 (by decide)))).trans r2)
  have RB := Lib.hid (show ∀ W, Gw o W2 W → Below w0.heap.size w0 W from fun W hW => (hb.trans (B12.out.mono hb.size)).trans ((hW.below (by omega)).mono h0))
  have HO2 := Lib.hid (HO.out.below B12.out)
  have y0 := cell_of_row W2 w.heap.size 0 _ _ _ r2
  have e0 : IntKind.u64.wrap m.f = m.f := by have h1 := HC.out.f.1; have h2 := HC.out.f.2; rw [IntKind.wrap_u64]; omega
  clear h hr hb b2 r2 hc
  go_enter Try.func29, Try.ntmps29
  go_wp2_with fail
  try rw [hW2]
  refine (pcntI_any HO2.out hM HC.out.f).mono ?_
  rintro e w3 ⟨rfl, o3, b3⟩
  have O3 := Lib.hid o3
  have B3 := Lib.hid b3
  clear o3 b3 y0 e0 hW2
  have y1 := cell_of_row w3 w.heap.size 1 _ _ _ (RM.out w3 B3.out)
  have e1 : IntKind.u64.wrap m.t = m.t := by have h1 := HC.out.t.1; have h2 := HC.out.t.2; rw [IntKind.wrap_u64]; omega
  go_wp2_with fail
  refine (pcntI_any O3.out hM HC.out.t).mono ?_
  rintro e w4 ⟨rfl, o4, b4⟩
  have O4 := Lib.hid o4
  have B4 := Lib.hid (B3.out.trans b4)
  clear o4 b4 y1 e1 O3
  have y2 := cell_of_row w4 w.heap.size 2 _ _ _ (RM.out w4 B4.out)
  go_wp2_with fail
  refine (pcntI_any O4.out hM HC.out.q).mono ?_
  rintro e w5 ⟨rfl, o5, b5⟩
  have O5 := Lib.hid o5
  have B5 := Lib.hid (B4.out.trans b5)
  clear o5 b5 y2 O4
  have y3 := cell_of_row w5 w.heap.size 3 _ _ _ (RM.out w5 B5.out)
  go_wp2_with fail
  refine (pflag_any O5.out hM m.a).mono ?_
  rintro e w6 ⟨rfl, o6, b6⟩
  have O6 := Lib.hid o6
  have B6 := Lib.hid (B5.out.trans b6)
  clear o6 b6 y3 O5
  have y4 := cell_of_row w6 w.heap.size 4 _ _ _ (RM.out w6 B6.out)
  go_wp2_with fail
  refine (ptxtI_any O6.out hM (HR.out.below (RB.out w6 B6.out)) hT (fun a ha hn => Nat.lt_of_lt_of_le (HR.out.inW a ha hn) h0)).mono ?_
  rintro e w7 ⟨rfl, o7, b7⟩
  have O7 := Lib.hid o7
  have B7 := Lib.hid (B6.out.trans b7)
  clear o7 b7 y4 O6
  go_wp2_with fail
  refine bodyPost_ret (results_none rfl _ _ _) rfl ?_
  exact ⟨rfl, O7.out, (Gw.of B12.out (Nat.le_refl _)).trans B7.out⟩
set_option maxHeartbeats 16000000 in
set_option maxRecDepth 100000 in
theorem pPacket_any {w : World} {m : Pkd} (hr : Rd .u8 w m.A m.xs.length m.xs) (hf : I64 m.f) (ht : I64 m.t) (hq : 0 ≤ m.q ∧ m.q < 18446744073709551616) (hT : m.xs.length ≤ 4611686018427387904) :
    Calls Try.prog 14 #[.agg #[.int .i64 m.f, .int .i64 m.t, .int .u64 m.q, .bool m.a, .slice m.A m.xs.length m.c]] w (WoP m.Cn 2097152 (pktO m) w) := by
  have HM := Lib.hid hr
  obtain ⟨W1, hW1⟩ : ∃ W1, w.alloc (.cells #[.int .i64 m.f, .int .i64 m.t, .int .u64 m.q, .bool m.a, .slice m.A m.xs.length m.c] 43) = W1 := ⟨_, rfl⟩
  have b1 : Below w.heap.size w W1 := by rw [← hW1]; exact (Below.refl _ _).alloc (Nat.le_refl _) _
  have s1 : W1.heap.size = w.heap.size + 1 := by rw [← hW1]; simp
  have r1 : W1.heap[w.heap.size]? = some (.cells #[.int .i64 m.f, .int .i64 m.t, .int .u64 m.q, .bool m.a, .slice m.A m.xs.length m.c] 43 (0, 0)) := by rw [← hW1]; exact heap_alloc_new w _
  obtain ⟨W2, hW2⟩ : ∃ W2, W1.alloc (.cells #[.int .i64 m.f, .int .i64 m.t] 3) = W2 := ⟨_, rfl⟩
  have b2 : Below W1.heap.size W1 W2 := by rw [← hW2]; exact (Below.refl _ _).alloc (Nat.le_refl _) _
  have s2 : W2.heap.size = w.heap.size + 2 := by rw [← hW2]; simp [s1]
  have R2 := Lib.hid (show W2.heap[w.heap.size + 1]? = some (.cells #[.int .i64 m.f, .int .i64 m.t] 3 (0, 0)) by rw [← hW2, ← s1]; exact heap_alloc_new W1 _)
  have B2 := Lib.hid (show Below w.heap.size w W2 from b1.trans (b2.mono (by omega)))
  have r1' : W2.heap[w.heap.size]? = some (.cells #[.int .i64 m.f, .int .i64 m.t, .int .u64 m.q, .bool m.a, .slice m.A m.xs.length m.c] 43 (0, 0)) := (b2.block _ (by omega)).trans r1
  have RD := Lib.hid (rd_row (k := .i64) (xs := [m.f, m.t]) R2.out)
  have RI := Lib.hid (show ∀ i, i < 2 → I64 (dig [m.f, m.t] i) from fun i hi => by
    rcases (show i = 0 ∨ i = 1 by omega) with rfl | rfl
    · exact hf
    · exact ht)
  have CI := Lib.hid (show (∀ i, i < 2 → Cnt (dig [m.f, m.t] i)) ↔ Cnt m.f ∧ Cnt m.t from ⟨fun h => ⟨h 0 (by decide), h 1 (by decide)⟩, fun h i hi => by
    rcases (show i = 0 ∨ i = 1 by omega) with rfl | rfl
    · exact h.1
    · exact h.2⟩)
  have HQQ := Lib.hid hq
  have y0 := cell_of_row W1 w.heap.size 0 _ _ _ r1
  have y1 := cell_of_row W1 w.heap.size 1 _ _ _ r1
  have y2 := cell_of_row W2 w.heap.size 2 _ _ _ r1'
  clear hr hf ht hq b1 b2 r1
  go_enter Try.func14, Try.ntmps14
  go_wp2_with fail
  try rw [hW1]
  try rw [hW2]
  refine (acnt_any (n := 2) RD.out RI.out (by decide)).mono ?_
  rintro e w3 ⟨⟨q, rfl, hq⟩, rfl⟩
  have HQ := Lib.hid (hq.trans CI.out)
  have HW2 := Lib.hid hW2
  clear hq hW2 y0 y1
  cases q with
  | false =>
    clear s1 s2 hW1
    go_wp2_with fail
    go_ret2
    exact .inl ⟨fun h => (by have := HQ.out.2 ⟨h.f, h.t⟩; cases this), rfl, B2.out⟩
  | true =>
    by_cases g : 4611686018427387904 < m.q
    · have e1 : decide (4611686018427387904 < m.q) = true := by simpa using g
      have G := Lib.hid g
      clear s1 s2 hW1 g
      go_wp2_with fail
      go_ret2
      exact .inl ⟨fun h => absurd h.q.2 (by have := G.out; omega), rfl, B2.out⟩
    have e1 : decide (4611686018427387904 < m.q) = false := by simpa using g
    have HCN := Lib.hid (show m.Cn from ⟨(HQ.out.1 rfl).1, (HQ.out.1 rfl).2, ⟨HQQ.out.1, by omega⟩⟩)
    obtain ⟨W3, hW3⟩ : ∃ W3, W2.alloc (.cells #[.slice none 0 0, .int .i64 2097152, .bool false] 64) = W3 := ⟨_, rfl⟩
    have b3 : Below W2.heap.size W2 W3 := by rw [← hW3]; exact (Below.refl _ _).alloc (Nat.le_refl _) _
    have R1 := Lib.hid (show W3.heap[w.heap.size]? = some (.cells #[.int .i64 m.f, .int .i64 m.t, .int .u64 m.q, .bool m.a, .slice m.A m.xs.length m.c] 43 (0, 0)) from (b3.block _ (by omega)).trans r1')
    have B3 := Lib.hid (show Below w.heap.size w W3 from B2.out.trans (b3.mono (by omega)))
    have PT := Lib.hid (show Pt W3 (w.heap.size + 2) 2097152 ⟨[], 0⟩ by rw [← hW3, ← s2]; exact new_writer)
    have z0 := cell_of_row W3 w.heap.size 0 _ _ _ R1.out
    have z1 := cell_of_row W3 w.heap.size 1 _ _ _ R1.out
    have z2 := cell_of_row W3 w.heap.size 2 _ _ _ R1.out
    have z3 := cell_of_row W3 w.heap.size 3 _ _ _ R1.out
    have z4 := cell_of_row W3 w.heap.size 4 _ _ _ R1.out
    clear r1' b3 g
    go_wp2_with fail
    try rw [hW3]
    refine (ppkt_any HM.out HCN.out hT B3.out (by omega) PT.out (by decide)).mono ?_
    rintro e w4 ⟨rfl, o4, b4⟩
    have O4 := Lib.hid o4
    have B4 := Lib.hid (B3.out.trans ((b4.below PT.out.lt).mono (show w.heap.size ≤ w.heap.size + 2 by omega)))
    clear o4 b4 hW3 hW1 s1 s2 y2 z0 z1 z2 z3 z4
    go_wp2_with fail
    refine (pwritten_any O4.out).mono ?_
    rintro e w5 (⟨ho, v, rfl, hv, hb⟩ | ⟨ho, rfl, hb⟩)
    · obtain ⟨Av, cv, rfl, -⟩ := own_rd hv
      have HO := Lib.hid ho
      have HV := Lib.hid hv
      have HB := Lib.hid hb
      clear ho hv hb
      go_wp2_with fail
      go_ret2
      exact .inr (.inr ⟨HCN.out, HO.out, _, rfl, own_base HV.out (by omega), B4.out.trans (HB.out.mono (by omega))⟩)
    · have HO := Lib.hid ho
      have HB := Lib.hid hb
      clear ho hb
      go_wp2_with fail
      go_ret2
      exact .inr (.inl ⟨HCN.out, HO.out, rfl, B4.out.trans (HB.out.mono (by omega))⟩)
end Go.Proofs.Ytcnekfpgoceblaa
