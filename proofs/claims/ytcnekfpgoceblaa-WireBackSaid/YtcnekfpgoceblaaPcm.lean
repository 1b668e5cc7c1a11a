/-
  Several texts in one: Men, Sml, Vm11.
-/
import Derived.Test.YtcnekfpgoceblaaPcg
import Derived.Test.YtcnekfpgoceblaaVp11
import Derived.Test.YtcnekfpgoceblaaMxx
import Derived.Test.YtcnekfpgoceblaaPcf
import Derived.BigQuiet
import Derived.Deep.QuietTactic
import Derived.Test.YtcnekfpgoceblaaOms
/-
  The bytes of a message whose numbers are counts, in the chapter's words; what its errors are. No call is spoken of.
-/
namespace Go.Proofs.Ytcnekfpgoceblaa
open Go.RowKit
set_option linter.unusedVariables false
theorem fail_bad {s : OuS} {k : Int} (hk : k ≠ 0) : (s.fail k).bad ≠ 0 := by
  show (if s.bad = 0 ∨ k = 1 then k else s.bad) ≠ 0
  split
  · exact hk
  · rename_i h; exact fun e => h (.inl e)
theorem num_good {s : OuS} {N : Int} (h0 : 0 ≤ N) (h : (s.num N).bad = 0) : s.bad = 0 ∧ numC.ok (dg W N) ∧ s.num N = s.put (numC.enc (dg W N)) := by
  by_cases g : 64 < dl N
  · have e : s.num N = s.fail 2 := if_pos g
    rw [e] at h
    exact absurd h (fail_bad (by decide))
  · have e : s.num N = s.put (OuS.numE N) := if_neg g
    rw [e] at h ⊢
    exact ⟨h, dgW_can h0 (by omega), by rw [numE_enc]⟩
theorem cntC_good {s : OuS} {n : Int} (hn : Cnt n) (h : (s.cnt n).bad = 0) : s.bad = 0 ∧ cntC.ok n.toNat ∧ s.cnt n = s.put (cntC.enc n.toNat) := by
  have e : s.cnt n = s.put (cntE n.toNat) := if_neg (by have := hn.1; have := hn.2; omega)
  rw [e] at h ⊢
  exact ⟨h, by show n.toNat ≤ topC; unfold topC; have := hn.2; omega, rfl⟩
/-- One behind the other. -/
theorem fold_good {f : OuS → Nat → OuS} {enc : Nat → List Int} {ok : Nat → Prop} : ∀ (n : Nat) (s : OuS), (∀ (s : OuS) (i : Nat), i < n → (f s i).bad = 0 → s.bad = 0 ∧ ok i ∧ f s i = s.put (enc i)) → ((List.range n).foldl f s).bad = 0 → s.bad = 0 ∧ (∀ i, i < n → ok i) ∧ (List.range n).foldl f s = s.put ((List.range n).flatMap enc) := fun n => by
  induction n with
  | zero => intro s _ h; exact ⟨h, fun i hi => absurd hi (Nat.not_lt_zero i), by show s = s.put []; rw [OuS.put_nil]⟩
  | succ n ih =>
    intro s hf h
    rw [fold_succ] at h ⊢
    obtain ⟨h1, h2, h3⟩ := hf _ n (Nat.lt_succ_self n) h
    obtain ⟨k1, k2, k3⟩ := ih s (fun s i hi => hf s i (by omega)) h1
    refine ⟨k1, fun i hi => ?_, ?_⟩
    · rcases Nat.lt_or_ge i n with g | g
      · exact k2 i g
      · obtain rfl : i = n := by omega
        exact h2
    · rw [h3, k3, OuS.put_put, List.range_succ, List.flatMap_append, List.flatMap_singleton]
theorem flat_map {α : Type} (cd : Cdc α) (g : Nat → α) (n : Nat) : (List.range n).flatMap (fun i => cd.enc (g i)) = ((List.range n).map g).flatMap cd.enc := by rw [List.flatMap_map]
/-- A list of so many things. -/
theorem list_good {α : Type} {cd : Cdc α} {g : Nat → α} {f : OuS → Nat → OuS} {n : Nat} {s : OuS} (hn : n ≤ 4611686018427387904) (hf : ∀ (s : OuS) (i : Nat), i < n → (f s i).bad = 0 → s.bad = 0 ∧ cd.ok (g i) ∧ f s i = s.put (cd.enc (g i)))
    (h : ((List.range n).foldl f (s.cnt (n : Int))).bad = 0) : s.bad = 0 ∧ (listC cd).ok ((List.range n).map g) ∧ (List.range n).foldl f (s.cnt (n : Int)) = s.put ((listC cd).enc ((List.range n).map g)) := by
  have hl : ((List.range n).map g).length = n := by simp
  obtain ⟨h1, h2, h3⟩ := fold_good (enc := fun i => cd.enc (g i)) n (s.cnt (n : Int)) hf h
  obtain ⟨k1, k2, k3⟩ := cntC_good ⟨by omega, by omega⟩ h1
  refine ⟨k1, ⟨by rw [hl]; unfold topC; omega, fun v hv => ?_⟩, ?_⟩
  · obtain ⟨i, hi, rfl⟩ := List.mem_map.1 hv
    exact h2 i (List.mem_range.1 hi)
  · rw [h3, k3, OuS.put_put]
    show s.put (cntE n ++ _) = s.put (cntE ((List.range n).map g).length ++ _)
    rw [hl, flat_map]
theorem let_good {w : World} {A : Option Addr} {n c : Nat} {S : Nat → Stp} {s : OuS} (hm : Ch w A n c S) (h : (letO (s.cnt (n : Int)) S n).bad = 0) : s.bad = 0 ∧ (listC prC).ok (dvL ⟨A, n, c, S⟩) ∧ letO (s.cnt (n : Int)) S n = s.put ((listC prC).enc (dvL ⟨A, n, c, S⟩)) := by
  refine list_good (cd := prC) (g := fun i => dvP (S i)) (f := fun s i => ((s.num (S i).P).num (S i).Q).num (S i).A) (show n ≤ 4611686018427387904 by have := hm.c60; omega) (fun s i hi hb => ?_) h
  obtain ⟨a1, a2, a3⟩ := num_good (hm.at_ i hi).a.pos hb
  obtain ⟨b1, b2, b3⟩ := num_good (hm.at_ i hi).q.pos a1
  obtain ⟨c1, c2, c3⟩ := num_good (hm.at_ i hi).p.pos b1
  refine ⟨c1, ⟨c2, b2, a2⟩, ?_⟩
  show ((s.num (S i).P).num (S i).Q).num (S i).A = _
  rw [a3, b3, c3, OuS.put_put, OuS.put_put]
  rfl
theorem pfl_good {w : World} {A : Option Addr} {n c : Nat} {S : Nat → Pf2} {s : OuS} (hm : Pfs w A n c S) (h : (pflO (s.cnt (n : Int)) S n).bad = 0) : s.bad = 0 ∧ (listC pfC).ok (dvQ ⟨A, n, c, S⟩) ∧ pflO (s.cnt (n : Int)) S n = s.put ((listC pfC).enc (dvQ ⟨A, n, c, S⟩)) := by
  refine list_good (cd := pfC) (g := fun i => dvF (S i)) (f := fun s i => (s.num (S i).E).num (S i).Z) (show n ≤ 4611686018427387904 by have := hm.c60; omega) (fun s i hi hb => ?_) h
  obtain ⟨b1, b2, b3⟩ := num_good (hm.at_ i hi).2.pos hb
  obtain ⟨c1, c2, c3⟩ := num_good (hm.at_ i hi).1.pos b1
  refine ⟨c1, ⟨c2, b2⟩, ?_⟩
  show (s.num (S i).E).num (S i).Z = _
  rw [b3, c3, OuS.put_put]
  rfl
theorem bat_good {w : World} {A : Option Addr} {n c : Nat} {B : Nat → Lsl} {s : OuS} (hm : Bat w A n c B) (h : (batO (s.cnt (n : Int)) B n).bad = 0) : s.bad = 0 ∧ (listC (listC prC)).ok ((List.range n).map fun i => dvL (B i)) ∧ batO (s.cnt (n : Int)) B n = s.put ((listC (listC prC)).enc ((List.range n).map fun i => dvL (B i))) :=
  list_good (cd := listC prC) (g := fun i => dvL (B i)) (f := fun s i => letO (s.cnt ((B i).n : Int)) (B i).S (B i).n) (by have := hm.c60; omega) (fun s i hi hb => let_good (hm.at_ i hi) hb) h
theorem pba_good {w : World} {A : Option Addr} {n c : Nat} {B : Nat → Psl} {s : OuS} (hm : Pba w A n c B) (h : (pbaO (s.cnt (n : Int)) B n).bad = 0) : s.bad = 0 ∧ (listC (listC pfC)).ok ((List.range n).map fun i => dvQ (B i)) ∧ pbaO (s.cnt (n : Int)) B n = s.put ((listC (listC pfC)).enc ((List.range n).map fun i => dvQ (B i))) :=
  list_good (cd := listC pfC) (g := fun i => dvQ (B i)) (f := fun s i => pflO (s.cnt ((B i).n : Int)) (B i).S (B i).n) (by have := hm.c60; omega) (fun s i hi hb => pfl_good (hm.at_ i hi) hb) h
theorem txt_good {w : World} {A : Option Addr} {n c : Nat} {T : Nat → Txt} {s : OuS} (hm : Txs w A n c T) (hT : ∀ i, i < n → (T i).xs.length ≤ 4611686018427387904) (h : (txtO (s.cnt (n : Int)) T n).bad = 0) : s.bad = 0 ∧ (listC bytesC).ok ((List.range n).map fun i => (T i).xs) ∧ txtO (s.cnt (n : Int)) T n = s.put ((listC bytesC).enc ((List.range n).map fun i => (T i).xs)) := by
  refine list_good (cd := bytesC) (g := fun i => (T i).xs) (f := fun s i => (s.cnt ((T i).xs.length : Int)).put (T i).xs) (by have := hm.c60; omega) (fun s i hi hb => ?_) h
  have hl := hT i hi
  obtain ⟨c1, c2, c3⟩ := cntC_good (n := ((T i).xs.length : Int)) ⟨by omega, by omega⟩ (show (s.cnt ((T i).xs.length : Int)).bad = 0 from hb)
  refine ⟨c1, ⟨by unfold topC; omega, fun v hv => (hm.at_ i hi).2 v hv⟩, ?_⟩
  show (s.cnt ((T i).xs.length : Int)).put (T i).xs = _
  rw [c3, OuS.put_put, bytesC_enc]
  rfl
/-- All ahead of a message's letters. -/
def sHead (m : Mgd) : OuS := ((((((⟨[], 0⟩ : OuS).cnt m.k).cnt m.g).cnt m.l).cnt m.p).cnt m.s |>.cnt m.u).tru m.ok
/-- The bytes of a message with which nothing is amiss. -/
theorem msg_good {w : World} {m : Mgd} (hm : Mg w m) (hc : m.Cn) (hT : ∀ i, i < m.nt → (m.T i).xs.length ≤ 4611686018427387904) (h : (msgO m).bad = 0) : msgC.ok (mv m) ∧ msgO m = ⟨msgC.enc (mv m), 0⟩ := by
  have h9 : ((txtO (msg2 m) m.T m.nt).cnt m.i).num m.V = msgO m := rfl
  rw [← h9] at h
  obtain ⟨a1, a2, a3⟩ := num_good hm.v.pos h
  obtain ⟨b1, b2, b3⟩ := cntC_good hc.i a1
  obtain ⟨c1, c2, c3⟩ := txt_good (s := pbaO (msg1 m) m.P m.np) hm.t hT b1
  obtain ⟨d1, d2, d3⟩ := pba_good (s := batO (msg0 m) m.B m.nb) hm.p c1
  obtain ⟨e1, e2, e3⟩ := bat_good (s := sHead m) hm.b d1
  have e1' : (((((((⟨[], 0⟩ : OuS).cnt m.k).cnt m.g).cnt m.l).cnt m.p).cnt m.s).cnt m.u).bad = 0 := e1
  obtain ⟨f1, f2, f3⟩ := cntC_good hc.u e1'
  obtain ⟨g1, g2, g3⟩ := cntC_good hc.s f1
  obtain ⟨k1, k2, k3⟩ := cntC_good hc.p g1
  obtain ⟨l1, l2, l3⟩ := cntC_good hc.l k1
  obtain ⟨m1, m2, m3⟩ := cntC_good hc.g l1
  obtain ⟨n1, n2, n3⟩ := cntC_good hc.k m1
  refine ⟨⟨n2, m2, l2, k2, g2, f2, trivial, e2, d2, c2, b2, a2⟩, ?_⟩
  rw [← h9, a3, b3]
  show (OuS.put (OuS.put (txtO ((pbaO (msg1 m) m.P m.np).cnt (m.nt : Int)) m.T m.nt) _) _) = _
  rw [c3]
  show (OuS.put (OuS.put (OuS.put (pbaO ((batO (msg0 m) m.B m.nb).cnt (m.np : Int)) m.P m.np) _) _) _) = _
  rw [d3]
  show (OuS.put (OuS.put (OuS.put (OuS.put (batO ((sHead m).cnt (m.nb : Int)) m.B m.nb) _) _) _) _) = _
  rw [e3]
  have e4 : sHead m = (((((((⟨[], 0⟩ : OuS).cnt m.k).cnt m.g).cnt m.l).cnt m.p).cnt m.s).cnt m.u).put (truC.enc m.ok) := rfl
  rw [e4, f3, g3, k3, l3, m3, n3]
  simp only [OuS.put_put, List.append_assoc]
  rfl
end Go.Proofs.Ytcnekfpgoceblaa
/-
  What the laws' small answers: has a message few enough parts. By program: gensml.py.
-/
namespace Go.Proofs.Ytcnekfpgoceblaa
open Go.RowKit
set_option linter.unusedVariables false
/-- What a small message is. -/
structure Mgd.Sml (m : Mgd) : Prop where
  b : m.nb ≤ 1000
  p : m.np ≤ 1000
  t : m.nt ≤ 1000
  B : ∀ i, i < m.nb → (m.B i).n ≤ 3000
  P : ∀ i, i < m.np → (m.P i).n ≤ 3000
def SmP (m : Mgd) (w : World) (e : Ending) (w' : World) : Prop := ∃ q : Bool, e = .returned (.bool q) ∧ (q = true → m.Sml) ∧ Below w.heap.size w w'
def Sm1 (m : Mgd) (W : World) (n i : Value) (wr : World) : Prop := ∃ (j v : Nat), i = .int .i64 j ∧ n = .int .i64 v ∧ j ≤ m.nb ∧ v ≤ 9000 ∧ (∀ i, i < j → (m.B i).n ≤ 3000) ∧ W = wr
def Sm2 (m : Mgd) (W : World) (n i : Value) (wr : World) : Prop := ∃ (j v : Nat), i = .int .i64 j ∧ n = .int .i64 v ∧ j ≤ m.np ∧ v ≤ 9000 ∧ (∀ i, i < j → (m.P i).n ≤ 3000) ∧ W = wr
set_option maxHeartbeats 16000000 in
set_option maxRecDepth 100000 in
theorem smallW_any {w : World} {m : Mgd} (hm : Mg w m) : Calls Try.prog 10 #[.agg #[.int .i64 m.k, .int .i64 m.g, .int .i64 m.l, .int .i64 m.p, .int .i64 m.s, .int .i64 m.u, .bool m.ok, .slice m.Ab m.nb m.cb, .slice m.Ap m.np m.cp, .slice m.At m.nt m.ct, .int .i64 m.i, .slice m.Av m.nv m.cv]] w (SmP m w) := by
  have HM := Lib.hid hm
  obtain ⟨W, hW⟩ : ∃ W, w.alloc (.cells #[.int .i64 m.k, .int .i64 m.g, .int .i64 m.l, .int .i64 m.p, .int .i64 m.s, .int .i64 m.u, .bool m.ok, .slice m.Ab m.nb m.cb, .slice m.Ap m.np m.cp, .slice m.At m.nt m.ct, .int .i64 m.i, .slice m.Av m.nv m.cv] 30) = W := ⟨_, rfl⟩
  have B1 := Lib.hid (show Below w.heap.size w W by rw [← hW]; exact (Below.refl _ _).alloc (Nat.le_refl _) _)
  have R1 := Lib.hid (show W.heap[w.heap.size]? = some (.cells #[.int .i64 m.k, .int .i64 m.g, .int .i64 m.l, .int .i64 m.p, .int .i64 m.s, .int .i64 m.u, .bool m.ok, .slice m.Ab m.nb m.cb, .slice m.Ap m.np m.cp, .slice m.At m.nt m.ct, .int .i64 m.i, .slice m.Av m.nv m.cv] 30 (0, 0)) by rw [← hW]; exact heap_alloc_new w _)
  have M1 := Lib.hid (hm.below B1.out)
  have y7 := cell_of_row W w.heap.size 7 _ _ _ R1.out
  have y8 := cell_of_row W w.heap.size 8 _ _ _ R1.out
  have y9 := cell_of_row W w.heap.size 9 _ _ _ R1.out
  have c1 := M1.out.b.c60
  have c2 := M1.out.p.c60
  have c3 := M1.out.t.c60
  clear hm
  by_cases g : m.nb ≤ 1000 ∧ m.np ≤ 1000 ∧ m.nt ≤ 1000
  case neg =>
    have FIN := Lib.hid (show SmP m w (.returned (.bool false)) W from ⟨false, rfl, fun h => (by cases h), B1.out⟩)
    rcases Nat.lt_or_ge 1000 m.nb with g1 | g1
    · have e1 : decide ((1000 : Int) < (m.nb : Int)) = true := by simp; omega
      clear g g1
      go_enter Try.func10, Try.ntmps10
      go_wp2_with fail
      try rw [hW]
      go_ret
      exact FIN.out
    have e1 : decide ((1000 : Int) < (m.nb : Int)) = false := by simp; omega
    rcases Nat.lt_or_ge 1000 m.np with g2 | g2
    · have e2 : decide ((1000 : Int) < (m.np : Int)) = true := by simp; omega
      clear g g1 g2
      go_enter Try.func10, Try.ntmps10
      go_wp2_with fail
      try rw [hW]
      go_ret
      exact FIN.out
    have e2 : decide ((1000 : Int) < (m.np : Int)) = false := by simp; omega
    have e3 : decide ((1000 : Int) < (m.nt : Int)) = true := by simp; omega
    clear g g1 g2
    go_enter Try.func10, Try.ntmps10
    go_wp2_with fail
    try rw [hW]
    go_ret
    exact FIN.out
  case pos =>
    obtain ⟨g1, g2, g3⟩ := g
    have e1 : decide ((1000 : Int) < (m.nb : Int)) = false := by simp; omega
    have e2 : decide ((1000 : Int) < (m.np : Int)) = false := by simp; omega
    have e3 : decide ((1000 : Int) < (m.nt : Int)) = false := by simp; omega
    have G1 := Lib.hid g1
    have G2 := Lib.hid g2
    have G3 := Lib.hid g3
    go_enter Try.func10, Try.ntmps10
    go_wp2_with fail
    try rw [hW]
    clear e1 e2 e3 y9 hW
    go_loopw [3, 4] (fun n i wr => Sm1 m W n i wr) (fun _ i _ => m.nb - (intOf i).toNat)
    case atStart => exact ⟨0, 0, rfl, rfl, Nat.zero_le _, by decide, fun i h => absurd h (Nat.not_lt_zero i), rfl⟩
    case round =>
      obtain ⟨j, v, rfl, rfl, hj, hv, hB, rfl⟩ := hrel
      have HB := Lib.hid hB
      clear hB
      rcases Nat.lt_or_ge j m.nb with hlt | hge
      · have hji : decide (j < m.nb) = true := by simp; omega
        have hji2 : (j : Int) < (m.nb : Int) := by omega
        obtain ⟨b, off, eA, hbl, hx⟩ := M1.out.b.ex (by omega)
        have EA := Lib.hid eA
        have xj := hx j hlt
        rw [eA] at y7
        clear eA hx
        rcases Nat.lt_or_ge 6000 v with v1 | v1
        · have t1 : decide (6000 < (v : Int)) = true := by simp; omega
          have t1' : decide (6000 < v) = true := by simp; omega
          clear v1
          go_wp2_with fail
          go_ret
          exact ⟨false, rfl, fun h => (by cases h), B1.out⟩
        have t1 : decide (6000 < (v : Int)) = false := by simp; omega
        have t1' : decide (6000 < v) = false := by simp; omega
        rcases Nat.lt_or_ge 3000 (m.B j).n with v2 | v2
        · have t2 : decide (3000 < ((m.B j).n : Int)) = true := by simp; omega
          have t2' : decide (3000 < (m.B j).n) = true := by simp; omega
          clear v1 v2
          go_wp2_with fail
          go_ret
          exact ⟨false, rfl, fun h => (by cases h), B1.out⟩
        have t2 : decide (3000 < ((m.B j).n : Int)) = false := by simp; omega
        have t2' : decide (3000 < (m.B j).n) = false := by simp; omega
        have ws : IntKind.i64.wrap ((v : Int) + ((m.B j).n : Int)) = ((v + (m.B j).n : Nat) : Int) := by rw [IntWalk.i64_in _ (by omega)]; omega
        have V2 := Lib.hid v2
        have V1 := Lib.hid v1
        clear v1 v2
        go_wp2_with fail
        go_roundw
        case rel =>
          refine ⟨j + 1, v + (m.B j).n, by go_num, by go_num, by omega, by have := V1.out; have := V2.out; omega, fun i hi => ?_, rfl⟩
          rcases Nat.lt_or_ge i j with q | q
          · exact HB.out i q
          · obtain rfl : i = j := by omega
            exact V2.out
        case measure => simp [intOf]; omega
      · obtain rfl : j = m.nb := by omega
        have hji : decide (m.nb < m.nb) = false := by simp
        go_wp2_with fail
        clear hji
        go_loopw [3, 5] (fun n i wr => Sm2 m W n i wr) (fun _ i _ => m.np - (intOf i).toNat)
        case atStart => exact ⟨0, v, rfl, rfl, Nat.zero_le _, hv, fun i h => absurd h (Nat.not_lt_zero i), rfl⟩
        case round =>
          obtain ⟨j, v, rfl, rfl, hj, hv, hP, rfl⟩ := hrel
          have HP := Lib.hid hP
          clear hP
          rcases Nat.lt_or_ge j m.np with hlt | hge
          · have hji : decide (j < m.np) = true := by simp; omega
            have hji2 : (j : Int) < (m.np : Int) := by omega
            obtain ⟨b, off, eA, hbl, hx⟩ := M1.out.p.ex (by omega)
            have EA := Lib.hid eA
            have xj := hx j hlt
            rw [eA] at y8
            clear eA hx
            rcases Nat.lt_or_ge 6000 v with v1 | v1
            · have t1 : decide (6000 < (v : Int)) = true := by simp; omega
              have t1' : decide (6000 < v) = true := by simp; omega
              clear v1
              go_wp2_with fail
              go_ret
              exact ⟨false, rfl, fun h => (by cases h), B1.out⟩
            have t1 : decide (6000 < (v : Int)) = false := by simp; omega
            have t1' : decide (6000 < v) = false := by simp; omega
            rcases Nat.lt_or_ge 3000 (m.P j).n with v2 | v2
            · have t2 : decide (3000 < ((m.P j).n : Int)) = true := by simp; omega
              have t2' : decide (3000 < (m.P j).n) = true := by simp; omega
              clear v1 v2
              go_wp2_with fail
              go_ret
              exact ⟨false, rfl, fun h => (by cases h), B1.out⟩
            have t2 : decide (3000 < ((m.P j).n : Int)) = false := by simp; omega
            have t2' : decide (3000 < (m.P j).n) = false := by simp; omega
            have ws : IntKind.i64.wrap ((v : Int) + ((m.P j).n : Int)) = ((v + (m.P j).n : Nat) : Int) := by rw [IntWalk.i64_in _ (by omega)]; omega
            have V2 := Lib.hid v2
            have V1 := Lib.hid v1
            clear v1 v2
            go_wp2_with fail
            go_roundw
            case rel =>
              refine ⟨j + 1, v + (m.P j).n, by go_num, by go_num, by omega, by have := V1.out; have := V2.out; omega, fun i hi => ?_, rfl⟩
              rcases Nat.lt_or_ge i j with q | q
              · exact HP.out i q
              · obtain rfl : i = j := by omega
                exact V2.out
            case measure => simp [intOf]; omega
          · obtain rfl : j = m.np := by omega
            have hji : decide (m.np < m.np) = false := by simp
            go_wp2_with fail
            go_ret
            exact ⟨_, rfl, fun _ => ⟨G1.out, G2.out, G3.out, HB.out, HP.out⟩, B1.out⟩
end Go.Proofs.Ytcnekfpgoceblaa
/-
  Messages: the program's Message and the document's in one form.
-/
namespace Go.Proofs.Ytcnekfpgoceblaa
open Go.RowKit
set_option linter.unusedVariables false
/-! ### Bytes are bytes -/
def Cdc.Byt {α : Type} (c : Cdc α) : Prop := ∀ v, c.ok v → Dig 256 (c.enc v)
theorem dig_app {a b : List Int} (h : Dig 256 a) (k : Dig 256 b) : Dig 256 (a ++ b) := fun x hx => by
  rcases List.mem_append.1 hx with hx | hx
  · exact h x hx
  · exact k x hx
theorem byt_cnt : cntC.Byt := fun v _ => cntE_dig v
theorem byt_pair {α β : Type} {c : Cdc α} {d : Cdc β} (h : c.Byt) (k : d.Byt) : (c.pair d).Byt := fun v hv => dig_app (h _ hv.1) (k _ hv.2)
theorem byt_list {α : Type} {c : Cdc α} (h : c.Byt) : (listC c).Byt := fun v hv => dig_app (cntE_dig _) fun x hx => by
  obtain ⟨a, ha, hx⟩ := List.mem_flatMap.1 hx
  exact h a (hv.2 a ha) x hx
theorem byt_lim : limC.Byt := fun v _ => limE_dig v
theorem byt_num : numC.Byt := fun v hv => byt_list byt_lim v hv.1
theorem byt_tru : truC.Byt := fun v _ x hx => by
  have : x ∈ [if v = true then (1 : Int) else 0] := hx
  rw [List.mem_singleton] at this
  rw [this]; split <;> omega
theorem byt_byte : byteC.Byt := fun v hv x hx => by
  have : x ∈ [v] := hx
  rw [List.mem_singleton] at this
  rw [this]; exact hv
theorem byt_msg : msgC.Byt :=
  byt_pair byt_cnt (byt_pair byt_cnt (byt_pair byt_cnt (byt_pair byt_cnt (byt_pair byt_cnt (byt_pair byt_cnt (byt_pair byt_tru (byt_pair (byt_list (byt_list (byt_pair byt_num (byt_pair byt_num byt_num)))) (byt_pair (byt_list (byt_list (byt_pair byt_num byt_num))) (byt_pair (byt_list (byt_list byt_byte)) (byt_pair byt_cnt byt_num))))))))))
/-! ### What is amiss -/
theorem fail_two {s : OuS} (h : s.bad = 0 ∨ s.bad = 2) : (s.fail 2).bad = 2 := by
  show (if s.bad = 0 ∨ (2 : Int) = 1 then (2 : Int) else s.bad) = 2
  split
  · rfl
  · rename_i g
    rcases h with h | h
    · exact absurd (.inl h) g
    · exact h
theorem fail_one {s : OuS} (h : s.bad = 1) (k : Int) (hk : k ≠ 1) : (s.fail k).bad = 1 := by
  show (if s.bad = 0 ∨ k = 1 then k else s.bad) = 1
  rw [if_neg (by rintro (g | g); rw [h] at g; cases g; exact hk g)]
  exact h
def B02 (s : OuS) : Prop := s.bad = 0 ∨ s.bad = 2
theorem B02.num {s : OuS} (h : B02 s) (N : Int) : B02 (s.num N) := by
  unfold OuS.num
  split
  · exact .inr (fail_two h)
  · exact h
theorem B02.cnt {s : OuS} (h : B02 s) {n : Int} (hn : Cnt n) : B02 (s.cnt n) := by
  rw [show s.cnt n = s.put (cntE n.toNat) from if_neg (by have := hn.1; have := hn.2; omega)]
  exact h
theorem fold_keeps {p : OuS → Prop} {f : OuS → Nat → OuS} (n : Nat) (s : OuS) (h : p s) (hf : ∀ s i, i < n → p s → p (f s i)) : p ((List.range n).foldl f s) := by
  induction n with
  | zero => exact h
  | succ n ih =>
    rw [fold_succ]
    exact hf _ n (Nat.lt_succ_self n) (ih fun s i hi => hf s i (by omega))
theorem len_cnt {n : Nat} (h : n ≤ 4611686018427387904) : Cnt (n : Int) := ⟨by omega, by omega⟩
theorem B02.let_ {w : World} {A : Option Addr} {n c : Nat} {S : Nat → Stp} {s : OuS} (h : B02 s) (hm : Ch w A n c S) : B02 (letO (s.cnt (n : Int)) S n) :=
  fold_keeps n _ (h.cnt (len_cnt (by have := hm.c60; omega))) fun s i _ k => ((k.num _).num _).num _
theorem B02.pfl {w : World} {A : Option Addr} {n c : Nat} {S : Nat → Pf2} {s : OuS} (h : B02 s) (hm : Pfs w A n c S) : B02 (pflO (s.cnt (n : Int)) S n) :=
  fold_keeps n _ (h.cnt (len_cnt (by have := hm.c60; omega))) fun s i _ k => (k.num _).num _
theorem B02.bat {w : World} {A : Option Addr} {n c : Nat} {B : Nat → Lsl} {s : OuS} (h : B02 s) (hm : Bat w A n c B) : B02 (batO (s.cnt (n : Int)) B n) :=
  fold_keeps n _ (h.cnt (len_cnt (by have := hm.c60; omega))) fun s i hi k => k.let_ (hm.at_ i hi)
theorem B02.pba {w : World} {A : Option Addr} {n c : Nat} {B : Nat → Psl} {s : OuS} (h : B02 s) (hm : Pba w A n c B) : B02 (pbaO (s.cnt (n : Int)) B n) :=
  fold_keeps n _ (h.cnt (len_cnt (by have := hm.c60; omega))) fun s i hi k => k.pfl (hm.at_ i hi)
theorem B02.txt {w : World} {A : Option Addr} {n c : Nat} {T : Nat → Txt} {s : OuS} (h : B02 s) (hm : Txs w A n c T) (hT : ∀ i, i < n → (T i).xs.length ≤ 4611686018427387904) : B02 (txtO (s.cnt (n : Int)) T n) :=
  fold_keeps n _ (h.cnt (len_cnt (by have := hm.c60; omega))) fun s i hi k => show B02 ((s.cnt ((T i).xs.length : Int)).put (T i).xs) from k.cnt (len_cnt (hT i hi))
theorem msg_02 {w : World} {m : Mgd} (hm : Mg w m) (hc : m.Cn) (hT : ∀ i, i < m.nt → (m.T i).xs.length ≤ 4611686018427387904) : B02 (msgO m) := by
  have hz : B02 (⟨[], 0⟩ : OuS) := .inl rfl
  have h0 : B02 (sHead m) := show B02 ((((((⟨[], 0⟩ : OuS).cnt m.k).cnt m.g).cnt m.l).cnt m.p).cnt m.s |>.cnt m.u) from B02.cnt (B02.cnt (B02.cnt (B02.cnt (B02.cnt (B02.cnt hz hc.k) hc.g) hc.l) hc.p) hc.s) hc.u
  exact B02.num (B02.cnt (B02.txt (B02.pba (B02.bat h0 hm.b) hm.p) hm.t hT) hc.i) _
def B1 (s : OuS) : Prop := s.bad = 1
theorem B1.cnt {s : OuS} (h : B1 s) (n : Int) : B1 (s.cnt n) := (bad_keeps h).2.1 n
theorem B1.num {s : OuS} (h : B1 s) (N : Int) : B1 (s.num N) := by
  unfold OuS.num
  split
  · exact fail_one h 2 (by decide)
  · exact h
theorem B1.let_ {s : OuS} (h : B1 s) (n : Nat) (S : Nat → Stp) : B1 (letO s S n) := fold_keeps n _ h fun s i _ k => ((k.num _).num _).num _
theorem B1.pfl {s : OuS} (h : B1 s) (n : Nat) (S : Nat → Pf2) : B1 (pflO s S n) := fold_keeps n _ h fun s i _ k => (k.num _).num _
theorem B1.bat {s : OuS} (h : B1 s) (n : Nat) (B : Nat → Lsl) : B1 (batO s B n) := fold_keeps n _ h fun s i _ k => (k.cnt _).let_ _ _
theorem B1.pba {s : OuS} (h : B1 s) (n : Nat) (B : Nat → Psl) : B1 (pbaO s B n) := fold_keeps n _ h fun s i _ k => (k.cnt _).pfl _ _
theorem B1.txt {s : OuS} (h : B1 s) (n : Nat) (T : Nat → Txt) : B1 (txtO s T n) := fold_keeps n _ h fun s i _ k => show B1 ((s.cnt ((T i).xs.length : Int)).put (T i).xs) from k.cnt _
theorem msg_1 {m : Mgd} (h : ¬ m.Cn) : B1 (msgO m) := by
  have tl : ∀ s : OuS, B1 s → B1 (((txtO ((pbaO ((batO (s.cnt (m.nb : Int)) m.B m.nb).cnt (m.np : Int)) m.P m.np).cnt (m.nt : Int)) m.T m.nt).cnt m.i).num m.V) := fun s hs => ((((((((hs.cnt _).bat _ _).cnt _).pba _ _).cnt _).txt _ _).cnt _).num _)
  have e : msgO m = ((txtO ((pbaO ((batO ((sHead m).cnt (m.nb : Int)) m.B m.nb).cnt (m.np : Int)) m.P m.np).cnt (m.nt : Int)) m.T m.nt).cnt m.i).num m.V := rfl
  by_cases hk : Cnt m.k
  · by_cases hg : Cnt m.g
    · by_cases hl : Cnt m.l
      · by_cases hp : Cnt m.p
        · by_cases hs : Cnt m.s
          · by_cases hu : Cnt m.u
            · have hi : ¬ Cnt m.i := fun hi => h ⟨hk, hg, hl, hp, hs, hu, hi⟩
              rw [e]
              exact (show B1 _ from cnt_bad hi).num _
            · rw [e]; exact tl _ (show B1 (OuS.cnt _ m.u) from cnt_bad hu)
          · rw [e]; exact tl _ ((show B1 (OuS.cnt _ m.s) from cnt_bad hs).cnt _)
        · rw [e]; exact tl _ (((show B1 (OuS.cnt _ m.p) from cnt_bad hp).cnt _).cnt _)
      · rw [e]; exact tl _ ((((show B1 (OuS.cnt _ m.l) from cnt_bad hl).cnt _).cnt _).cnt _)
    · rw [e]; exact tl _ (((((show B1 (OuS.cnt _ m.g) from cnt_bad hg).cnt _).cnt _).cnt _).cnt _)
  · rw [e]; exact tl _ ((((((show B1 (OuS.cnt _ m.k) from cnt_bad hk).cnt _).cnt _).cnt _).cnt _).cnt _)
abbrev Mgd.v (m : Mgd) : Value := .agg #[.int .i64 m.k, .int .i64 m.g, .int .i64 m.l, .int .i64 m.p, .int .i64 m.s, .int .i64 m.u, .bool m.ok, .slice m.Ab m.nb m.cb, .slice m.Ap m.np m.cp, .slice m.At m.nt m.ct, .int .i64 m.i, .slice m.Av m.nv m.cv]
/-- Message, by the program and by the document: one code, the same bytes. -/
theorem msg_two {w0 : World} {m : Mgd} (hm0 : Mg w0 m) (hI : m.Int) (hT : ∀ i, i < m.nt → (m.T i).xs.length ≤ 4611686018427387904) :
    ∃ (code : Int) (bs : List Int), (0 ≤ code ∧ code ≤ 15) ∧ bs.length ≤ 1048576 ∧ Dig 256 bs ∧ (code = 0 → m.Cn ∧ msgC.ok (mv m) ∧ bs = msgC.enc (mv m)) ∧ (code ≠ 0 → bs = []) ∧
      (∀ w, Mg w m → Calls Try.prog 11 #[m.v] w (WcP code bs w)) ∧
      (m.Sml → (∀ i, i < m.nt → (m.T i).xs.length ≤ 1073741824) → ∀ w, Mg w m → Calls Try.prog 12 #[m.v] w (WdP code bs w)) := by
  by_cases hc : m.Cn
  · by_cases hov : (msgO m).over 1048576
    · have hb : ((msgO m).done 1048576).bad = 2 := by
        have h2 := msg_02 hm0 hc hT
        unfold OuS.done
        split
        · exact fail_two h2
        · rename_i g
          rcases hov with h | h
          · rcases h2 with k | k
            · exact absurd k h
            · exact k
          · exact absurd h g
      refine ⟨2, [], by decide, by decide, fun x hx => (by cases hx), fun h => (by cases h), fun _ => rfl, fun w hm => (pMessage_any hm hI hT).mono fun e w' h => wo_wc h (fun g => absurd hc g) (fun _ _ => ⟨rfl, rfl⟩) (fun _ g => absurd hov g), fun hs ht w hm => (romsg_any hm hs.b hs.B hs.p hs.P hs.t ht).mono fun e w' h => ?_⟩
      rcases h with ⟨a, -⟩ | ⟨a, rfl, b⟩
      · rw [hb] at a; cases a
      · rw [hb]; exact ⟨none, 0, rfl, Rd.nil _ _ _, b⟩
    · have h0 : (msgO m).bad = 0 := by
        rcases msg_02 hm0 hc hT with k | k
        · exact k
        · exact absurd (.inl (by rw [k]; decide)) hov
      obtain ⟨ok, he⟩ := msg_good hm0 hc hT h0
      have hb : (msgO m).done 1048576 = msgO m := by
        unfold OuS.done
        rw [if_neg fun h => hov (.inr h)]
      refine ⟨0, (msgO m).b, by decide, ?_, by rw [he]; exact byt_msg _ ok, fun _ => ⟨hc, ok, by rw [he]⟩, fun h => absurd rfl h, fun w hm => (pMessage_any hm hI hT).mono fun e w' h => wo_wc h (fun g => absurd hc g) (fun _ g => absurd g hov) (fun _ _ => ⟨rfl, rfl⟩), fun hs ht w hm => (romsg_any hm hs.b hs.B hs.p hs.P hs.t ht).mono fun e w' h => ?_⟩
      · rcases Nat.lt_or_ge 1048576 (msgO m).b.length with g | g
        · exact absurd (.inr g) hov
        · exact g
      · rw [hb] at h
        rcases h with ⟨a, v, rfl, ho, b⟩ | ⟨a, -⟩
        · obtain ⟨A, c, rfl, rd, -⟩ := own_rd ho
          exact ⟨A, c, rfl, rd, b⟩
        · exact absurd h0 a
  · have hb : ((msgO m).done 1048576).bad = 1 := (bad_keeps (msg_1 hc)).2.2.2 _
    refine ⟨1, [], by decide, by decide, fun x hx => (by cases hx), fun h => (by cases h), fun _ => rfl, fun w hm => (pMessage_any hm hI hT).mono fun e w' h => wo_wc h (fun g => ⟨rfl, rfl⟩) (fun g _ => absurd g hc) (fun g _ => absurd g hc), fun hs ht w hm => (romsg_any hm hs.b hs.B hs.p hs.P hs.t ht).mono fun e w' h => ?_⟩
    rcases h with ⟨a, -⟩ | ⟨a, rfl, b⟩
    · rw [hb] at a; cases a
    · rw [hb]; exact ⟨none, 0, rfl, Rd.nil _ _ _, b⟩
end Go.Proofs.Ytcnekfpgoceblaa
