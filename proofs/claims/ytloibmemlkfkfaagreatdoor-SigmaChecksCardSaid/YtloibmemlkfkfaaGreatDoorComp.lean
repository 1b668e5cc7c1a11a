/-
  What compressed answers: the state behind the rounds of one block.
-/
import Derived.Test.YtloibmemlkfkfaaGreatDoorSchd
namespace Go.Proofs.YtloibmemlkfkfaaGreatDoor
open Go.RowKit
set_option linter.unusedVariables false
/-- The two tables of the program, as they are laid. -/
structure Tabs (w : World) : Prop where
  start : ∃ t, w.heap[0]? = some (.cells H0.v t (0, 0))
  round : ∃ t, w.heap[1]? = some (.cells (arrV .u32 KT) t (0, 0))
theorem Tabs.below {w w' : World} (h : Tabs w) (hb : Below w.heap.size w w') : Tabs w' := by
  obtain ⟨⟨t, h1⟩, ⟨u, h2⟩⟩ := h
  exact ⟨⟨t, (hb.block _ (Array.getElem?_eq_some_iff.1 h1).1).trans h1⟩, ⟨u, (hb.block _ (Array.getElem?_eq_some_iff.1 h2).1).trans h2⟩⟩
theorem Tabs.drew {w : World} (h : Tabs w) : Tabs w.drew := ⟨h.start, h.round⟩
theorem Tabs.drewN {w : World} (h : Tabs w) (n : Nat) : Tabs (w.drewN n) := ⟨h.start, h.round⟩
theorem Tabs.alloc {w : World} (h : Tabs w) (o : Obj) : Tabs (w.alloc o) := h.below ((Below.refl _ _).alloc (Nat.le_refl _) _)
theorem Tabs.at_ {w : World} (h : Tabs w) {k : Nat} (hk : k < 64) : w.cell? ⟨1, k, none⟩ = some (.int .u32 (dig KT k)) := by
  obtain ⟨t, h2⟩ := h.round
  rw [cell_of_row w _ k _ t (0, 0) h2]
  exact arrV_at .u32 KT (by rw [KT_len]; exact hk)
theorem Tabs.lt {w : World} (h : Tabs w) : 1 < w.heap.size := by
  obtain ⟨t, h2⟩ := h.round
  exact (Array.getElem?_eq_some_iff.1 h2).1
theorem right_q (n : Nat) {v : Int} (hv : v = n) (h1 : 1 ≤ n) (h2 : n ≤ 31) (x : Int) (hx : Wd x) (w : World) :
    Calls Tryz.prog 163 #[.int .u32 x, .int .i64 v] w fun e w' => e = .returned (.int .u32 (rot n x)) ∧ w' = w :=
  (right_lit n hv h1 h2 x hx w).mono fun _ _ h => ⟨h.1, h.2.symm⟩
theorem t1f_eq (k w : Int) (s : St) : t1f k w s = (s.h + suE s.e + chE s.e s.f s.g + k + w) % 4294967296 := by
  unfold t1f ad; rw [IntKind.wrap_u32, IntKind.wrap_u32, IntKind.wrap_u32, IntKind.wrap_u32]; omega
theorem t2f_eq (s : St) : t2f s = (suA s.a + mjA s.a s.b s.c) % 4294967296 := by
  unfold t2f ad; rw [IntKind.wrap_u32]
def CmR (M : List Int) (s : St) (w : World) (a b c d e f g h i : Value) (wr : World) : Prop :=
  ∃ (k : Nat) (r : St), k ≤ 64 ∧ i = .int .i64 k ∧ r = rnds KT M s k ∧ a = .int .u32 r.a ∧ b = .int .u32 r.b ∧ c = .int .u32 r.c ∧ d = .int .u32 r.d ∧ e = .int .u32 r.e ∧ f = .int .u32 r.f ∧ g = .int .u32 r.g ∧ h = .int .u32 r.h ∧
    wr.heap[w.heap.size]? = some (.cells s.v 173 (0, 0)) ∧ wr.heap[w.heap.size + 1]? = some (.cells (arrV .u32 M) 187 (0, 0)) ∧ Row wr (w.heap.size + 2) 173 .u32 [0, 0, 0, 0, 0, 0, 0, 0] ∧ Tabs wr ∧ Below w.heap.size w wr
set_option maxHeartbeats 8000000 in
set_option maxRecDepth 100000 in
theorem compressed_any {M : List Int} {s : St} {w : World} (hT : Tabs w) (hs : s.ok) (hM : M.length = 64) :
    Calls Tryz.prog 160 #[.agg s.v, .agg (arrV .u32 M)] w (AnsA .u32 (addS s (rnds KT M s 64)).l w) := by
  have h0 := heap_alloc_new w (.cells s.v 173)
  obtain ⟨V, hV⟩ : ∃ V, V = s.v := ⟨_, rfl⟩
  obtain ⟨Y, hY⟩ : ∃ Y, Y = arrV .u32 M := ⟨_, rfl⟩
  have hc : ∀ j, j < 8 → V[j]? = some (.int .u32 (dig s.l j)) := fun j hj => by rw [hV]; exact s.v_at hj
  have c0 := hc 0 (by omega)
  have c1 := hc 1 (by omega)
  have c2 := hc 2 (by omega)
  have c3 := hc 3 (by omega)
  have c4 := hc 4 (by omega)
  have c5 := hc 5 (by omega)
  have c6 := hc 6 (by omega)
  have c7 := hc 7 (by omega)
  rw [← hV, ← hY]
  have HV := Lib.hid hV
  have HY := Lib.hid hY
  clear hV hY h0 hc
  go_enter Tryz.func160, Tryz.ntmps160
  go_wp2_with fail
  go_quiet (fail)
  go_wp2_with fail
  go_quiet (fail)
  go_wp2_with fail
  go_loopw [5, 6, 7, 8, 9, 10, 11, 12, 32] (fun a b c d e f g h i wr => CmR M s w a b c d e f g h i wr) (fun _ _ _ _ _ _ _ _ i _ => 64 - (intOf i).toNat)
  case atStart =>
    refine ⟨0, s, by omega, rfl, rfl, rfl, rfl, rfl, rfl, rfl, rfl, rfl, rfl, ?_, ?_, ?_, ?_, ?_⟩
    · have h1 := heap_alloc_new w (.cells V 173)
      have h2 := (Below.heap_alloc (w.alloc (.cells V 173)) (.cells Y 187) w.heap.size (by simp)).trans h1
      rw [← HV.out]
      exact (Below.heap_alloc _ (.cells ([0, 0, 0, 0, 0, 0, 0, 0].map (Value.int .u32)).toArray 173) w.heap.size (by simp; omega)).trans h2
    · have h1 := heap_alloc_new (w.alloc (.cells V 173)) (.cells Y 187)
      rw [show (w.alloc (.cells V 173)).heap.size = w.heap.size + 1 by simp] at h1
      rw [← HY.out]
      exact (Below.heap_alloc _ (.cells ([0, 0, 0, 0, 0, 0, 0, 0].map (Value.int .u32)).toArray 173) (w.heap.size + 1) (by simp)).trans h1
    · have h1 := Row.new ((w.alloc (.cells V 173)).alloc (.cells Y 187)) 173 .u32 [0, 0, 0, 0, 0, 0, 0, 0]
      rw [show ((w.alloc (.cells V 173)).alloc (.cells Y 187)).heap.size = w.heap.size + 2 by simp] at h1
      exact h1
    · exact ((((hT.alloc _).alloc _).alloc _).drewN _).drewN _
    · exact below_drewN (below_drewN ((((Below.refl _ _).alloc (Nat.le_refl _) _).alloc (by simp) _).alloc (by simp; omega) _) _) _
  case round =>
    obtain ⟨k, r, hk, rfl, hr, rfl, rfl, rfl, rfl, rfl, rfl, rfl, rfl, hg0, hg1, hg2, hT', hbe⟩ := hrel
    have hok : r.ok := by rw [hr]; exact rnds_ok hs k
    have HR := Lib.hid hr
    have HG0 := Lib.hid hg0
    have HG1 := Lib.hid hg1
    have HG2 := Lib.hid hg2
    clear hr hg0 hg2
    rcases Nat.lt_or_ge k 64 with hlt | hge
    · have wa := hok.1
      have we := hok.2.2.2.2.1
      have tk := hT'.at_ hlt
      have mk := (cell_of_row wr (w.heap.size + 1) k _ _ _ hg1).trans (arrV_at .u32 M (by rw [hM]; exact hlt))
      have HT := Lib.hid hT'
      have hsg : IntKind.u32.signed = false := rfl
      obtain ⟨kk, hkk⟩ : ∃ kk, dig KT k = kk := ⟨_, rfl⟩
      obtain ⟨mm, hmm⟩ : ∃ mm, dig M k = mm := ⟨_, rfl⟩
      rw [hkk] at tk
      rw [hmm] at mk
      have HKK := Lib.hid hkk
      have HMM := Lib.hid hmm
      have hki : (k : Int) < 64 := by omega
      clear hkk hmm hg1 hok hT'
      go_wp2_with fail
      go_quiet ((go_at_call 163; first | exact Calls.quiet_of_same (right_q 6 rfl (by omega) (by omega) r.e we _) | exact Calls.quiet_of_same (right_q 11 rfl (by omega) (by omega) r.e we _) | exact Calls.quiet_of_same (right_q 25 rfl (by omega) (by omega) r.e we _)))
      go_wp2_with fail
      refine (right_lit 2 rfl (by omega) (by omega) r.a wa _).mono ?_
      rintro e w1 ⟨rfl, rfl⟩
      go_wp2_with fail
      refine (right_lit 13 rfl (by omega) (by omega) r.a wa _).mono ?_
      rintro e w1 ⟨rfl, rfl⟩
      go_wp2_with fail
      refine (right_lit 22 rfl (by omega) (by omega) r.a wa _).mono ?_
      rintro e w1 ⟨rfl, rfl⟩
      go_wp2_with fail
      go_roundw
      case rel =>
        refine ⟨k + 1, rnd kk mm r, by omega, by go_num, ?_, ?_, rfl, rfl, rfl, ?_, rfl, rfl, rfl, HG0.out, HG1.out, HG2.out.drewN _, HT.out.drewN _, below_drewN hbe _⟩
        · rw [HR.out, ← HKK.out, ← HMM.out]; rfl
        · refine congrArg (Value.int .u32) ?_
          show _ = ad (t1f kk mm r) (t2f r)
          rw [t1f_eq, t2f_eq]; unfold ad; rw [IntKind.wrap_u32]; rfl
        · refine congrArg (Value.int .u32) ?_
          show _ = ad r.d (t1f kk mm r)
          rw [t1f_eq]; unfold ad; rw [IntKind.wrap_u32]; rfl
      case measure => simp [intOf]; omega
    · obtain rfl : k = 64 := by omega
      have e : ∀ j, j < 8 → wr.cell? ⟨w.heap.size, j, none⟩ = some (.int .u32 (dig s.l j)) := fun j hj => (cell_of_row wr w.heap.size j _ _ _ HG0.out).trans (s.v_at hj)
      have e0 := e 0 (by omega)
      have e1 := e 1 (by omega)
      have e2 := e 2 (by omega)
      have e3 := e 3 (by omega)
      have e4 := e 4 (by omega)
      have e5 := e 5 (by omega)
      have e6 := e 6 (by omega)
      have e7 := e 7 (by omega)
      clear e hg1 hT' c0 c1 c2 c3 c4 c5 c6 c7
      have hl : (addS s r).l = [(s.a + r.a) % 4294967296, (s.b + r.b) % 4294967296, (s.c + r.c) % 4294967296, (s.d + r.d) % 4294967296, (s.e + r.e) % 4294967296, (s.f + r.f) % 4294967296, (s.g + r.g) % 4294967296, (s.h + r.h) % 4294967296] := by
        simp only [addS, St.l, ad, IntKind.wrap_u32]
      have HL := Lib.hid hl
      have hone := arrV_one .u32 (addS s r).l
      clear hl hok
      go_wp2_with (refine wpList_store_row rfl 173 (.tmp 4) (.tmp 127) rfl (w.heap.size + 2) (arrV .u32 (addS s r).l) rfl (by rw [HL.out]; rfl) _ _ HG2.out size48 rfl hone ?_)
      refine bodyPost_ret (v := .agg (arrV .u32 (addS s r).l)) (results_cell_row Tryz.results160 _ _ (w.heap.size + 2) _ (arrV .u32 (addS s r).l) _ _ rfl (setRow_heap wr _ _ _ _ _ HG2.out) Tryz.underlying173 rfl size48) rfl ?_
      exact ⟨by rw [HR.out], below_setRow hbe (by omega) _⟩
end Go.Proofs.YtloibmemlkfkfaaGreatDoor
