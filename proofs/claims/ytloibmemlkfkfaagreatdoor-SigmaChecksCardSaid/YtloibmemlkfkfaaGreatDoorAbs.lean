/-
  What absorbed answers: the state behind whole blocks.
-/
import Derived.Test.YtloibmemlkfkfaaGreatDoorComp
namespace Go.Proofs.YtloibmemlkfkfaaGreatDoor
open Go.RowKit
set_option linter.unusedVariables false
theorem comp_any {b : List Int} {s : St} {w : World} (hT : Tabs w) (hs : s.ok) :
    Calls Tryz.prog 160 #[.agg s.v, .agg (arrV .u32 (sched b))] w fun e w' => e = .returned (.agg (comp s b).v) ∧ Below w.heap.size w w' :=
  compressed_any hT hs (sched_len b)
/-- A piece of a slice. -/
theorem Rd.piece {k : IntKind} {w : World} {b off n : Nat} {xs : List Int} (h : Rd k w (some ⟨b, off, none⟩) n xs) {i m : Nat} (hi : i + m ≤ n) : Rd k w (some ⟨b, off + i, none⟩) m ((xs.drop i).take m) := by
  refine ⟨by rw [List.length_take, List.length_drop, h.len]; omega, fun hm => ?_⟩
  obtain ⟨b', off', e, hb, hc⟩ := h.cells (by omega)
  injection e with e; injection e with e1 e2
  subst e1 e2
  refine ⟨b, off + i, rfl, hb, fun j x hx => ?_⟩
  have hj : j < m := by
    rcases Nat.lt_or_ge j m with g | g
    · exact g
    · rw [List.getElem?_eq_none (by rw [List.length_take]; omega)] at hx; cases hx
  rw [List.getElem?_take_of_lt hj, List.getElem?_drop] at hx
  rw [Nat.add_assoc]
  exact hc (i + j) x hx
theorem Dig.piece {b : Int} {xs : List Int} (h : Dig b xs) (i m : Nat) : Dig b ((xs.drop i).take m) := fun x hx => h x (List.mem_of_mem_drop (List.mem_of_mem_take hx))
/-- A state's cells, one by one. -/
theorem cells8 {W : World} {g : Nat} {t : TypeId} {s : St} (h : Row W g t .u32 s.l) : W.cell? ⟨g, 0, none⟩ = some (.int .u32 s.a) ∧ W.cell? ⟨g, 1, none⟩ = some (.int .u32 s.b) ∧ W.cell? ⟨g, 2, none⟩ = some (.int .u32 s.c) ∧ W.cell? ⟨g, 3, none⟩ = some (.int .u32 s.d) ∧
    W.cell? ⟨g, 4, none⟩ = some (.int .u32 s.e) ∧ W.cell? ⟨g, 5, none⟩ = some (.int .u32 s.f) ∧ W.cell? ⟨g, 6, none⟩ = some (.int .u32 s.g) ∧ W.cell? ⟨g, 7, none⟩ = some (.int .u32 s.h) :=
  ⟨h.cell rfl, h.cell rfl, h.cell rfl, h.cell rfl, h.cell rfl, h.cell rfl, h.cell rfl, h.cell rfl⟩
/-- A state is stored. -/
theorem store8 {W : World} {g : Nat} {t : TypeId} {s : St} (h : Row W g t .u32 s.l) (r : St) : (storeCells ⟨g, 0, none⟩ r.v.toList).run Tryz.prog W = .ok () (W.setRow g r.v) := by
  have := run_storeCells_from (P := Tryz.prog) g t r.v.toList 0 _ W h (by simp [St.v, St.l]) (fun v hv => (Array.all_eq_true_iff_forall_mem.1 (arrV_one .u32 r.l)) v (by simpa [arrV, St.v] using hv))
  simpa using this
theorem Tabs.setRow {w : World} (h : Tabs w) {g : Nat} (hg : 0 < g ∧ 1 < g) (cs : Array Value) : Tabs (w.setRow g cs) := by
  obtain ⟨⟨t, h1⟩, ⟨u, h2⟩⟩ := h
  exact ⟨⟨t, by rw [setRow_other _ _ _ _ (by omega)]; exact h1⟩, ⟨u, by rw [setRow_other _ _ _ _ (by omega)]; exact h2⟩⟩
theorem Tabs.lt0 {w : World} (h : Tabs w) : 0 < w.heap.size := by
  obtain ⟨t, h2⟩ := h.start
  exact (Array.getElem?_eq_some_iff.1 h2).1
def AbR (l : List Int) (s : St) (w : World) (i : Value) (wr : World) : Prop :=
  ∃ j : Nat, 64 * j ≤ l.length ∧ i = .int .i64 ((64 * j : Nat) : Int) ∧ Row wr w.heap.size 173 .u32 (absb s l j).l ∧ Row wr (w.heap.size + 1) 173 .u32 [0, 0, 0, 0, 0, 0, 0, 0] ∧ Tabs wr ∧ Below w.heap.size w wr
set_option maxHeartbeats 8000000 in
set_option maxRecDepth 100000 in
theorem absorbed_any {A : Option Addr} {c q : Nat} {l : List Int} {s : St} {w : World} (hT : Tabs w) (hs : s.ok) (hr : Rd .u8 w A (64 * q) l) (hd : Dig 256 l) (hc : 64 * q ≤ c) (hq : q ≤ 4398046511104) :
    Calls Tryz.prog 153 #[.agg s.v, .slice A (64 * q) c] w fun e w' => e = .returned (.agg (absb s l q).v) ∧ Below w.heap.size w w' := by
  obtain ⟨V, hV⟩ : ∃ V, V = s.v := ⟨_, rfl⟩
  obtain ⟨n, hn⟩ : ∃ n, 64 * q = n := ⟨_, rfl⟩
  rw [← hV]
  rw [hn] at hr hc ⊢
  have HV := Lib.hid hV
  have HN := Lib.hid hn
  have hl := hr.len
  have HL := Lib.hid hl
  clear hV hn hl
  go_enter Tryz.func153, Tryz.ntmps153
  go_wp2_with fail
  go_loopw [5] (fun i wr => AbR l s w i wr) (fun i _ => n - (intOf i).toNat)
  case atStart =>
    refine ⟨0, by omega, rfl, ?_, ?_, (hT.alloc _).alloc _, ((Below.refl _ _).alloc (Nat.le_refl _) _).alloc (by simp) _⟩
    · rw [HV.out]
      exact (Row.new w 173 .u32 s.l).alloc _
    · have h1 := Row.new (w.alloc (.cells V 173)) 173 .u32 [0, 0, 0, 0, 0, 0, 0, 0]
      rw [show (w.alloc (.cells V 173)).heap.size = w.heap.size + 1 by simp] at h1
      exact h1
  case round =>
    obtain ⟨j, hj, rfl, hr0, hr1, hT', hbe⟩ := hrel
    rcases Nat.lt_or_ge j q with hlt | hge
    · have hok := absb_ok hs l j
      obtain ⟨sj, hsj⟩ : ∃ sj, absb s l j = sj := ⟨_, rfl⟩
      rw [hsj] at hr0 hok
      obtain ⟨blk, hblk⟩ : ∃ blk, (l.drop (64 * j)).take 64 = blk := ⟨_, rfl⟩
      have hrw := hr.below hbe
      have hN := HN.out
      obtain ⟨b, off, rfl, hb, -⟩ := hrw.cells (by omega)
      have hp := hrw.piece (i := 64 * j) (m := 64) (by omega)
      have hdp := hd.piece (64 * j) 64
      rw [hblk] at hp hdp
      have HSJ := Lib.hid (show absb s l (j + 1) = comp sj blk by rw [← hsj, ← hblk]; rfl)
      obtain ⟨at', hat⟩ : ∃ a : Nat, 64 * j = a := ⟨_, rfl⟩
      rw [hat] at hp
      have t1 : (at' : Int) < (n : Int) := by omega
      have t2 : (at' : Int) + 64 ≤ (n : Int) := by omega
      have t3 : at' < c := by omega
      have t4 : (at' : Int) + 64 ≤ (c : Int) := by omega
      have t5 : ¬ c = at' := by omega
      have t6 : at' + 64 ≤ c := by omega
      have t7 : (at' : Int) ≤ 281474976710656 := by omega
      have HR0 := Lib.hid hr0
      have HR1 := Lib.hid hr1
      have HT := Lib.hid hT'
      have HP := Lib.hid hp
      have HAT := Lib.hid hat
      have HJ := Lib.hid (show 64 * (j + 1) ≤ l.length by have := HL.out; omega)
      rw [hat]
      clear hsj hblk hr0 hr1 hT' hp hat hN hj hlt hrw
      go_wp2_with fail
      obtain ⟨l0, l1, l2, l3, l4, l5, l6, l7⟩ := cells8 HR0.out
      have z3 := St.v_size (comp sj blk)
      have hat64 : IntKind.i64.wrap ((at' : Int) + 64) = (at' : Int) + 64 := IntWalk.i64_in _ (by have := HN.out; omega)
      go_region_with (first
        | (go_at_call 161; refine (scheduled_any HP.out.drew hdp).mono ?_; rintro e w2 ⟨rfl, hb2⟩; have HRR := Lib.hid (HR0.out.drew.below hb2 (Row.lt HR0.out.drew)); obtain ⟨m0, m1, m2, m3, m4, m5, m6, m7⟩ := cells8 HRR.out; have HB2 := Lib.hid hb2; clear hb2)
        | (go_at_call 160; refine (comp_any (HT.out.drew.below HB2.out) hok).mono ?_; rintro e w3 ⟨rfl, hb3⟩; have hst := store8 (HRR.out.below hb3 (Row.lt HRR.out)) (comp sj blk); have HB3 := Lib.hid hb3; clear hb3))
      all_goals
        clear hat64
        go_wp2
        go_roundw
        case rel =>
          have b2 := hbe.drew.trans (HB2.out.mono hbe.drew.size)
          have b3 := b2.trans (HB3.out.mono b2.size)
          have hr3 := HRR.out.below HB3.out (Row.lt HRR.out)
          have t3 := (HT.out.drew.below HB2.out).below HB3.out
          have o3 := ((HR1.out.drew.below HB2.out (Row.lt HR1.out.drew)).below HB3.out (Row.lt (HR1.out.drew.below HB2.out (Row.lt HR1.out.drew))))
          refine ⟨j + 1, HJ.out, ?_, ?_, ?_, ?_, below_setRow b3 (Nat.le_refl _) _⟩
          · have := HAT.out
            refine congrArg (Value.int .i64) ?_
            omega
          · rw [HSJ.out]; exact hr3.setRow _
          · unfold Row; rw [setRow_other _ _ _ _ (by omega)]; exact o3
          · exact t3.setRow ⟨hT.lt0, hT.lt⟩ _
        case measure => simp [intOf]; omega
    · have hjq : j = q := by have := HL.out; have := HN.out; omega
      rw [hjq] at hr0
      rw [hjq, HN.out]
      have HR0 := Lib.hid hr0
      have HR1 := Lib.hid hr1
      have hone := arrV_one .u32 (absb s l q).l
      clear hjq hr0 hr1 hge hj
      go_wp2_with (first | (refine wpList_load_row rfl 173 (.tmp 2) rfl w.heap.size rfl _ (arrV .u32 (absb s l q).l) _ _ HR0.out Tryz.underlying173 rfl size48 ?_) | (refine wpList_store_row rfl 173 (.tmp 4) (.tmp 20) rfl (w.heap.size + 1) (arrV .u32 (absb s l q).l) rfl rfl _ _ HR1.out size48 rfl hone ?_))
      refine bodyPost_ret (v := .agg (arrV .u32 (absb s l q).l)) (results_cell_row Tryz.results153 _ _ (w.heap.size + 1) _ (arrV .u32 (absb s l q).l) _ _ rfl (setRow_heap wr _ _ _ _ _ HR1.out) Tryz.underlying173 rfl size48) rfl ?_
      exact ⟨rfl, below_setRow hbe (by omega) _⟩
end Go.Proofs.YtloibmemlkfkfaaGreatDoor
