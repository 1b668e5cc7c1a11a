/-
  Several texts in one: Schd, Comp, Abs, Dgs, Frm, Owb, Cnc.
-/
import Derived.Test.YtjalncdllegfoaaDoorHsa
import Derived.Deep.QuietTactic
import Derived.BigQuiet
import Derived.RegionTactic
import Derived.BigRegion
import Derived.IntWalk
import Derived.Test.YtjalncdllegfoaaDoorMxx
import Derived.Lib.AppendZerosOnto
/-
  What scheduled answers: the words of a block, drawn out to 64.
-/
namespace Go.Proofs.YtjalncdllegfoaaDoor
open Go.RowKit
set_option linter.unusedVariables false
theorem set_next {l : List Int} {k m : Nat} (hl : l.length = k) (x : Int) : (l ++ List.replicate (m + 1) 0).set k x = (l ++ [x]) ++ List.replicate m 0 := by
  rw [List.set_append_right _ _ (by omega), hl, Nat.sub_self, List.replicate_succ]
  simp
theorem dig_app {l m : List Int} {j : Nat} (h : j < l.length) : dig (l ++ m) j = dig l j := by
  unfold dig
  rw [List.getD_eq_getElem?_getD, List.getD_eq_getElem?_getD, List.getElem?_append_left h]
/-- Four bytes, shifted and put together. -/
theorem or_word {a b c d : Int} (ha : 0 ≤ a ∧ a < 256) (hb : 0 ≤ b ∧ b < 256) (hc : 0 ≤ c ∧ c < 256) (hd : 0 ≤ d ∧ d < 256) :
    bits .or .u32 (bits .or .u32 (bits .or .u32 (a * 16777216) (b * 65536)) (c * 256)) d = ((a * 256 + b) * 256 + c) * 256 + d := by
  rw [bits_join .u32 32 (by decide) wraps_u32 24 (a * 16777216) (b * 65536) (by omega) (by omega) (by omega) (by omega) (by omega) (by omega)]
  rw [bits_join .u32 32 (by decide) wraps_u32 16 (a * 16777216 + b * 65536) (c * 256) (by omega) (by omega) (by omega) (by omega) (by omega) (by omega)]
  rw [bits_join .u32 32 (by decide) wraps_u32 8 (a * 16777216 + b * 65536 + c * 256) d (by omega) (by omega) (by omega) (by omega) (by omega) (by omega)]
  omega
theorem ad4 (a b c d : Int) : ad (ad (ad a b) c) d = (a + b + c + d) % 4294967296 := by
  unfold ad; rw [IntKind.wrap_u32, IntKind.wrap_u32, IntKind.wrap_u32]; omega
theorem Row.cut {w : World} {g : Nat} {t : TypeId} {k : IntKind} {xs : List Int} (h : Row w g t k xs) {a : Addr} (hne : g ≠ a.block) (v : Value) : Row (w.setCell a v) g t k xs := (Below.heap_setCell w a v g hne).trans h
theorem size66 : (Tryd.prog.info? 121).map (·.size) = some 64 := by kernel_rfl
def SdR1 (blk : List Int) (w : World) (i : Value) (wr : World) : Prop :=
  ∃ k : Nat, k ≤ 16 ∧ i = .int .i64 k ∧ Row wr w.heap.size 121 .u32 (List.replicate 64 0) ∧ Row wr (w.heap.size + 1) 121 .u32 (bwN blk k ++ List.replicate (64 - k) 0) ∧ Below w.heap.size w wr
def SdR2 (blk : List Int) (w : World) (i : Value) (wr : World) : Prop :=
  ∃ n k : Nat, n = k + 16 ∧ n ≤ 64 ∧ i = .int .i64 n ∧ Row wr w.heap.size 121 .u32 (List.replicate 64 0) ∧ Row wr (w.heap.size + 1) 121 .u32 (ext (bwN blk 16) k ++ List.replicate (64 - n) 0) ∧ Below w.heap.size w wr
/-- An array's cells are answered. -/
def AnsA (k : IntKind) (l : List Int) (w : World) (e : Ending) (w' : World) : Prop := e = .returned (.agg (arrV k l)) ∧ Below w.heap.size w w'
set_option maxHeartbeats 8000000 in
set_option maxRecDepth 100000 in
theorem scheduled_any {A : Option Addr} {c : Nat} {blk : List Int} {w : World} (hr : Rd .u8 w A 64 blk) (hd : Dig 256 blk) :
    Calls Tryd.prog 82 #[.slice A 64 c] w (AnsA .u32 (sched blk) w) := by
  obtain ⟨b, off, rfl, hb, hc⟩ := hr.cells (by omega)
  have hl := hr.len
  have HC := Lib.hid hc
  have HL := Lib.hid hl
  have HD := Lib.hid hd
  clear hc hl hd
  go_enter Tryd.func82, Tryd.ntmps82
  go_wp2_with fail
  go_loopw [10] (fun i wr => SdR1 blk w i wr) (fun i _ => 16 - (intOf i).toNat)
  case atStart =>
    have hr := Row.new (w.alloc (.cells ((List.replicate 64 0).map (Value.int .u32)).toArray 121)) 121 .u32 (List.replicate 64 0)
    rw [show (w.alloc (.cells ((List.replicate 64 0).map (Value.int .u32)).toArray 121)).heap.size = w.heap.size + 1 by simp] at hr
    exact ⟨0, by omega, rfl, (Row.new w 121 .u32 (List.replicate 64 0)).alloc _, hr, ((Below.refl _ _).alloc (Nat.le_refl _) _).alloc (by simp) _⟩
  case round =>
    obtain ⟨k, hk, rfl, hr0, hr1, hbe⟩ := hrel
    rcases Nat.lt_or_ge k 16 with hlt | hge
    · obtain ⟨x0, hx0⟩ : ∃ x, dig blk (4 * k) = x := ⟨_, rfl⟩
      obtain ⟨x1, hx1⟩ : ∃ x, dig blk (4 * k + 1) = x := ⟨_, rfl⟩
      obtain ⟨x2, hx2⟩ : ∃ x, dig blk (4 * k + 2) = x := ⟨_, rfl⟩
      obtain ⟨x3, hx3⟩ : ∃ x, dig blk (4 * k + 3) = x := ⟨_, rfl⟩
      have hl := HL.out
      have c0 := (hbe.cell (p := ⟨b, off + (4 * k), none⟩) hb).trans (HC.out _ _ (getElem?_dig (show 4 * k < blk.length by omega)))
      have c1 := (hbe.cell (p := ⟨b, off + (4 * k + 1), none⟩) hb).trans (HC.out _ _ (getElem?_dig (show 4 * k + 1 < blk.length by omega)))
      have c2 := (hbe.cell (p := ⟨b, off + (4 * k + 2), none⟩) hb).trans (HC.out _ _ (getElem?_dig (show 4 * k + 2 < blk.length by omega)))
      have c3 := (hbe.cell (p := ⟨b, off + (4 * k + 3), none⟩) hb).trans (HC.out _ _ (getElem?_dig (show 4 * k + 3 < blk.length by omega)))
      have d0 := dig_bd (b := 256) (by decide) HD.out (4 * k)
      have d1 := dig_bd (b := 256) (by decide) HD.out (4 * k + 1)
      have d2 := dig_bd (b := 256) (by decide) HD.out (4 * k + 2)
      have d3 := dig_bd (b := 256) (by decide) HD.out (4 * k + 3)
      rw [hx0] at c0 d0
      rw [hx1] at c1 d1
      rw [hx2] at c2 d2
      rw [hx3] at c3 d3
      have HW := Lib.hid (show wdAt blk k = ((x0 * 256 + x1) * 256 + x2) * 256 + x3 by unfold wdAt; rw [hx0, hx1, hx2, hx3])
      have HOR := Lib.hid (or_word d0 d1 d2 d3)
      clear hx0 hx1 hx2 hx3 hl
      have hzl : (bwN blk k ++ List.replicate (64 - k) 0).length = 64 := by rw [List.length_append, bwN_len, List.length_replicate]; omega
      have fz := hr1.frozen k
      have cz := hr1.cell (getElem?_dig (show k < (bwN blk k ++ List.replicate (64 - k) 0).length by omega))
      generalize dig (bwN blk k ++ List.replicate (64 - k) 0) k = old at cz
      have HR0 := Lib.hid hr0
      have HR1 := Lib.hid hr1
      have hnb : b ≠ w.heap.size + 1 := by omega
      have i0 : (4 * (k : Int)) < 64 := by omega
      have i1 : (4 * (k : Int)) + 1 < 64 := by omega
      have i2 : (4 * (k : Int)) + 2 < 64 := by omega
      have i3 : (4 * (k : Int)) + 3 < 64 := by omega
      clear hr0 hr1 hzl
      go_wp2_with fail
      go_region
      all_goals
        go_wp2
        go_roundw
        case rel =>
          refine ⟨k + 1, by omega, by go_num, (HR0.out.cut (by show w.heap.size ≠ w.heap.size + 1; omega) _).drew, ?_, (hbe.setCell (by show w.heap.size ≤ w.heap.size + 1; omega) _).drew⟩
          have h := HR1.out.set k (wdAt blk k)
          obtain ⟨m, hm⟩ : ∃ m, 64 - k = m + 1 := ⟨64 - k - 1, by omega⟩
          rw [hm, set_next (bwN_len blk k), ← bwN_succ, show m = 64 - (k + 1) by omega, HW.out, ← HOR.out] at h
          exact h.drew
        case measure => simp [intOf]; omega
    · have hk16 : decide ((k : Int) < 16) = false := by simp; omega
      have hke : k = 16 := by omega
      rw [hke] at hr1
      clear hb hge hk hke
      have HR0 := Lib.hid hr0
      have HR1 := Lib.hid hr1
      have HBE := Lib.hid hbe
      clear hr0 hr1 hbe
      go_wp2_with fail
      go_loopw [5] (fun i wr => SdR2 blk w i wr) (fun i _ => 64 - (intOf i).toNat)
      case atStart => exact ⟨16, 0, rfl, by omega, rfl, HR0.out, HR1.out, HBE.out⟩
      case round =>
        clear HR0 HR1 HBE
        clear hk16
        obtain ⟨n, k, hnk, hn, rfl, hr0, hr1, hbe⟩ := hrel
        have hel : (ext (bwN blk 16) k).length = n := by rw [ext_len, bwN_len]; omega
        rcases Nat.lt_or_ge n 64 with hlt | hge
        · have hn16 : 16 ≤ n := by omega
          obtain ⟨p15, h15⟩ : ∃ p, p + 15 = n := ⟨n - 15, by omega⟩
          obtain ⟨p2, h2⟩ : ∃ p, p + 2 = n := ⟨n - 2, by omega⟩
          obtain ⟨p16, h16⟩ : ∃ p, p + 16 = n := ⟨n - 16, by omega⟩
          obtain ⟨p7, h7⟩ : ∃ p, p + 7 = n := ⟨n - 7, by omega⟩
          have hwd : Wds (ext (bwN blk 16) k) := ext_wds (bwN_wds HD.out 16) k
          have cell : ∀ j, j < n → wr.cell? ⟨w.heap.size + 1, j, none⟩ = some (.int .u32 (dig (ext (bwN blk 16) k) j)) := fun j hj => by
            rw [← dig_app (m := List.replicate (64 - n) 0) (by omega)]
            exact hr1.cell (getElem?_dig (by rw [List.length_append, List.length_replicate]; omega))
          have c15 := cell p15 (by omega)
          have c2 := cell p2 (by omega)
          have c16 := cell p16 (by omega)
          have c7 := cell p7 (by omega)
          have w15 := dig_wd hwd p15
          have w2 := dig_wd hwd p2
          have HN := Lib.hid (show nxt (ext (bwN blk 16) k) = ad (ad (ad (dig (ext (bwN blk 16) k) p16) (sg0 (dig (ext (bwN blk 16) k) p15))) (dig (ext (bwN blk 16) k) p7)) (sg1 (dig (ext (bwN blk 16) k) p2)) by
            unfold nxt
            rw [hel, show n - 16 = p16 by omega, show n - 15 = p15 by omega, show n - 7 = p7 by omega, show n - 2 = p2 by omega])
          have g15 : (n : Int) - 15 = (p15 : Int) := by omega
          have g2 : (n : Int) - 2 = (p2 : Int) := by omega
          have g16 : (n : Int) - 16 = (p16 : Int) := by omega
          have g7 : (n : Int) - 7 = (p7 : Int) := by omega
          have l15 : (p15 : Int) < 64 := by omega
          have l2 : (p2 : Int) < 64 := by omega
          have l16 : (p16 : Int) < 64 := by omega
          have l7 : (p7 : Int) < 64 := by omega
          have v15 : IntKind.i64.wrap (p15 : Int) = (p15 : Int) := IntWalk.i64_in _ (by omega)
          have v2 : IntKind.i64.wrap (p2 : Int) = (p2 : Int) := IntWalk.i64_in _ (by omega)
          have v16 : IntKind.i64.wrap (p16 : Int) = (p16 : Int) := IntWalk.i64_in _ (by omega)
          have v7 : IntKind.i64.wrap (p7 : Int) = (p7 : Int) := IntWalk.i64_in _ (by omega)
          have hzl : (ext (bwN blk 16) k ++ List.replicate (64 - n) 0).length = 64 := by rw [List.length_append, hel, List.length_replicate]; omega
          have fz := hr1.frozen n
          have cz := hr1.cell (getElem?_dig (show n < (ext (bwN blk 16) k ++ List.replicate (64 - n) 0).length by omega))
          generalize dig (ext (bwN blk 16) k ++ List.replicate (64 - n) 0) n = old at cz
          have HNK := Lib.hid hnk
          have HEL := Lib.hid hel
          generalize dig (ext (bwN blk 16) k) p15 = y15 at *
          generalize dig (ext (bwN blk 16) k) p2 = y2 at *
          generalize dig (ext (bwN blk 16) k) p16 = y16 at *
          generalize dig (ext (bwN blk 16) k) p7 = y7 at *
          have HR0 := Lib.hid hr0
          have HR1 := Lib.hid hr1
          clear cell hr0 hr1 hzl hnk hel h15 h2 h16 h7 hwd
          go_wp2_with fail
          go_quiet (fail)
          go_wp2_with fail
          refine (right_lit 7 rfl (by omega) (by omega) y15 w15 _).mono ?_
          rintro e w1 ⟨rfl, rfl⟩
          go_wp2_with fail
          refine (right_lit 18 rfl (by omega) (by omega) y15 w15 _).mono ?_
          rintro e w1 ⟨rfl, rfl⟩
          go_wp2_with fail
          refine (right_lit 17 rfl (by omega) (by omega) y2 w2 _).mono ?_
          rintro e w1 ⟨rfl, rfl⟩
          go_wp2_with fail
          refine (right_lit 19 rfl (by omega) (by omega) y2 w2 _).mono ?_
          rintro e w1 ⟨rfl, rfl⟩
          go_wp2_with fail
          go_region
          all_goals
            go_wp2
            go_roundw
            case rel =>
              refine ⟨n + 1, k + 1, by have := HNK.out; omega, by omega, by go_num, (HR0.out.drewN _).cut (by show w.heap.size ≠ w.heap.size + 1; omega) _, ?_, (below_drewN hbe _).setCell (by show w.heap.size ≤ w.heap.size + 1; omega) _⟩
              have h := (HR1.out.drewN (nq + 1)).set n (nxt (ext (bwN blk 16) k))
              obtain ⟨m, hm⟩ : ∃ m, 64 - n = m + 1 := ⟨64 - n - 1, by omega⟩
              rw [hm, set_next HEL.out, show m = 64 - (n + 1) by omega, HN.out, ad4] at h
              rw [show ext (bwN blk 16) (k + 1) = ext (bwN blk 16) k ++ [nxt (ext (bwN blk 16) k)] from rfl, HN.out, ad4]
              exact h
            case measure => simp [intOf]; omega
        · obtain rfl : n = 64 := by omega
          obtain rfl : k = 48 := by omega
          have HR0 := Lib.hid hr0
          have HR1 := Lib.hid (show Row wr (w.heap.size + 1) 121 .u32 (sched blk) by rw [show 64 - 64 = 0 from rfl, List.replicate_zero, List.append_nil] at hr1; exact hr1)
          have HSZ := Lib.hid (show (arrV .u32 (sched blk)).size = 64 by rw [arrV_size, sched_len])
          have hone := arrV_one .u32 (sched blk)
          clear hr0 hr1 hel hnk
          obtain ⟨V, hV⟩ : ∃ V, arrV .u32 (sched blk) = V := ⟨_, rfl⟩
          have HG1 := Lib.hid (show wr.heap[w.heap.size + 1]? = some (.cells V 121 (0, 0)) by rw [← hV]; exact HR1.out)
          have HG0 := Lib.hid (show wr.heap[w.heap.size]? = some (.cells (arrV .u32 (List.replicate 64 0)) 121 (0, 0)) from HR0.out)
          rw [hV] at HSZ hone
          have HV := Lib.hid hV
          clear hV HR1 HR0
          go_wp2_with (first | (refine wpList_load_row rfl 121 (.tmp 3) rfl (w.heap.size + 1) rfl _ V _ _ HG1.out Tryd.underlying121 rfl ?h1 ?_) | (refine wpList_store_row rfl 121 (.tmp 2) (.tmp 92) rfl w.heap.size V rfl rfl _ _ HG0.out ?h2 ?h3 hone ?_))
          case h1 => rw [HSZ.out]; exact size66
          case h2 => rw [HSZ.out]; exact size66
          case h3 => rw [HSZ.out]; rfl
          refine bodyPost_ret (v := .agg V) (results_cell_row Tryd.results82 _ _ w.heap.size _ V _ _ rfl (setRow_heap wr _ _ V _ _ HG0.out) Tryd.underlying121 rfl (by rw [HSZ.out]; exact size66)) rfl ?_
          exact ⟨by rw [HV.out], below_setRow hbe (Nat.le_refl _) _⟩
end Go.Proofs.YtjalncdllegfoaaDoor
/-
  What compressed answers: the state behind the rounds of one block.
-/
namespace Go.Proofs.YtjalncdllegfoaaDoor
open Go.RowKit
set_option linter.unusedVariables false
/-- The two tables of the program, as they are laid. -/
structure Tabs (w : World) : Prop where
  start : ∃ t, w.heap[0]? = some (.cells H0.v t (0, 0))
  round : ∃ t, w.heap[1]? = some (.cells (arrV .u32 KT) t (0, 0))
theorem Tabs.below {w w' : World} (h : Tabs w) (hb : Below w.heap.size w w') : Tabs w' := by
  obtain ⟨⟨t, h1⟩, ⟨u, h2⟩⟩ := h
  exact ⟨⟨t, (hb.block _ (Array.getElem?_eq_some_iff.1 h1).1).trans h1⟩, ⟨u, (hb.block _ (Array.getElem?_eq_some_iff.1 h2).1).trans h2⟩⟩
theorem Tabs.drew {w : World} (h : Tabs w) : Tabs w.drew := ⟨h.start, h.round⟩
theorem Tabs.drewN {w : World} (h : Tabs w) (n : Nat) : Tabs (w.drewN n) := ⟨h.start, h.round⟩
theorem Tabs.alloc {w : World} (h : Tabs w) (o : Obj) : Tabs (w.alloc o) := h.below ((Below.refl _ _).alloc (Nat.le_refl _) _)
theorem Tabs.at_ {w : World} (h : Tabs w) {k : Nat} (hk : k < 64) : w.cell? ⟨1, k, none⟩ = some (.int .u32 (dig KT k)) := by
  obtain ⟨t, h2⟩ := h.round
  rw [cell_of_row w _ k _ t (0, 0) h2]
  exact arrV_at .u32 KT (by rw [KT_len]; exact hk)
theorem Tabs.lt {w : World} (h : Tabs w) : 1 < w.heap.size := by
  obtain ⟨t, h2⟩ := h.round
  exact (Array.getElem?_eq_some_iff.1 h2).1
theorem right_q (n : Nat) {v : Int} (hv : v = n) (h1 : 1 ≤ n) (h2 : n ≤ 31) (x : Int) (hx : Wd x) (w : World) :
    Calls Tryd.prog 96 #[.int .u32 x, .int .i64 v] w fun e w' => e = .returned (.int .u32 (rot n x)) ∧ w' = w :=
  (right_lit n hv h1 h2 x hx w).mono fun _ _ h => ⟨h.1, h.2.symm⟩
theorem t1f_eq (k w : Int) (s : St) : t1f k w s = (s.h + suE s.e + chE s.e s.f s.g + k + w) % 4294967296 := by
  unfold t1f ad; rw [IntKind.wrap_u32, IntKind.wrap_u32, IntKind.wrap_u32, IntKind.wrap_u32]; omega
theorem t2f_eq (s : St) : t2f s = (suA s.a + mjA s.a s.b s.c) % 4294967296 := by
  unfold t2f ad; rw [IntKind.wrap_u32]
def CmR (M : List Int) (s : St) (w : World) (a b c d e f g h i : Value) (wr : World) : Prop :=
  ∃ (k : Nat) (r : St), k ≤ 64 ∧ i = .int .i64 k ∧ r = rnds KT M s k ∧ a = .int .u32 r.a ∧ b = .int .u32 r.b ∧ c = .int .u32 r.c ∧ d = .int .u32 r.d ∧ e = .int .u32 r.e ∧ f = .int .u32 r.f ∧ g = .int .u32 r.g ∧ h = .int .u32 r.h ∧
    wr.heap[w.heap.size]? = some (.cells s.v 107 (0, 0)) ∧ wr.heap[w.heap.size + 1]? = some (.cells (arrV .u32 M) 121 (0, 0)) ∧ Row wr (w.heap.size + 2) 107 .u32 [0, 0, 0, 0, 0, 0, 0, 0] ∧ Tabs wr ∧ Below w.heap.size w wr
set_option maxHeartbeats 8000000 in
set_option maxRecDepth 100000 in
theorem compressed_any {M : List Int} {s : St} {w : World} (hT : Tabs w) (hs : s.ok) (hM : M.length = 64) :
    Calls Tryd.prog 81 #[.agg s.v, .agg (arrV .u32 M)] w (AnsA .u32 (addS s (rnds KT M s 64)).l w) := by
  have h0 := heap_alloc_new w (.cells s.v 107)
  obtain ⟨V, hV⟩ : ∃ V, V = s.v := ⟨_, rfl⟩
  obtain ⟨Y, hY⟩ : ∃ Y, Y = arrV .u32 M := ⟨_, rfl⟩
  have hc : ∀ j, j < 8 → V[j]? = some (.int .u32 (dig s.l j)) := fun j hj => by rw [hV]; exact s.v_at hj
  have c0 := hc 0 (by omega)
  have c1 := hc 1 (by omega)
  have c2 := hc 2 (by omega)
  have c3 := hc 3 (by omega)
  have c4 := hc 4 (by omega)
  have c5 := hc 5 (by omega)
  have c6 := hc 6 (by omega)
  have c7 := hc 7 (by omega)
  rw [← hV, ← hY]
  have HV := Lib.hid hV
  have HY := Lib.hid hY
  clear hV hY h0 hc
  go_enter Tryd.func81, Tryd.ntmps81
  go_wp2_with fail
  go_quiet (fail)
  go_wp2_with fail
  go_quiet (fail)
  go_wp2_with fail
  go_loopw [5, 6, 7, 8, 9, 10, 11, 12, 32] (fun a b c d e f g h i wr => CmR M s w a b c d e f g h i wr) (fun _ _ _ _ _ _ _ _ i _ => 64 - (intOf i).toNat)
  case atStart =>
    refine ⟨0, s, by omega, rfl, rfl, rfl, rfl, rfl, rfl, rfl, rfl, rfl, rfl, ?_, ?_, ?_, ?_, ?_⟩
    · have h1 := heap_alloc_new w (.cells V 107)
      have h2 := (Below.heap_alloc (w.alloc (.cells V 107)) (.cells Y 121) w.heap.size (by simp)).trans h1
      rw [← HV.out]
      exact (Below.heap_alloc _ (.cells ([0, 0, 0, 0, 0, 0, 0, 0].map (Value.int .u32)).toArray 107) w.heap.size (by simp; omega)).trans h2
    · have h1 := heap_alloc_new (w.alloc (.cells V 107)) (.cells Y 121)
      rw [show (w.alloc (.cells V 107)).heap.size = w.heap.size + 1 by simp] at h1
      rw [← HY.out]
      exact (Below.heap_alloc _ (.cells ([0, 0, 0, 0, 0, 0, 0, 0].map (Value.int .u32)).toArray 107) (w.heap.size + 1) (by simp)).trans h1
    · have h1 := Row.new ((w.alloc (.cells V 107)).alloc (.cells Y 121)) 107 .u32 [0, 0, 0, 0, 0, 0, 0, 0]
      rw [show ((w.alloc (.cells V 107)).alloc (.cells Y 121)).heap.size = w.heap.size + 2 by simp] at h1
      exact h1
    · exact ((((hT.alloc _).alloc _).alloc _).drewN _).drewN _
    · exact below_drewN (below_drewN ((((Below.refl _ _).alloc (Nat.le_refl _) _).alloc (by simp) _).alloc (by simp; omega) _) _) _
  case round =>
    obtain ⟨k, r, hk, rfl, hr, rfl, rfl, rfl, rfl, rfl, rfl, rfl, rfl, hg0, hg1, hg2, hT', hbe⟩ := hrel
    have hok : r.ok := by rw [hr]; exact rnds_ok hs k
    have HR := Lib.hid hr
    have HG0 := Lib.hid hg0
    have HG1 := Lib.hid hg1
    have HG2 := Lib.hid hg2
    clear hr hg0 hg2
    rcases Nat.lt_or_ge k 64 with hlt | hge
    · have wa := hok.1
      have we := hok.2.2.2.2.1
      have tk := hT'.at_ hlt
      have mk := (cell_of_row wr (w.heap.size + 1) k _ _ _ hg1).trans (arrV_at .u32 M (by rw [hM]; exact hlt))
      have HT := Lib.hid hT'
      have hsg : IntKind.u32.signed = false := rfl
      obtain ⟨kk, hkk⟩ : ∃ kk, dig KT k = kk := ⟨_, rfl⟩
      obtain ⟨mm, hmm⟩ : ∃ mm, dig M k = mm := ⟨_, rfl⟩
      rw [hkk] at tk
      rw [hmm] at mk
      have HKK := Lib.hid hkk
      have HMM := Lib.hid hmm
      have hki : (k : Int) < 64 := by omega
      clear hkk hmm hg1 hok hT'
      go_wp2_with fail
      go_quiet ((go_at_call 96; first | exact Calls.quiet_of_same (right_q 6 rfl (by omega) (by omega) r.e we _) | exact Calls.quiet_of_same (right_q 11 rfl (by omega) (by omega) r.e we _) | exact Calls.quiet_of_same (right_q 25 rfl (by omega) (by omega) r.e we _)))
      go_wp2_with fail
      refine (right_lit 2 rfl (by omega) (by omega) r.a wa _).mono ?_
      rintro e w1 ⟨rfl, rfl⟩
      go_wp2_with fail
      refine (right_lit 13 rfl (by omega) (by omega) r.a wa _).mono ?_
      rintro e w1 ⟨rfl, rfl⟩
      go_wp2_with fail
      refine (right_lit 22 rfl (by omega) (by omega) r.a wa _).mono ?_
      rintro e w1 ⟨rfl, rfl⟩
      go_wp2_with fail
      go_roundw
      case rel =>
        refine ⟨k + 1, rnd kk mm r, by omega, by go_num, ?_, ?_, rfl, rfl, rfl, ?_, rfl, rfl, rfl, HG0.out, HG1.out, HG2.out.drewN _, HT.out.drewN _, below_drewN hbe _⟩
        · rw [HR.out, ← HKK.out, ← HMM.out]; rfl
        · refine congrArg (Value.int .u32) ?_
          show _ = ad (t1f kk mm r) (t2f r)
          rw [t1f_eq, t2f_eq]; unfold ad; rw [IntKind.wrap_u32]; rfl
        · refine congrArg (Value.int .u32) ?_
          show _ = ad r.d (t1f kk mm r)
          rw [t1f_eq]; unfold ad; rw [IntKind.wrap_u32]; rfl
      case measure => simp [intOf]; omega
    · obtain rfl : k = 64 := by omega
      have e : ∀ j, j < 8 → wr.cell? ⟨w.heap.size, j, none⟩ = some (.int .u32 (dig s.l j)) := fun j hj => (cell_of_row wr w.heap.size j _ _ _ HG0.out).trans (s.v_at hj)
      have e0 := e 0 (by omega)
      have e1 := e 1 (by omega)
      have e2 := e 2 (by omega)
      have e3 := e 3 (by omega)
      have e4 := e 4 (by omega)
      have e5 := e 5 (by omega)
      have e6 := e 6 (by omega)
      have e7 := e 7 (by omega)
      clear e hg1 hT' c0 c1 c2 c3 c4 c5 c6 c7
      have hl : (addS s r).l = [(s.a + r.a) % 4294967296, (s.b + r.b) % 4294967296, (s.c + r.c) % 4294967296, (s.d + r.d) % 4294967296, (s.e + r.e) % 4294967296, (s.f + r.f) % 4294967296, (s.g + r.g) % 4294967296, (s.h + r.h) % 4294967296] := by
        simp only [addS, St.l, ad, IntKind.wrap_u32]
      have HL := Lib.hid hl
      have hone := arrV_one .u32 (addS s r).l
      clear hl hok
      go_wp2_with (refine wpList_store_row rfl 107 (.tmp 4) (.tmp 127) rfl (w.heap.size + 2) (arrV .u32 (addS s r).l) rfl (by rw [HL.out]; rfl) _ _ HG2.out size48 rfl hone ?_)
      refine bodyPost_ret (v := .agg (arrV .u32 (addS s r).l)) (results_cell_row Tryd.results81 _ _ (w.heap.size + 2) _ (arrV .u32 (addS s r).l) _ _ rfl (setRow_heap wr _ _ _ _ _ HG2.out) Tryd.underlying107 rfl size48) rfl ?_
      exact ⟨by rw [HR.out], below_setRow hbe (by omega) _⟩
end Go.Proofs.YtjalncdllegfoaaDoor
/-
  What absorbed answers: the state behind whole blocks.
-/
namespace Go.Proofs.YtjalncdllegfoaaDoor
open Go.RowKit
set_option linter.unusedVariables false
theorem comp_any {b : List Int} {s : St} {w : World} (hT : Tabs w) (hs : s.ok) :
    Calls Tryd.prog 81 #[.agg s.v, .agg (arrV .u32 (sched b))] w fun e w' => e = .returned (.agg (comp s b).v) ∧ Below w.heap.size w w' :=
  compressed_any hT hs (sched_len b)
/-- A piece of a slice. -/
theorem Rd.piece {k : IntKind} {w : World} {b off n : Nat} {xs : List Int} (h : Rd k w (some ⟨b, off, none⟩) n xs) {i m : Nat} (hi : i + m ≤ n) : Rd k w (some ⟨b, off + i, none⟩) m ((xs.drop i).take m) := by
  refine ⟨by rw [List.length_take, List.length_drop, h.len]; omega, fun hm => ?_⟩
  obtain ⟨b', off', e, hb, hc⟩ := h.cells (by omega)
  injection e with e; injection e with e1 e2
  subst e1 e2
  refine ⟨b, off + i, rfl, hb, fun j x hx => ?_⟩
  have hj : j < m := by
    rcases Nat.lt_or_ge j m with g | g
    · exact g
    · rw [List.getElem?_eq_none (by rw [List.length_take]; omega)] at hx; cases hx
  rw [List.getElem?_take_of_lt hj, List.getElem?_drop] at hx
  rw [Nat.add_assoc]
  exact hc (i + j) x hx
theorem Dig.piece {b : Int} {xs : List Int} (h : Dig b xs) (i m : Nat) : Dig b ((xs.drop i).take m) := fun x hx => h x (List.mem_of_mem_drop (List.mem_of_mem_take hx))
/-- A state's cells, one by one. -/
theorem cells8 {W : World} {g : Nat} {t : TypeId} {s : St} (h : Row W g t .u32 s.l) : W.cell? ⟨g, 0, none⟩ = some (.int .u32 s.a) ∧ W.cell? ⟨g, 1, none⟩ = some (.int .u32 s.b) ∧ W.cell? ⟨g, 2, none⟩ = some (.int .u32 s.c) ∧ W.cell? ⟨g, 3, none⟩ = some (.int .u32 s.d) ∧
    W.cell? ⟨g, 4, none⟩ = some (.int .u32 s.e) ∧ W.cell? ⟨g, 5, none⟩ = some (.int .u32 s.f) ∧ W.cell? ⟨g, 6, none⟩ = some (.int .u32 s.g) ∧ W.cell? ⟨g, 7, none⟩ = some (.int .u32 s.h) :=
  ⟨h.cell rfl, h.cell rfl, h.cell rfl, h.cell rfl, h.cell rfl, h.cell rfl, h.cell rfl, h.cell rfl⟩
/-- A state is stored. -/
theorem store8 {W : World} {g : Nat} {t : TypeId} {s : St} (h : Row W g t .u32 s.l) (r : St) : (storeCells ⟨g, 0, none⟩ r.v.toList).run Tryd.prog W = .ok () (W.setRow g r.v) := by
  have := run_storeCells_from (P := Tryd.prog) g t r.v.toList 0 _ W h (by simp [St.v, St.l]) (fun v hv => (Array.all_eq_true_iff_forall_mem.1 (arrV_one .u32 r.l)) v (by simpa [arrV, St.v] using hv))
  simpa using this
theorem Tabs.setRow {w : World} (h : Tabs w) {g : Nat} (hg : 0 < g ∧ 1 < g) (cs : Array Value) : Tabs (w.setRow g cs) := by
  obtain ⟨⟨t, h1⟩, ⟨u, h2⟩⟩ := h
  exact ⟨⟨t, by rw [setRow_other _ _ _ _ (by omega)]; exact h1⟩, ⟨u, by rw [setRow_other _ _ _ _ (by omega)]; exact h2⟩⟩
theorem Tabs.lt0 {w : World} (h : Tabs w) : 0 < w.heap.size := by
  obtain ⟨t, h2⟩ := h.start
  exact (Array.getElem?_eq_some_iff.1 h2).1
def AbR (l : List Int) (s : St) (w : World) (i : Value) (wr : World) : Prop :=
  ∃ j : Nat, 64 * j ≤ l.length ∧ i = .int .i64 ((64 * j : Nat) : Int) ∧ Row wr w.heap.size 107 .u32 (absb s l j).l ∧ Row wr (w.heap.size + 1) 107 .u32 [0, 0, 0, 0, 0, 0, 0, 0] ∧ Tabs wr ∧ Below w.heap.size w wr
set_option maxHeartbeats 8000000 in
set_option maxRecDepth 100000 in
theorem absorbed_any {A : Option Addr} {c q : Nat} {l : List Int} {s : St} {w : World} (hT : Tabs w) (hs : s.ok) (hr : Rd .u8 w A (64 * q) l) (hd : Dig 256 l) (hc : 64 * q ≤ c) (hq : q ≤ 4398046511104) :
    Calls Tryd.prog 65 #[.agg s.v, .slice A (64 * q) c] w fun e w' => e = .returned (.agg (absb s l q).v) ∧ Below w.heap.size w w' := by
  obtain ⟨V, hV⟩ : ∃ V, V = s.v := ⟨_, rfl⟩
  obtain ⟨n, hn⟩ : ∃ n, 64 * q = n := ⟨_, rfl⟩
  rw [← hV]
  rw [hn] at hr hc ⊢
  have HV := Lib.hid hV
  have HN := Lib.hid hn
  have hl := hr.len
  have HL := Lib.hid hl
  clear hV hn hl
  go_enter Tryd.func65, Tryd.ntmps65
  go_wp2_with fail
  go_loopw [5] (fun i wr => AbR l s w i wr) (fun i _ => n - (intOf i).toNat)
  case atStart =>
    refine ⟨0, by omega, rfl, ?_, ?_, (hT.alloc _).alloc _, ((Below.refl _ _).alloc (Nat.le_refl _) _).alloc (by simp) _⟩
    · rw [HV.out]
      exact (Row.new w 107 .u32 s.l).alloc _
    · have h1 := Row.new (w.alloc (.cells V 107)) 107 .u32 [0, 0, 0, 0, 0, 0, 0, 0]
      rw [show (w.alloc (.cells V 107)).heap.size = w.heap.size + 1 by simp] at h1
      exact h1
  case round =>
    obtain ⟨j, hj, rfl, hr0, hr1, hT', hbe⟩ := hrel
    rcases Nat.lt_or_ge j q with hlt | hge
    · have hok := absb_ok hs l j
      obtain ⟨sj, hsj⟩ : ∃ sj, absb s l j = sj := ⟨_, rfl⟩
      rw [hsj] at hr0 hok
      obtain ⟨blk, hblk⟩ : ∃ blk, (l.drop (64 * j)).take 64 = blk := ⟨_, rfl⟩
      have hrw := hr.below hbe
      have hN := HN.out
      obtain ⟨b, off, rfl, hb, -⟩ := hrw.cells (by omega)
      have hp := hrw.piece (i := 64 * j) (m := 64) (by omega)
      have hdp := hd.piece (64 * j) 64
      rw [hblk] at hp hdp
      have HSJ := Lib.hid (show absb s l (j + 1) = comp sj blk by rw [← hsj, ← hblk]; rfl)
      obtain ⟨at', hat⟩ : ∃ a : Nat, 64 * j = a := ⟨_, rfl⟩
      rw [hat] at hp
      have t1 : (at' : Int) < (n : Int) := by omega
      have t2 : (at' : Int) + 64 ≤ (n : Int) := by omega
      have t3 : at' < c := by omega
      have t4 : (at' : Int) + 64 ≤ (c : Int) := by omega
      have t5 : ¬ c = at' := by omega
      have t6 : at' + 64 ≤ c := by omega
      have t7 : (at' : Int) ≤ 281474976710656 := by omega
      have HR0 := Lib.hid hr0
      have HR1 := Lib.hid hr1
      have HT := Lib.hid hT'
      have HP := Lib.hid hp
      have HAT := Lib.hid hat
      have HJ := Lib.hid (show 64 * (j + 1) ≤ l.length by have := HL.out; omega)
      rw [hat]
      clear hsj hblk hr0 hr1 hT' hp hat hN hj hlt hrw
      go_wp2_with fail
      obtain ⟨l0, l1, l2, l3, l4, l5, l6, l7⟩ := cells8 HR0.out
      have z3 := St.v_size (comp sj blk)
      have hat64 : IntKind.i64.wrap ((at' : Int) + 64) = (at' : Int) + 64 := IntWalk.i64_in _ (by have := HN.out; omega)
      go_region_with (first
        | (go_at_call 82; refine (scheduled_any HP.out.drew hdp).mono ?_; rintro e w2 ⟨rfl, hb2⟩; have HRR := Lib.hid (HR0.out.drew.below hb2 (Row.lt HR0.out.drew)); obtain ⟨m0, m1, m2, m3, m4, m5, m6, m7⟩ := cells8 HRR.out; have HB2 := Lib.hid hb2; clear hb2)
        | (go_at_call 81; refine (comp_any (HT.out.drew.below HB2.out) hok).mono ?_; rintro e w3 ⟨rfl, hb3⟩; have hst := store8 (HRR.out.below hb3 (Row.lt HRR.out)) (comp sj blk); have HB3 := Lib.hid hb3; clear hb3))
      all_goals
        clear hat64
        go_wp2
        go_roundw
        case rel =>
          have b2 := hbe.drew.trans (HB2.out.mono hbe.drew.size)
          have b3 := b2.trans (HB3.out.mono b2.size)
          have hr3 := HRR.out.below HB3.out (Row.lt HRR.out)
          have t3 := (HT.out.drew.below HB2.out).below HB3.out
          have o3 := ((HR1.out.drew.below HB2.out (Row.lt HR1.out.drew)).below HB3.out (Row.lt (HR1.out.drew.below HB2.out (Row.lt HR1.out.drew))))
          refine ⟨j + 1, HJ.out, ?_, ?_, ?_, ?_, below_setRow b3 (Nat.le_refl _) _⟩
          · have := HAT.out
            refine congrArg (Value.int .i64) ?_
            omega
          · rw [HSJ.out]; exact hr3.setRow _
          · unfold Row; rw [setRow_other _ _ _ _ (by omega)]; exact o3
          · exact t3.setRow ⟨hT.lt0, hT.lt⟩ _
        case measure => simp [intOf]; omega
    · have hjq : j = q := by have := HL.out; have := HN.out; omega
      rw [hjq] at hr0
      rw [hjq, HN.out]
      have HR0 := Lib.hid hr0
      have HR1 := Lib.hid hr1
      have hone := arrV_one .u32 (absb s l q).l
      clear hjq hr0 hr1 hge hj
      go_wp2_with (first | (refine wpList_load_row rfl 107 (.tmp 2) rfl w.heap.size rfl _ (arrV .u32 (absb s l q).l) _ _ HR0.out Tryd.underlying107 rfl size48 ?_) | (refine wpList_store_row rfl 107 (.tmp 4) (.tmp 20) rfl (w.heap.size + 1) (arrV .u32 (absb s l q).l) rfl rfl _ _ HR1.out size48 rfl hone ?_))
      refine bodyPost_ret (v := .agg (arrV .u32 (absb s l q).l)) (results_cell_row Tryd.results65 _ _ (w.heap.size + 1) _ (arrV .u32 (absb s l q).l) _ _ rfl (setRow_heap wr _ _ _ _ _ HR1.out) Tryd.underlying107 rfl size48) rfl ?_
      exact ⟨rfl, below_setRow hbe (by omega) _⟩
end Go.Proofs.YtjalncdllegfoaaDoor
/-
  What digest and Sha answer.
-/
namespace Go.Proofs.YtjalncdllegfoaaDoor
open Go.RowKit
set_option linter.unusedVariables false
/-- Bytes in a slice, as a call takes them. -/
structure Bs (w : World) (A : Option Addr) (n c : Nat) (xs : List Int) : Prop where
  rd : Rd .u8 w A n xs
  dig_ : Dig 256 xs
  nc : n ≤ c
  c47 : n ≤ 1099511627776
  none_ : A = none → c = 0
  plain : ∀ a, A = some a → ∃ b off, a = ⟨b, off, none⟩
theorem Bs.below {w w' : World} {A : Option Addr} {n c : Nat} {xs : List Int} (h : Bs w A n c xs) (hb : Below w.heap.size w w') : Bs w' A n c xs := ⟨h.rd.below hb, h.dig_, h.nc, h.c47, h.none_, h.plain⟩
theorem Bs.alloc {w : World} {A : Option Addr} {n c : Nat} {xs : List Int} (h : Bs w A n c xs) (o : Obj) : Bs (w.alloc o) A n c xs := h.below ((Below.refl _ _).alloc (Nat.le_refl _) _)
theorem below_one2 {w w' : World} {o : Obj} (h : Below (w.alloc o).drew.heap.size (w.alloc o).drew w') : Below w.heap.size w w' :=
  ((Below.refl _ _).alloc (Nat.le_refl _) _).drew.trans (h.mono (by simp))
/-- Where a slice's end lies, cut at k. -/
def Cut (A : Option Addr) (c k : Nat) (A1 : Option Addr) : Prop :=
  (A = none ∧ c = 0 ∧ k = 0 ∧ A1 = none) ∨ (∃ b off, A = some ⟨b, off, none⟩ ∧ c = k ∧ A1 = some ⟨b, off, none⟩) ∨ (∃ b off, A = some ⟨b, off, none⟩ ∧ ¬ c = k ∧ A1 = some ⟨b, off + k, none⟩)
/-- The same, be they ever so many. -/
structure BsL (w : World) (A : Option Addr) (n c : Nat) (xs : List Int) : Prop where
  rd : Rd .u8 w A n xs
  dig_ : Dig 256 xs
  nc : n ≤ c
  c47 : n ≤ 140737490452480
  none_ : A = none → c = 0
  plain : ∀ a, A = some a → ∃ b off, a = ⟨b, off, none⟩
theorem Bs.l {w : World} {A : Option Addr} {n c : Nat} {xs : List Int} (h : Bs w A n c xs) : BsL w A n c xs := ⟨h.rd, h.dig_, h.nc, Nat.le_trans h.c47 (by decide), h.none_, h.plain⟩
theorem BsL.below {w w' : World} {A : Option Addr} {n c : Nat} {xs : List Int} (h : BsL w A n c xs) (hb : Below w.heap.size w w') : BsL w' A n c xs := ⟨h.rd.below hb, h.dig_, h.nc, h.c47, h.none_, h.plain⟩
theorem BsL.cut {w : World} {A : Option Addr} {n c k : Nat} {xs : List Int} (h : BsL w A n c xs) (hk : k ≤ n) : ∃ A1, Cut A c k A1 ∧ Rd .u8 w A1 (n - k) (xs.drop k) := by
  have hl := h.rd.len
  have hnc := h.nc
  cases A with
  | none =>
    have := h.none_ rfl
    refine ⟨none, .inl ⟨rfl, this, by omega, rfl⟩, ?_⟩
    obtain rfl : n = 0 := by omega
    obtain rfl : xs = [] := List.eq_nil_of_length_eq_zero hl
    rw [List.drop_nil, Nat.zero_sub]; exact Rd.nil _ _ _
  | some a =>
    obtain ⟨b, off, rfl⟩ := h.plain a rfl
    by_cases g : c = k
    · refine ⟨some ⟨b, off, none⟩, .inr (.inl ⟨b, off, rfl, g, rfl⟩), ?_⟩
      rw [List.drop_of_length_le (by omega), show n - k = 0 by omega]; exact Rd.nil _ _ _
    · refine ⟨some ⟨b, off + k, none⟩, .inr (.inr ⟨b, off, rfl, g, rfl⟩), ?_⟩
      have := h.rd.piece (i := k) (m := n - k) (by omega)
      rw [List.take_of_length_le (by rw [List.length_drop]; omega)] at this
      exact this
theorem Bs.cut {w : World} {A : Option Addr} {n c k : Nat} {xs : List Int} (h : Bs w A n c xs) (hk : k ≤ n) : ∃ A1, Cut A c k A1 ∧ Rd .u8 w A1 (n - k) (xs.drop k) := h.l.cut hk
theorem whole_k (A : Option Addr) (n c : Nat) (w : World) (hn : n ≤ 281474976710656) {q k : Nat} (hq : n / 64 = q) (hk : 64 * q = k) :
    Calls Tryd.prog 64 #[.slice A n c] w fun e w' => e = .returned (.int .i64 (k : Int)) ∧ w = w' := by
  subst hq hk
  exact whole_any A n c w hn
theorem absorbed_k {A : Option Addr} {c q k : Nat} {l : List Int} {s s1 : St} {w : World} (hk : 64 * q = k) (h1 : absb s l q = s1) (hT : Tabs w) (hs : s.ok) (hr : Rd .u8 w A k l) (hd : Dig 256 l) (hc : k ≤ c) (hq : k ≤ 281474976710656) :
    Calls Tryd.prog 65 #[.agg s.v, .slice A k c] w fun e w' => e = .returned (.agg s1.v) ∧ Below w.heap.size w w' := by
  subst hk h1
  exact absorbed_any hT hs hr hd hc (by omega)
theorem Dig.take {b : Int} {xs : List Int} (h : Dig b xs) (m : Nat) : Dig b (xs.take m) := fun x hx => h x (List.mem_of_mem_take hx)
theorem Dig.drop {b : Int} {xs : List Int} (h : Dig b xs) (m : Nat) : Dig b (xs.drop m) := fun x hx => h x (List.mem_of_mem_drop hx)
theorem Dig.append {b : Int} {xs ys : List Int} (h : Dig b xs) (h' : Dig b ys) : Dig b (xs ++ ys) := fun x hx => (List.mem_append.1 hx).elim (h x) (h' x)
theorem padded_l {A : Option Addr} {n c L k : Nat} {v : Int} {tail : List Int} {w : World} (hr : Rd .u8 w A n tail) (hv : v = (L : Int)) (hn : n < 64) (hL : L % 64 = n) (hL2 : L ≤ 1125899906842624) (hk : (tail ++ pad L).length = k) :
    Calls Tryd.prog 84 #[.slice A n c, .int .u64 v] w (AnsLb (tail ++ pad L) k w) := by
  subst hv
  exact (padded_any hr hn hL hL2).mono fun _ _ h => h.l hk
theorem digest_math {s : St} {l : List Int} {n q k m L : Nat} (hl : l.length = n) (hq : n / 64 = q) (hk : 64 * q = k) (hL : L % 64 = n % 64) (hm : (l.drop k ++ pad L).length = 64 * m) :
    absb (absb s (l.take k) q) (l.drop k ++ pad L) m = absb s (l ++ pad L) ((n + (pad L).length) / 64) := by
  subst hk
  have ht : (l.take (64 * q)).length = 64 * q := by rw [List.length_take]; omega
  have e1 := absb_append (s := s) (m := l.drop (64 * q) ++ pad L) ht m
  rw [← List.append_assoc, List.take_append_drop] at e1
  rw [← e1]
  congr 1
  rw [List.length_append, List.length_drop] at hm
  omega
set_option maxHeartbeats 8000000 in
set_option maxRecDepth 100000 in
theorem digest_L {A : Option Addr} {n c : Nat} {l : List Int} {s : St} {w : World} (hT : Tabs w) (hs : s.ok) (hb : BsL w A n c l) (p : Nat) (hp : p % 64 = 0) (hp2 : p ≤ 1099511627776) :
    Calls Tryd.prog 66 #[.agg s.v, .int .i64 p, .slice A n c] w (AnsOb (wbs (absb s (l ++ pad (p + n)) ((n + (pad (p + n)).length) / 64)).l) w) := by
  obtain ⟨q, hq⟩ : ∃ q, n / 64 = q := ⟨_, rfl⟩
  obtain ⟨k, hk⟩ : ∃ k, 64 * q = k := ⟨_, rfl⟩
  obtain ⟨A1, hcut, hr1⟩ := hb.cut (k := k) (by omega)
  have hn := hb.c47
  have hnc := hb.nc
  have hl := hb.rd.len
  obtain ⟨V, hV⟩ : ∃ V, V = s.v := ⟨_, rfl⟩
  have hbox := heap_alloc_new w (.cells V 107)
  have hrow : Row (w.alloc (.cells V 107)) w.heap.size 107 .u32 s.l := by rw [hV]; exact Row.new w 107 .u32 s.l
  rw [← hV]
  have hrd : Rd .u8 w A (64 * q) (l.take (64 * q)) := hb.rd.take (by omega)
  rw [hk] at hrd
  have HRD := Lib.hid hrd
  have HR1 := Lib.hid hr1
  have HQ := Lib.hid hq
  have HK := Lib.hid hk
  have HL := Lib.hid hl
  have HROW := Lib.hid hrow
  have HV := Lib.hid hV
  have HD := Lib.hid hb.dig_
  have HP := Lib.hid hp
  have kn : k ≤ n := by omega
  have kni : (k : Int) ≤ (n : Int) := by omega
  have kci : (k : Int) ≤ (c : Int) := by omega
  clear hrd hr1 hq hk hl hrow hV hbox hb hp
  obtain ⟨s1, hs1⟩ : ∃ s1, absb s (l.take k) q = s1 := ⟨_, rfl⟩
  have HS1 := Lib.hid hs1
  have hok1 : s1.ok := by rw [← hs1]; exact absb_ok hs _ _
  have z3 := St.v_size s1
  clear hs1
  have kc : k ≤ c := by omega
  have t1 : decide ((n : Int) < (k : Int)) = false := by simp; omega
  have hL64 : (p : Int) + (n : Int) < 18446744073709551616 := by omega
  have LV := Lib.hid (show (p : Int) + (n : Int) = ((p + n : Nat) : Int) by omega)
  have lt64 : n - k < 64 := by have := HQ.out; have := HK.out; omega
  have LM := Lib.hid (show (p + n) % 64 = n - k by have := HQ.out; have := HK.out; have := HP.out; omega)
  have hall := pad_all (p + n)
  have hdl : (l.drop k ++ pad (p + n)).length = (n - k) + (pad (p + n)).length := by rw [List.length_append, List.length_drop, HL.out]
  have hfl : fillN (p + n) < 64 := by unfold fillN; omega
  have hpl := pad_len (p + n)
  obtain ⟨m, hm⟩ : ∃ m, (l.drop k ++ pad (p + n)).length = 64 * m := ⟨((n - k) + (pad (p + n)).length) / 64, by have := HQ.out; have := HK.out; have := HP.out; omega⟩
  obtain ⟨k2, hk2⟩ : ∃ k2, 64 * m = k2 := ⟨_, rfl⟩
  have LK := Lib.hid (show (l.drop k ++ pad (p + n)).length = k2 by omega)
  have HK2 := Lib.hid hk2
  have hk40 : k2 ≤ 281474976710656 := by omega
  obtain ⟨s2, hs2⟩ : ∃ s2, absb s1 (l.drop k ++ pad (p + n)) m = s2 := ⟨_, rfl⟩
  have HS2 := Lib.hid hs2
  have hok2 : s2.ok := by rw [← hs2]; exact absb_ok hok1 _ _
  have FIN := Lib.hid (show s2 = absb s (l ++ pad (p + n)) ((n + (pad (p + n)).length) / 64) by
    rw [← hs2, ← HS1.out]
    exact digest_math HL.out HQ.out HK.out (by have := HP.out; omega) hm)
  clear hall hdl hfl hpl hm hk2 hs2
  rcases hcut with ⟨rfl, -, -, rfl⟩ | ⟨b, off, rfl, rfl, rfl⟩ | ⟨b, off, rfl, hck, rfl⟩
  rotate_left
  clear kci kc hnc
  all_goals
    go_enter Tryd.func66, Tryd.ntmps66
    go_wp2_with fail
    refine (whole_k _ _ _ _ (by omega) HQ.out HK.out).mono ?_
    rintro e w1 ⟨rfl, rfl⟩
    obtain ⟨l0, l1, l2, l3, l4, l5, l6, l7⟩ := cells8 HROW.out
    go_wp2_with fail
    go_region_with (go_at_call 65; refine (absorbed_k HK.out HS1.out (hT.alloc _).drew hs (HRD.out.alloc _).drew (HD.out.take _) (by omega) (by omega)).mono ?_; rintro e w2 ⟨rfl, hb2⟩; have hst := store8 (HROW.out.drew.below hb2 (Row.lt HROW.out.drew)) s1; have HB2 := Lib.hid hb2; clear hb2)
    have b3 := below_setRow (below_one2 HB2.out) (Nat.le_refl _) s1.v
    have t3 := (((hT.alloc _).drew).below HB2.out).setRow (g := w.heap.size) ⟨hT.lt0, hT.lt⟩ s1.v
    have r3 := (HROW.out.drew.below HB2.out (Row.lt HROW.out.drew)).setRow s1.l
    have d3 := HR1.out.below b3
    have e3 : (w2.setRow w.heap.size s1.v) = w2.setRow w.heap.size ((s1.l.map (Value.int .u32)).toArray) := rfl
    rw [← e3] at r3
    clear e3 hst l0 l1 l2 l3 l4 l5 l6 l7
    generalize w2.setRow w.heap.size s1.v = w3 at b3 t3 r3 d3 ⊢
    have B3 := Lib.hid b3
    have T3 := Lib.hid t3
    have R3 := Lib.hid r3
    have D3 := Lib.hid d3
    obtain ⟨l0, l1, l2, l3, l4, l5, l6, l7⟩ := cells8 r3
    clear b3 t3 r3 d3
    go_wp2_with fail
    go_region_with (first
      | (go_at_call 84; refine (padded_l D3.out.drew LV.out lt64 LM.out (by omega) LK.out).mono ?_; rintro e w4 ⟨A4, c4, rfl, hr4, hc4, -, -, hb4⟩; have HR4 := Lib.hid hr4; obtain ⟨m0, m1, m2, m3, m4, m5, m6, m7⟩ := cells8 (R3.out.drew.below hb4 (Row.lt R3.out.drew)); have HB4 := Lib.hid hb4; clear hr4 hb4)
      | (go_at_call 65; refine (absorbed_k HK2.out HS2.out (T3.out.drew.below HB4.out) hok1 HR4.out ((HD.out.drop _).append (pad_dig _)) hc4 hk40).mono ?_; rintro e w5 ⟨rfl, hb5⟩; have HB5 := Lib.hid hb5; clear hb5)
      | (go_at_call 83; refine (wordBytes_any s2 hok2 _).mono ?_; rintro e w6 ⟨v6, rfl, ho6, hb6⟩; have HO6 := Lib.hid ho6; have HB6 := Lib.hid hb6; clear ho6 hb6))
    all_goals
      go_wp2_with fail
      go_ret
      have b4 := B3.out.drew.trans (HB4.out.mono B3.out.drew.size)
      have b5 := b4.trans (HB5.out.mono b4.size)
      have b6 := b5.trans (HB6.out.mono b5.size)
      exact ⟨_, rfl, by rw [← FIN.out]; exact HO6.out.base b5.size, b6⟩
theorem digest_any {A : Option Addr} {n c : Nat} {l : List Int} {s : St} {w : World} (hT : Tabs w) (hs : s.ok) (hb : Bs w A n c l) (p : Nat) (hp : p % 64 = 0) (hp2 : p ≤ 1099511627776) :
    Calls Tryd.prog 66 #[.agg s.v, .int .i64 p, .slice A n c] w (AnsOb (wbs (absb s (l ++ pad (p + n)) ((n + (pad (p + n)).length) / 64)).l) w) :=
  digest_L hT hs hb.l p hp hp2
theorem H0v : H0.v = #[.int .u32 1779033703, .int .u32 3144134277, .int .u32 1013904242, .int .u32 2773480762, .int .u32 1359893119, .int .u32 2600822924, .int .u32 528734635, .int .u32 1541459225] := rfl
theorem sha_L {A : Option Addr} {n c : Nat} {l : List Int} {w : World} (hT : Tabs w) (hb : BsL w A n c l) :
    Calls Tryd.prog 62 #[.slice A n c] w (AnsOb (sha l) w) := by
  obtain ⟨t, hg⟩ := hT.start
  have HG := Lib.hid hg
  have hl := hb.rd.len
  have z := St.v_size H0
  have hsz : (Tryd.prog.info? 107).map (·.size) = some H0.v.size := size48
  have hd := digest_L hT H0_ok hb 0 rfl (by omega)
  rw [Nat.zero_add] at hd
  have HD := Lib.hid hd
  have HL := Lib.hid hl
  obtain ⟨V, hV⟩ : ∃ V, V = H0.v := ⟨_, rfl⟩
  rw [← hV] at HG HD hsz
  clear hd hl hg z hV
  go_enter Tryd.func62, Tryd.ntmps62
  go_wp2_with (refine wpList_load_row rfl 107 (.global 0) rfl 0 rfl _ V _ _ HG.out Tryd.underlying107 rfl hsz ?_)
  refine HD.out.mono ?_
  rintro e w1 ⟨v, rfl, ho, hb1⟩
  go_wp2_with fail
  go_ret
  refine ⟨_, rfl, ?_, hb1⟩
  have e : sha l = wbs (absb H0 (l ++ pad n) ((n + (pad n).length) / 64)).l := by unfold sha shaS; rw [HL.out]
  rw [e]; exact ho
theorem sha_any {A : Option Addr} {n c : Nat} {l : List Int} {w : World} (hT : Tabs w) (hb : Bs w A n c l) :
    Calls Tryd.prog 62 #[.slice A n c] w (AnsOb (sha l) w) :=
  sha_L hT hb.l
end Go.Proofs.YtjalncdllegfoaaDoor
/-
  What framed and Parts answer.
-/
namespace Go.Proofs.YtjalncdllegfoaaDoor
open Go.RowKit
set_option linter.unusedVariables false
theorem Own8.bs {w : World} {base : Nat} {v : Value} {bs : List Int} (h : Own8 w base v bs) (hd : Dig 256 bs) (hl : bs.length ≤ 1099511627776) : ∃ A c, v = .slice A bs.length c ∧ Bs w A bs.length c bs := by
  obtain ⟨A, c, rfl, h1, h2, h3⟩ := h.rd
  refine ⟨A, c, rfl, h1, hd, h2, hl, fun hA => ?_, fun a ha => ?_⟩
  · rcases h.2 with ⟨e, _⟩ | ⟨g, cap, cur, e, _⟩
    · injection e
    · injection e with e1; rw [hA] at e1; cases e1
  · rcases h.2 with ⟨e, _⟩ | ⟨g, cap, cur, e, _⟩
    · injection e with e1; rw [ha] at e1; cases e1
    · injection e with e1; rw [ha] at e1; injection e1 with e1; exact ⟨g, 0, e1⟩
theorem Own8.bsL {w : World} {base : Nat} {v : Value} {bs : List Int} (h : Own8 w base v bs) (hd : Dig 256 bs) (hl : bs.length ≤ 140737490452480) : ∃ A c, v = .slice A bs.length c ∧ BsL w A bs.length c bs := by
  obtain ⟨A, c, rfl, h1, h2, h3⟩ := h.rd
  refine ⟨A, c, rfl, h1, hd, h2, hl, fun hA => ?_, fun a ha => ?_⟩
  · rcases h.2 with ⟨e, _⟩ | ⟨g, cap, cur, e, _⟩
    · injection e
    · injection e with e1; rw [hA] at e1; cases e1
  · rcases h.2 with ⟨e, _⟩ | ⟨g, cap, cur, e, _⟩
    · injection e with e1; rw [ha] at e1; cases e1
    · injection e with e1; rw [ha] at e1; injection e1 with e1; exact ⟨g, 0, e1⟩
/-- Bytes in a slice, wherever it lies. -/
structure Bz (w : World) (A : Option Addr) (n : Nat) (xs : List Int) : Prop where
  rd : Rd .u8 w A n xs
  dig_ : Dig 256 xs
theorem Bs.bz {w : World} {A : Option Addr} {n c : Nat} {xs : List Int} (h : Bs w A n c xs) : Bz w A n xs := ⟨h.rd, h.dig_⟩
theorem Bz.below {w w' : World} {A : Option Addr} {n : Nat} {xs : List Int} (h : Bz w A n xs) (hb : Below w.heap.size w w') : Bz w' A n xs := ⟨h.rd.below hb, h.dig_⟩
theorem Bz.alloc {w : World} {A : Option Addr} {n : Nat} {xs : List Int} (h : Bz w A n xs) (o : Obj) : Bz (w.alloc o) A n xs := h.below ((Below.refl _ _).alloc (Nat.le_refl _) _)
/-- A slice of slices of bytes. -/
structure Pts (w : World) (A : Option Addr) (n c : Nat) (L : List (List Int)) : Prop where
  len : L.length = n
  nc : n ≤ c
  cells : 0 < n → ∃ b off, A = some ⟨b, off, none⟩ ∧ b < w.heap.size ∧ ∀ j, j < n → ∃ Aj cj xs, L[j]? = some xs ∧ w.cell? ⟨b, off + j, none⟩ = some (.slice Aj xs.length cj) ∧ Bz w Aj xs.length xs
theorem Pts.below {w w' : World} {A : Option Addr} {n c : Nat} {L : List (List Int)} (h : Pts w A n c L) (hb : Below w.heap.size w w') : Pts w' A n c L :=
  ⟨h.len, h.nc, fun hn => by
    obtain ⟨b, off, e, hlt, hc⟩ := h.cells hn
    refine ⟨b, off, e, Nat.lt_of_lt_of_le hlt hb.size, fun j hj => ?_⟩
    obtain ⟨Aj, cj, xs, h1, h2, h3⟩ := hc j hj
    exact ⟨Aj, cj, xs, h1, (hb.cell (p := ⟨b, off + j, none⟩) hlt).trans h2, h3.below hb⟩⟩
theorem Pts.nil (w : World) : Pts w none 0 0 [] := ⟨rfl, Nat.le_refl _, fun h => absurd h (by omega)⟩
theorem fr_take_len (L : List (List Int)) (k : Nat) : (fr (L.take k)).length ≤ (fr L).length := by
  have h := fr_append (L.take k) (L.drop k)
  rw [List.take_append_drop] at h
  rw [h, List.length_append]; omega
theorem fr_snoc {L : List (List Int)} {k : Nat} {xs : List Int} (h : L[k]? = some xs) : fr (L.take (k + 1)) = fr (L.take k) ++ be8 xs.length ++ xs := by
  have hk := (List.getElem?_eq_some_iff.1 h)
  obtain ⟨hlt, he⟩ := hk
  rw [List.take_succ_eq_append_getElem hlt, fr_append, he, fr_one, List.append_assoc]
theorem fr_dig {L : List (List Int)} (h : ∀ xs ∈ L, Dig 256 xs) : Dig 256 (fr L) := by
  intro x hx
  simp only [fr, List.mem_flatMap] at hx
  obtain ⟨p, hp, hx⟩ := hx
  rcases List.mem_append.1 hx with hx | hx
  · exact be8_dig _ x hx
  · exact h p hp x hx
def FrmR (L : List (List Int)) (w : World) (v i : Value) (wr : World) : Prop :=
  ∃ k : Nat, k ≤ L.length ∧ i = .int .i64 k ∧ Own8 wr w.heap.size v (fr (L.take k)) ∧ Below w.heap.size w wr
theorem Own8.app {w : World} {base : Nat} {v : Value} {n m : Nat} {xs ys : List Int} (hn : xs.length = n) (hm : ys.length = m) (h : w.ownsRow base 5 1 v (n + m) (xs.map (Value.int .u8) ++ ys.map (Value.int .u8))) : Own8 w base v (xs ++ ys) := by
  unfold Own8
  rw [List.length_append, hn, hm, List.map_append]
  exact h
set_option maxHeartbeats 4000000 in
theorem framed_L {A : Option Addr} {n c : Nat} {L : List (List Int)} {w : World} (hp : Pts w A n c L) (hl : (fr L).length ≤ 140737490452480) (hn : n ≤ 1099511627776) :
    Calls Tryd.prog 63 #[.slice A n c] w (AnsOb (fr L) w) := by
  have hlen := hp.len
  have HLEN := Lib.hid hlen
  clear hlen
  go_enter Tryd.func63, Tryd.ntmps63
  go_wp2_with fail
  go_loopw [3, 8] (fun v i wr => FrmR L w v i wr) (fun _ i _ => n - (intOf i).toNat)
  case atStart => exact ⟨0, Nat.zero_le _, rfl, Own8.nil _ _, Below.refl _ _⟩
  case round =>
    obtain ⟨k, hk, rfl, ho, hb⟩ := hrel
    rw [HLEN.out] at hk
    rcases Nat.lt_or_ge k n with hlt | hge
    · obtain ⟨b, off, rfl, hbl, hc⟩ := hp.cells (by omega)
      obtain ⟨Aj, cj, xs, hx, hcell, hbs⟩ := hc k hlt
      have hcell := (hb.cell (p := ⟨b, off + k, none⟩) hbl).trans hcell
      have hf := fr_take_len L (k + 1)
      rw [fr_snoc hx, List.length_append, List.length_append, be8_len] at hf
      obtain ⟨m, hm⟩ : ∃ m, xs.length = m := ⟨_, rfl⟩
      obtain ⟨fk, hfk⟩ : ∃ fk, (fr (L.take k)).length = fk := ⟨_, rfl⟩
      rw [hm] at hf hcell hbs
      rw [hfk] at hf
      have HX := Lib.hid hx
      have HM := Lib.hid hm
      have HFK := Lib.hid hfk
      have HO := Lib.hid ho
      have HBS := Lib.hid hbs
      have hkn : (k : Int) < (n : Int) := by omega
      clear hx hm hfk ho hc hbs
      go_wp2_with fail
      refine (eight_l _ (by omega) (by omega) _).mono ?_
      rintro e w1 ⟨A1, c1, rfl, hr1, hc1, -, -, hb1⟩
      have ho1 := HO.out.below hb1
      have HO1 := Lib.hid ho1
      have HR1 := Lib.hid hr1
      have s1 := hb.size
      have s2 := hb1.size
      clear ho1 hr1
      go_wp2_with (at_builtin; refine wpList_cat8w _ rfl _ _ 24 rfl w.heap.size 5 .u8 Tryd.underlying24 info8u _ _ (fr (L.take k)) rfl HO1.out _ _ _ (be8 m) rfl HR1.out (by rw [HFK.out]; omega) (by omega) ?_)
      rintro v2 w2 h2 hg2
      rw [HFK.out] at h2
      have ho2 := Own8.app HFK.out (be8_len m) h2
      have b2 := own_below (hb.trans (hb1.mono hb.size)) HO1.out hg2 (by omega) (Nat.le_refl _)
      have HO2 := Lib.hid ho2
      have HR2 := Lib.hid (HBS.out.below b2).rd
      clear ho2 h2
      have hl2 : (fr (L.take k) ++ be8 m).length = fk + 8 := by rw [List.length_append, HFK.out, be8_len]
      have HL2 := Lib.hid hl2
      have s3 := b2.size
      clear hl2
      go_wp2_with (at_builtin; refine wpList_cat8w _ rfl _ _ 24 rfl w.heap.size 5 .u8 Tryd.underlying24 info8u _ _ (fr (L.take k) ++ be8 m) rfl HO2.out _ _ _ xs rfl HR2.out (by rw [HL2.out]; omega) (by omega) ?_)
      rintro v3 w3 h3 hg3
      have b3 := own_below b2 HO2.out hg3 (by omega) (Nat.le_refl _)
      have H3 := Lib.hid h3
      clear h3
      go_wp2_with fail
      go_roundw
      case rel =>
        refine ⟨k + 1, by rw [HLEN.out]; exact hlt, by go_num, ?_, b3⟩
        have h3 := H3.out
        rw [fr_snoc HX.out, HM.out]
        unfold Own8
        rw [List.length_append, List.length_append, HM.out]
        simpa using h3
      case measure => simp [intOf]; omega
    · have hkn : k = n := by omega
      rw [hkn, ← HLEN.out, List.take_length] at ho
      have t1 : decide ((k : Int) < (n : Int)) = false := by simp; omega
      clear hkn
      go_wp2_with fail
      go_ret
      exact ⟨_, rfl, ho, hb⟩
theorem framed_any {A : Option Addr} {n c : Nat} {L : List (List Int)} {w : World} (hp : Pts w A n c L) (hl : (fr L).length ≤ 1099511627776) (hn : n ≤ 1099511627776) :
    Calls Tryd.prog 63 #[.slice A n c] w (AnsOb (fr L) w) :=
  framed_L hp (by omega) hn
theorem parts_L {A : Option Addr} {n c : Nat} {L : List (List Int)} {w : World} (hT : Tabs w) (hp : Pts w A n c L) (hl : (fr L).length ≤ 140737490452480) (hn : n ≤ 1099511627776) (hd : ∀ xs ∈ L, Dig 256 xs) :
    Calls Tryd.prog 40 #[.slice A n c] w (AnsOb (parts L) w) := by
  go_enter Tryd.func40, Tryd.ntmps40
  go_wp2_with fail
  refine (framed_L hp hl hn).mono ?_
  rintro e w1 ⟨v1, rfl, ho1, hb1⟩
  obtain ⟨A1, c1, rfl, hbs1⟩ := ho1.bsL (fr_dig hd) hl
  go_wp2_with fail
  refine (sha_L (hT.below hb1) hbs1).mono ?_
  rintro e w2 ⟨v2, rfl, ho2, hb2⟩
  go_wp2_with fail
  go_ret
  exact ⟨_, rfl, ho2.base hb1.size, hb1.trans (hb2.mono hb1.size)⟩
theorem parts_any {A : Option Addr} {n c : Nat} {L : List (List Int)} {w : World} (hT : Tabs w) (hp : Pts w A n c L) (hl : (fr L).length ≤ 1099511627776) (hn : n ≤ 1099511627776) (hd : ∀ xs ∈ L, Dig 256 xs) :
    Calls Tryd.prog 40 #[.slice A n c] w (AnsOb (parts L) w) :=
  parts_L hT hp (by omega) hn hd
end Go.Proofs.YtjalncdllegfoaaDoor
/-
  A list of the call's own of slices of bytes, that grows by append: as parts.
-/
namespace Go.Proofs.YtjalncdllegfoaaDoor
open Go.RowKit
set_option linter.unusedVariables false
/-- A slice of bytes. -/
structure Bsl where
  A : Option Addr
  c : Nat
  xs : List Int
theorem Rd.stay {k : IntKind} {w w' : World} {A : Option Addr} {n : Nat} {xs : List Int} (h : Rd k w A n xs) (hs : w.heap.size ≤ w'.heap.size) (hb : ∀ b, BlN A n b → w'.heap[b]? = w.heap[b]?) : Rd k w' A n xs :=
  ⟨h.len, fun hn => by
    obtain ⟨b, off, e, hl, hc⟩ := h.cells hn
    exact ⟨b, off, e, Nat.lt_of_lt_of_le hl hs, fun j x hj => (World.cell?_of_block (a := ⟨b, off + j, none⟩) (hb b ⟨_, e, hn, rfl⟩)).trans (hc j x hj)⟩⟩
theorem Rd.blt_ {k : IntKind} {w : World} {A : Option Addr} {n : Nat} {xs : List Int} (h : Rd k w A n xs) {b : Nat} (hb : BlN A n b) : b < w.heap.size := by
  obtain ⟨a, e, hn, rfl⟩ := hb
  obtain ⟨b, off, e2, hl, -⟩ := h.cells hn
  rw [e2] at e
  injection e with e
  rw [← e]
  exact hl
/-- Slices of bytes. -/
def kBy : Kd Bsl := ⟨fun s => .slice s.A s.xs.length s.c, fun w s => Bz w s.A s.xs.length s.xs, fun s b => BlN s.A s.xs.length b, fun _ => rfl, fun h g => Rd.blt_ h.rd g, fun h hs g => ⟨Rd.stay h.rd hs g, h.dig_⟩⟩
theorem Owg.pts {e : TypeId} {w : World} {base : Nat} {v : Value} {n : Nat} {S : Nat → Bsl} (h : Owg kBy e w base v n S) : ∃ A c, v = .slice A n c ∧ (∀ a, A = some a → base ≤ a.block) ∧ Pts w A n c ((List.range n).map fun i => (S i).xs) := by
  obtain ⟨A, c, rfl, hnc, hb, hc⟩ := h.form
  refine ⟨A, c, rfl, hb, by simp, hnc, fun hn => ?_⟩
  obtain ⟨g, eg, hl, hx⟩ := hc hn
  exact ⟨g, 0, eg, hl, fun j hj => ⟨(S j).A, (S j).c, (S j).xs, by simp [hj], by rw [Nat.zero_add]; exact hx j hj, h.at_ j hj⟩⟩
end Go.Proofs.YtjalncdllegfoaaDoor
/-
  What slices.Grow and slices.Concat answer for bytes.
-/
namespace Go.Proofs.YtjalncdllegfoaaDoor
open Go.RowKit
set_option linter.unusedVariables false
theorem grow_run (w : World) (base : Nat) (m : Nat) (hm : 0 < m) (hnm : m ≤ 1099511627776) (hbase : base ≤ w.heap.size) :
    ∃ cap w', (∀ ty, (Builtin.append_ #[24, 3] ty #[.slice none 0 0, .int .i64 m]).run Tryd.prog w = .ok (.slice (some ⟨w.heap.size, 0, none⟩) m cap) w') ∧ Own8 w' base (.slice (some ⟨w.heap.size, 0, none⟩) 0 cap) [] ∧ Below w.heap.size w w' := by
  obtain ⟨i, h1, h2, h3, h4⟩ := info_parts info8u
  have hr := fun ty => Lib.run_append_nil_zeros (P := Tryd.prog) w 24 3 ty 5 i (.int .u8 0) .i64 .i64 Tryd.underlying24 Tryd.underlying3 h1 h2 m hm (by omega) (by omega) (by rw [h4]; omega)
  refine ⟨_, _, hr, ?_, (Below.refl _ _).drew.alloc (by simp) _⟩
  have hge := grownCap_ge w m 0 5
  have hcm : grownCap w m 0 5 ≤ maxLen := grownCap_le_maxLen w m 0 5 (by unfold maxLen; omega)
  refine ⟨rfl, .inr ⟨w.heap.size, _, _, rfl, hbase, Go.heap_alloc_new w.drew _, Nat.zero_le _, hcm, ?_, by simp⟩⟩
  simp [Builtin.zeroCells, Value.cells]
  omega
/-- A slice with nothing in it, to append to. -/
def AnsE (w : World) (e : Ending) (w' : World) : Prop := ∃ v, e = .returned v ∧ Own8 w' w.heap.size v [] ∧ Below w.heap.size w w'
set_option maxHeartbeats 4000000 in
theorem grow_any (m : Nat) (hnm : m ≤ 1099511627776) (w : World) :
    Calls Tryd.prog 85 #[.slice none 0 0, .int .i64 m] w (AnsE w) := by
  rcases Nat.eq_zero_or_pos m with hm | hm
  · have t1 : decide ((0 : Int) < (m : Int)) = false := by simp; omega
    have t2 : decide ((m : Int) < 0) = false := by simp
    have t3 : ¬ 0 < m := by omega
    have t4 : decide (0 < m) = false := by simp; omega
    clear hm
    go_enter Tryd.func85, Tryd.ntmps85
    go_wp2_with fail
    go_ret
    exact ⟨_, rfl, Own8.nil _ _, Below.refl _ _⟩
  · obtain ⟨cap, w', hrun, ho, hb⟩ := grow_run w w.heap.size m hm hnm (Nat.le_refl _)
    have t1 : decide ((0 : Int) < (m : Int)) = true := by simp; omega
    have t2 : decide ((m : Int) < 0) = false := by simp
    have t3 : 0 < m := hm
    go_enter Tryd.func85, Tryd.ntmps85
    go_wp2_with (at_builtin; refine Lib.wpList_append_run _ rfl _ _ 24 3 rfl _ _ rfl rfl _ w' (hrun _) ?_)
    go_ret
    exact ⟨_, rfl, ho, hb⟩
theorem fl_take_len (L : List (List Int)) (k : Nat) : (L.take k).flatten.length ≤ L.flatten.length := by
  have h : L.flatten = (L.take k).flatten ++ (L.drop k).flatten := by rw [← List.flatten_append, List.take_append_drop]
  rw [h, List.length_append]; omega
theorem fl_snoc {L : List (List Int)} {k : Nat} {xs : List Int} (h : L[k]? = some xs) : (L.take (k + 1)).flatten = (L.take k).flatten ++ xs := by
  obtain ⟨hlt, he⟩ := List.getElem?_eq_some_iff.1 h
  rw [List.take_succ_eq_append_getElem hlt, List.flatten_append, he]; simp
def CcR1 (L : List (List Int)) (w : World) (s i : Value) (wr : World) : Prop :=
  ∃ k : Nat, k ≤ L.length ∧ i = .int .i64 k ∧ s = .int .i64 ((L.take k).flatten.length : Nat) ∧ w = wr
def CcR2 (L : List (List Int)) (w : World) (v i : Value) (wr : World) : Prop :=
  ∃ k : Nat, k ≤ L.length ∧ i = .int .i64 k ∧ Own8 wr w.heap.size v (L.take k).flatten ∧ Below w.heap.size w wr
set_option maxHeartbeats 8000000 in
theorem concat_any {A : Option Addr} {n c : Nat} {L : List (List Int)} {w : World} (hp : Pts w A n c L) (hl : L.flatten.length ≤ 1099511627776) (hn : n ≤ 1099511627776) :
    Calls Tryd.prog 67 #[.slice A n c] w (AnsOb L.flatten w) := by
  have hlen := hp.len
  have HLEN := Lib.hid hlen
  clear hlen
  go_enter Tryd.func67, Tryd.ntmps67
  go_wp2_with fail
  go_loopw [3, 11] (fun s i wr => CcR1 L w s i wr) (fun _ i _ => n - (intOf i).toNat)
  case atStart => exact ⟨0, Nat.zero_le _, rfl, rfl, rfl⟩
  case round =>
    obtain ⟨k, hk, rfl, rfl, rfl⟩ := hrel
    rw [HLEN.out] at hk
    rcases Nat.lt_or_ge k n with hlt | hge
    · obtain ⟨b, off, rfl, hbl, hc⟩ := hp.cells (by omega)
      obtain ⟨Aj, cj, xs, hx, hcell, hbs⟩ := hc k hlt
      have hf := fl_take_len L (k + 1)
      rw [fl_snoc hx, List.length_append] at hf
      obtain ⟨m, hm⟩ : ∃ m, xs.length = m := ⟨_, rfl⟩
      obtain ⟨fk, hfk⟩ : ∃ fk, (L.take k).flatten.length = fk := ⟨_, rfl⟩
      rw [hm] at hf hcell
      rw [hfk] at hf ⊢
      have HX := Lib.hid hx
      have HM := Lib.hid hm
      have HFK := Lib.hid hfk
      have hkn : (k : Int) < (n : Int) := by omega
      have t2 : decide ((fk : Int) + (m : Int) < 0) = false := by simp; omega
      clear hx hm hfk hc hbs
      go_wp2_with fail
      go_roundw
      case rel => exact ⟨k + 1, by rw [HLEN.out]; exact hlt, by go_num, by rw [fl_snoc HX.out, List.length_append, HFK.out, HM.out]; go_num, rfl⟩
      case measure => simp [intOf]; omega
    · have hkn : k = n := by omega
      rw [hkn, ← HLEN.out, List.take_length]
      obtain ⟨F, hF⟩ : ∃ F, L.flatten.length = F := ⟨_, rfl⟩
      rw [hF] at hl ⊢
      have HF := Lib.hid hF
      rw [HLEN.out]
      clear hF hkn hge hk
      go_wp2_with fail
      refine (grow_any F hl _).mono ?_
      rintro e w1 ⟨v1, rfl, ho1, hb1⟩
      have HO1 := Lib.hid ho1
      clear ho1
      go_wp2_with fail
      go_loopw [6, 27] (fun v i wr => CcR2 L w v i wr) (fun _ i _ => n - (intOf i).toNat)
      case atStart => exact ⟨0, Nat.zero_le _, rfl, HO1.out, hb1⟩
      case round =>
        clear HO1 hb1
        obtain ⟨k, hk, rfl, ho, hb⟩ := hrel
        rw [HLEN.out] at hk
        rcases Nat.lt_or_ge k n with hlt | hge
        · obtain ⟨b, off, rfl, hbl, hc⟩ := hp.cells (by omega)
          obtain ⟨Aj, cj, xs, hx, hcell, hbs⟩ := hc k hlt
          have hcell := (hb.cell (p := ⟨b, off + k, none⟩) hbl).trans hcell
          have hf := fl_take_len L (k + 1)
          rw [fl_snoc hx, List.length_append, HF.out] at hf
          obtain ⟨m, hm⟩ : ∃ m, xs.length = m := ⟨_, rfl⟩
          obtain ⟨fk, hfk⟩ : ∃ fk, (L.take k).flatten.length = fk := ⟨_, rfl⟩
          rw [hm] at hf hcell hbs
          rw [hfk] at hf
          obtain ⟨Lk, hLk⟩ : ∃ Lk, (L.take k).flatten = Lk := ⟨_, rfl⟩
          rw [hLk] at hfk ho
          have HLK := Lib.hid hLk
          have HX := Lib.hid hx
          have HM := Lib.hid hm
          have HFK := Lib.hid hfk
          have HO := Lib.hid ho
          have HR := Lib.hid (hbs.below hb).rd
          have hkn : (k : Int) < (n : Int) := by omega
          have s1 := hb.size
          clear hx hm hfk ho hc hbs hLk
          go_wp2_with (at_builtin; refine wpList_cat8 _ rfl _ _ 24 rfl w.heap.size 5 .u8 Tryd.underlying24 info8u _ _ Lk rfl HO.out _ _ _ xs rfl HR.out (by rw [HFK.out]; omega) (by omega) ?_)
          rintro v3 w3 h3 hg3
          rw [HFK.out] at h3
          have b3 := own_below hb HO.out hg3 (by omega) (Nat.le_refl _)
          have H3 := Lib.hid h3
          clear h3
          go_wp2_with fail
          go_roundw
          case rel =>
            refine ⟨k + 1, by rw [HLEN.out]; exact hlt, by go_num, ?_, b3⟩
            rw [fl_snoc HX.out, HLK.out]
            exact Own8.app HFK.out HM.out (by simpa using H3.out)
          case measure => simp [intOf]; omega
        · have hkn : k = n := by omega
          rw [hkn, ← HLEN.out, List.take_length] at ho
          have t1 : decide ((k : Int) < (n : Int)) = false := by simp; omega
          clear hkn
          go_wp2_with fail
          go_ret
          exact ⟨_, rfl, ho, hb⟩
end Go.Proofs.YtjalncdllegfoaaDoor
