/-
  What scheduled answers: the words of a block, drawn out to 64.
-/
import Derived.Test.YtloibmemlkfkfaaGreatDoorHsa
import Derived.Deep.QuietTactic
import Derived.BigQuiet
import Derived.RegionTactic
import Derived.BigRegion
import Derived.IntWalk
namespace Go.Proofs.YtloibmemlkfkfaaGreatDoor
open Go.RowKit
set_option linter.unusedVariables false
theorem set_next {l : List Int} {k m : Nat} (hl : l.length = k) (x : Int) : (l ++ List.replicate (m + 1) 0).set k x = (l ++ [x]) ++ List.replicate m 0 := by
  rw [List.set_append_right _ _ (by omega), hl, Nat.sub_self, List.replicate_succ]
  simp
theorem dig_app {l m : List Int} {j : Nat} (h : j < l.length) : dig (l ++ m) j = dig l j := by
  unfold dig
  rw [List.getD_eq_getElem?_getD, List.getD_eq_getElem?_getD, List.getElem?_append_left h]
/-- Four bytes, shifted and put together. -/
theorem or_word {a b c d : Int} (ha : 0 ≤ a ∧ a < 256) (hb : 0 ≤ b ∧ b < 256) (hc : 0 ≤ c ∧ c < 256) (hd : 0 ≤ d ∧ d < 256) :
    bits .or .u32 (bits .or .u32 (bits .or .u32 (a * 16777216) (b * 65536)) (c * 256)) d = ((a * 256 + b) * 256 + c) * 256 + d := by
  rw [bits_join .u32 32 (by decide) wraps_u32 24 (a * 16777216) (b * 65536) (by omega) (by omega) (by omega) (by omega) (by omega) (by omega)]
  rw [bits_join .u32 32 (by decide) wraps_u32 16 (a * 16777216 + b * 65536) (c * 256) (by omega) (by omega) (by omega) (by omega) (by omega) (by omega)]
  rw [bits_join .u32 32 (by decide) wraps_u32 8 (a * 16777216 + b * 65536 + c * 256) d (by omega) (by omega) (by omega) (by omega) (by omega) (by omega)]
  omega
theorem ad4 (a b c d : Int) : ad (ad (ad a b) c) d = (a + b + c + d) % 4294967296 := by
  unfold ad; rw [IntKind.wrap_u32, IntKind.wrap_u32, IntKind.wrap_u32]; omega
theorem Row.cut {w : World} {g : Nat} {t : TypeId} {k : IntKind} {xs : List Int} (h : Row w g t k xs) {a : Addr} (hne : g ≠ a.block) (v : Value) : Row (w.setCell a v) g t k xs := (Below.heap_setCell w a v g hne).trans h
theorem size66 : (Tryz.prog.info? 187).map (·.size) = some 64 := by kernel_rfl
def SdR1 (blk : List Int) (w : World) (i : Value) (wr : World) : Prop :=
  ∃ k : Nat, k ≤ 16 ∧ i = .int .i64 k ∧ Row wr w.heap.size 187 .u32 (List.replicate 64 0) ∧ Row wr (w.heap.size + 1) 187 .u32 (bwN blk k ++ List.replicate (64 - k) 0) ∧ Below w.heap.size w wr
def SdR2 (blk : List Int) (w : World) (i : Value) (wr : World) : Prop :=
  ∃ n k : Nat, n = k + 16 ∧ n ≤ 64 ∧ i = .int .i64 n ∧ Row wr w.heap.size 187 .u32 (List.replicate 64 0) ∧ Row wr (w.heap.size + 1) 187 .u32 (ext (bwN blk 16) k ++ List.replicate (64 - n) 0) ∧ Below w.heap.size w wr
/-- An array's cells are answered. -/
def AnsA (k : IntKind) (l : List Int) (w : World) (e : Ending) (w' : World) : Prop := e = .returned (.agg (arrV k l)) ∧ Below w.heap.size w w'
set_option maxHeartbeats 8000000 in
set_option maxRecDepth 100000 in
theorem scheduled_any {A : Option Addr} {c : Nat} {blk : List Int} {w : World} (hr : Rd .u8 w A 64 blk) (hd : Dig 256 blk) :
    Calls Tryz.prog 161 #[.slice A 64 c] w (AnsA .u32 (sched blk) w) := by
  obtain ⟨b, off, rfl, hb, hc⟩ := hr.cells (by omega)
  have hl := hr.len
  have HC := Lib.hid hc
  have HL := Lib.hid hl
  have HD := Lib.hid hd
  clear hc hl hd
  go_enter Tryz.func161, Tryz.ntmps161
  go_wp2_with fail
  go_loopw [10] (fun i wr => SdR1 blk w i wr) (fun i _ => 16 - (intOf i).toNat)
  case atStart =>
    have hr := Row.new (w.alloc (.cells ((List.replicate 64 0).map (Value.int .u32)).toArray 187)) 187 .u32 (List.replicate 64 0)
    rw [show (w.alloc (.cells ((List.replicate 64 0).map (Value.int .u32)).toArray 187)).heap.size = w.heap.size + 1 by simp] at hr
    exact ⟨0, by omega, rfl, (Row.new w 187 .u32 (List.replicate 64 0)).alloc _, hr, ((Below.refl _ _).alloc (Nat.le_refl _) _).alloc (by simp) _⟩
  case round =>
    obtain ⟨k, hk, rfl, hr0, hr1, hbe⟩ := hrel
    rcases Nat.lt_or_ge k 16 with hlt | hge
    · obtain ⟨x0, hx0⟩ : ∃ x, dig blk (4 * k) = x := ⟨_, rfl⟩
      obtain ⟨x1, hx1⟩ : ∃ x, dig blk (4 * k + 1) = x := ⟨_, rfl⟩
      obtain ⟨x2, hx2⟩ : ∃ x, dig blk (4 * k + 2) = x := ⟨_, rfl⟩
      obtain ⟨x3, hx3⟩ : ∃ x, dig blk (4 * k + 3) = x := ⟨_, rfl⟩
      have hl := HL.out
      have c0 := (hbe.cell (p := ⟨b, off + (4 * k), none⟩) hb).trans (HC.out _ _ (getElem?_dig (show 4 * k < blk.length by omega)))
      have c1 := (hbe.cell (p := ⟨b, off + (4 * k + 1), none⟩) hb).trans (HC.out _ _ (getElem?_dig (show 4 * k + 1 < blk.length by omega)))
      have c2 := (hbe.cell (p := ⟨b, off + (4 * k + 2), none⟩) hb).trans (HC.out _ _ (getElem?_dig (show 4 * k + 2 < blk.length by omega)))
      have c3 := (hbe.cell (p := ⟨b, off + (4 * k + 3), none⟩) hb).trans (HC.out _ _ (getElem?_dig (show 4 * k + 3 < blk.length by omega)))
      have d0 := dig_bd (b := 256) (by decide) HD.out (4 * k)
      have d1 := dig_bd (b := 256) (by decide) HD.out (4 * k + 1)
      have d2 := dig_bd (b := 256) (by decide) HD.out (4 * k + 2)
      have d3 := dig_bd (b := 256) (by decide) HD.out (4 * k + 3)
      rw [hx0] at c0 d0
      rw [hx1] at c1 d1
      rw [hx2] at c2 d2
      rw [hx3] at c3 d3
      have HW := Lib.hid (show wdAt blk k = ((x0 * 256 + x1) * 256 + x2) * 256 + x3 by unfold wdAt; rw [hx0, hx1, hx2, hx3])
      have HOR := Lib.hid (or_word d0 d1 d2 d3)
      clear hx0 hx1 hx2 hx3 hl
      have hzl : (bwN blk k ++ List.replicate (64 - k) 0).length = 64 := by rw [List.length_append, bwN_len, List.length_replicate]; omega
      have fz := hr1.frozen k
      have cz := hr1.cell (getElem?_dig (show k < (bwN blk k ++ List.replicate (64 - k) 0).length by omega))
      generalize dig (bwN blk k ++ List.replicate (64 - k) 0) k = old at cz
      have HR0 := Lib.hid hr0
      have HR1 := Lib.hid hr1
      have hnb : b ≠ w.heap.size + 1 := by omega
      have i0 : (4 * (k : Int)) < 64 := by omega
      have i1 : (4 * (k : Int)) + 1 < 64 := by omega
      have i2 : (4 * (k : Int)) + 2 < 64 := by omega
      have i3 : (4 * (k : Int)) + 3 < 64 := by omega
      clear hr0 hr1 hzl
      go_wp2_with fail
      go_region
      all_goals
        go_wp2
        go_roundw
        case rel =>
          refine ⟨k + 1, by omega, by go_num, (HR0.out.cut (by show w.heap.size ≠ w.heap.size + 1; omega) _).drew, ?_, (hbe.setCell (by show w.heap.size ≤ w.heap.size + 1; omega) _).drew⟩
          have h := HR1.out.set k (wdAt blk k)
          obtain ⟨m, hm⟩ : ∃ m, 64 - k = m + 1 := ⟨64 - k - 1, by omega⟩
          rw [hm, set_next (bwN_len blk k), ← bwN_succ, show m = 64 - (k + 1) by omega, HW.out, ← HOR.out] at h
          exact h.drew
        case measure => simp [intOf]; omega
    · have hk16 : decide ((k : Int) < 16) = false := by simp; omega
      have hke : k = 16 := by omega
      rw [hke] at hr1
      clear hb hge hk hke
      have HR0 := Lib.hid hr0
      have HR1 := Lib.hid hr1
      have HBE := Lib.hid hbe
      clear hr0 hr1 hbe
      go_wp2_with fail
      go_loopw [5] (fun i wr => SdR2 blk w i wr) (fun i _ => 64 - (intOf i).toNat)
      case atStart => exact ⟨16, 0, rfl, by omega, rfl, HR0.out, HR1.out, HBE.out⟩
      case round =>
        clear HR0 HR1 HBE
        clear hk16
        obtain ⟨n, k, hnk, hn, rfl, hr0, hr1, hbe⟩ := hrel
        have hel : (ext (bwN blk 16) k).length = n := by rw [ext_len, bwN_len]; omega
        rcases Nat.lt_or_ge n 64 with hlt | hge
        · have hn16 : 16 ≤ n := by omega
          obtain ⟨p15, h15⟩ : ∃ p, p + 15 = n := ⟨n - 15, by omega⟩
          obtain ⟨p2, h2⟩ : ∃ p, p + 2 = n := ⟨n - 2, by omega⟩
          obtain ⟨p16, h16⟩ : ∃ p, p + 16 = n := ⟨n - 16, by omega⟩
          obtain ⟨p7, h7⟩ : ∃ p, p + 7 = n := ⟨n - 7, by omega⟩
          have hwd : Wds (ext (bwN blk 16) k) := ext_wds (bwN_wds HD.out 16) k
          have cell : ∀ j, j < n → wr.cell? ⟨w.heap.size + 1, j, none⟩ = some (.int .u32 (dig (ext (bwN blk 16) k) j)) := fun j hj => by
            rw [← dig_app (m := List.replicate (64 - n) 0) (by omega)]
            exact hr1.cell (getElem?_dig (by rw [List.length_append, List.length_replicate]; omega))
          have c15 := cell p15 (by omega)
          have c2 := cell p2 (by omega)
          have c16 := cell p16 (by omega)
          have c7 := cell p7 (by omega)
          have w15 := dig_wd hwd p15
          have w2 := dig_wd hwd p2
          have HN := Lib.hid (show nxt (ext (bwN blk 16) k) = ad (ad (ad (dig (ext (bwN blk 16) k) p16) (sg0 (dig (ext (bwN blk 16) k) p15))) (dig (ext (bwN blk 16) k) p7)) (sg1 (dig (ext (bwN blk 16) k) p2)) by
            unfold nxt
            rw [hel, show n - 16 = p16 by omega, show n - 15 = p15 by omega, show n - 7 = p7 by omega, show n - 2 = p2 by omega])
          have g15 : (n : Int) - 15 = (p15 : Int) := by omega
          have g2 : (n : Int) - 2 = (p2 : Int) := by omega
          have g16 : (n : Int) - 16 = (p16 : Int) := by omega
          have g7 : (n : Int) - 7 = (p7 : Int) := by omega
          have l15 : (p15 : Int) < 64 := by omega
          have l2 : (p2 : Int) < 64 := by omega
          have l16 : (p16 : Int) < 64 := by omega
          have l7 : (p7 : Int) < 64 := by omega
          have v15 : IntKind.i64.wrap (p15 : Int) = (p15 : Int) := IntWalk.i64_in _ (by omega)
          have v2 : IntKind.i64.wrap (p2 : Int) = (p2 : Int) := IntWalk.i64_in _ (by omega)
          have v16 : IntKind.i64.wrap (p16 : Int) = (p16 : Int) := IntWalk.i64_in _ (by omega)
          have v7 : IntKind.i64.wrap (p7 : Int) = (p7 : Int) := IntWalk.i64_in _ (by omega)
          have hzl : (ext (bwN blk 16) k ++ List.replicate (64 - n) 0).length = 64 := by rw [List.length_append, hel, List.length_replicate]; omega
          have fz := hr1.frozen n
          have cz := hr1.cell (getElem?_dig (show n < (ext (bwN blk 16) k ++ List.replicate (64 - n) 0).length by omega))
          generalize dig (ext (bwN blk 16) k ++ List.replicate (64 - n) 0) n = old at cz
          have HNK := Lib.hid hnk
          have HEL := Lib.hid hel
          generalize dig (ext (bwN blk 16) k) p15 = y15 at *
          generalize dig (ext (bwN blk 16) k) p2 = y2 at *
          generalize dig (ext (bwN blk 16) k) p16 = y16 at *
          generalize dig (ext (bwN blk 16) k) p7 = y7 at *
          have HR0 := Lib.hid hr0
          have HR1 := Lib.hid hr1
          clear cell hr0 hr1 hzl hnk hel h15 h2 h16 h7 hwd
          go_wp2_with fail
          go_quiet (fail)
          go_wp2_with fail
          refine (right_lit 7 rfl (by omega) (by omega) y15 w15 _).mono ?_
          rintro e w1 ⟨rfl, rfl⟩
          go_wp2_with fail
          refine (right_lit 18 rfl (by omega) (by omega) y15 w15 _).mono ?_
          rintro e w1 ⟨rfl, rfl⟩
          go_wp2_with fail
          refine (right_lit 17 rfl (by omega) (by omega) y2 w2 _).mono ?_
          rintro e w1 ⟨rfl, rfl⟩
          go_wp2_with fail
          refine (right_lit 19 rfl (by omega) (by omega) y2 w2 _).mono ?_
          rintro e w1 ⟨rfl, rfl⟩
          go_wp2_with fail
          go_region
          all_goals
            go_wp2
            go_roundw
            case rel =>
              refine ⟨n + 1, k + 1, by have := HNK.out; omega, by omega, by go_num, (HR0.out.drewN _).cut (by show w.heap.size ≠ w.heap.size + 1; omega) _, ?_, (below_drewN hbe _).setCell (by show w.heap.size ≤ w.heap.size + 1; omega) _⟩
              have h := (HR1.out.drewN (nq + 1)).set n (nxt (ext (bwN blk 16) k))
              obtain ⟨m, hm⟩ : ∃ m, 64 - n = m + 1 := ⟨64 - n - 1, by omega⟩
              rw [hm, set_next HEL.out, show m = 64 - (n + 1) by omega, HN.out, ad4] at h
              rw [show ext (bwN blk 16) (k + 1) = ext (bwN blk 16) k ++ [nxt (ext (bwN blk 16) k)] from rfl, HN.out, ad4]
              exact h
            case measure => simp [intOf]; omega
        · obtain rfl : n = 64 := by omega
          obtain rfl : k = 48 := by omega
          have HR0 := Lib.hid hr0
          have HR1 := Lib.hid (show Row wr (w.heap.size + 1) 187 .u32 (sched blk) by rw [show 64 - 64 = 0 from rfl, List.replicate_zero, List.append_nil] at hr1; exact hr1)
          have HSZ := Lib.hid (show (arrV .u32 (sched blk)).size = 64 by rw [arrV_size, sched_len])
          have hone := arrV_one .u32 (sched blk)
          clear hr0 hr1 hel hnk
          obtain ⟨V, hV⟩ : ∃ V, arrV .u32 (sched blk) = V := ⟨_, rfl⟩
          have HG1 := Lib.hid (show wr.heap[w.heap.size + 1]? = some (.cells V 187 (0, 0)) by rw [← hV]; exact HR1.out)
          have HG0 := Lib.hid (show wr.heap[w.heap.size]? = some (.cells (arrV .u32 (List.replicate 64 0)) 187 (0, 0)) from HR0.out)
          rw [hV] at HSZ hone
          have HV := Lib.hid hV
          clear hV HR1 HR0
          go_wp2_with (first | (refine wpList_load_row rfl 187 (.tmp 3) rfl (w.heap.size + 1) rfl _ V _ _ HG1.out Tryz.underlying187 rfl ?h1 ?_) | (refine wpList_store_row rfl 187 (.tmp 2) (.tmp 92) rfl w.heap.size V rfl rfl _ _ HG0.out ?h2 ?h3 hone ?_))
          case h1 => rw [HSZ.out]; exact size66
          case h2 => rw [HSZ.out]; exact size66
          case h3 => rw [HSZ.out]; rfl
          refine bodyPost_ret (v := .agg V) (results_cell_row Tryz.results161 _ _ w.heap.size _ V _ _ rfl (setRow_heap wr _ _ V _ _ HG0.out) Tryz.underlying187 rfl (by rw [HSZ.out]; exact size66)) rfl ?_
          exact ⟨by rw [HV.out], below_setRow hbe (Nat.le_refl _) _⟩
end Go.Proofs.YtloibmemlkfkfaaGreatDoor
