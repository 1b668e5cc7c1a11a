/-
  What slices.Grow and slices.Concat answer for bytes.
-/
import Derived.Test.YtnfncaaclpddkaaDoorFrm
import Derived.Lib.AppendZerosOnto
namespace Go.Proofs.YtnfncaaclpddkaaDoor
open Go.RowKit
set_option linter.unusedVariables false
theorem grow_run (w : World) (base : Nat) (m : Nat) (hm : 0 < m) (hnm : m ≤ 1099511627776) (hbase : base ≤ w.heap.size) :
    ∃ cap w', (∀ ty, (Builtin.append_ #[22, 3] ty #[.slice none 0 0, .int .i64 m]).run Tryd.prog w = .ok (.slice (some ⟨w.heap.size, 0, none⟩) m cap) w') ∧ Own8 w' base (.slice (some ⟨w.heap.size, 0, none⟩) 0 cap) [] ∧ Below w.heap.size w w' := by
  obtain ⟨i, h1, h2, h3, h4⟩ := info_parts info8u
  have hr := fun ty => Lib.run_append_nil_zeros (P := Tryd.prog) w 22 3 ty 5 i (.int .u8 0) .i64 .i64 Tryd.underlying22 Tryd.underlying3 h1 h2 m hm (by omega) (by omega) (by rw [h4]; omega)
  refine ⟨_, _, hr, ?_, (Below.refl _ _).drew.alloc (by simp) _⟩
  have hge := grownCap_ge w m 0 5
  have hcm : grownCap w m 0 5 ≤ maxLen := grownCap_le_maxLen w m 0 5 (by unfold maxLen; omega)
  refine ⟨rfl, .inr ⟨w.heap.size, _, _, rfl, hbase, Go.heap_alloc_new w.drew _, Nat.zero_le _, hcm, ?_, by simp⟩⟩
  simp [Builtin.zeroCells, Value.cells]
  omega
/-- A slice with nothing in it, to append to. -/
def AnsE (w : World) (e : Ending) (w' : World) : Prop := ∃ v, e = .returned v ∧ Own8 w' w.heap.size v [] ∧ Below w.heap.size w w'
set_option maxHeartbeats 4000000 in
theorem grow_any (m : Nat) (hnm : m ≤ 1099511627776) (w : World) :
    Calls Tryd.prog 34 #[.slice none 0 0, .int .i64 m] w (AnsE w) := by
  rcases Nat.eq_zero_or_pos m with hm | hm
  · have t1 : decide ((0 : Int) < (m : Int)) = false := by simp; omega
    have t2 : decide ((m : Int) < 0) = false := by simp
    have t3 : ¬ 0 < m := by omega
    have t4 : decide (0 < m) = false := by simp; omega
    clear hm
    go_enter Tryd.func34, Tryd.ntmps34
    go_wp2_with fail
    go_ret
    exact ⟨_, rfl, Own8.nil _ _, Below.refl _ _⟩
  · obtain ⟨cap, w', hrun, ho, hb⟩ := grow_run w w.heap.size m hm hnm (Nat.le_refl _)
    have t1 : decide ((0 : Int) < (m : Int)) = true := by simp; omega
    have t2 : decide ((m : Int) < 0) = false := by simp
    have t3 : 0 < m := hm
    go_enter Tryd.func34, Tryd.ntmps34
    go_wp2_with (at_builtin; refine Lib.wpList_append_run _ rfl _ _ 22 3 rfl _ _ rfl rfl _ w' (hrun _) ?_)
    go_ret
    exact ⟨_, rfl, ho, hb⟩
theorem fl_take_len (L : List (List Int)) (k : Nat) : (L.take k).flatten.length ≤ L.flatten.length := by
  have h : L.flatten = (L.take k).flatten ++ (L.drop k).flatten := by rw [← List.flatten_append, List.take_append_drop]
  rw [h, List.length_append]; omega
theorem fl_snoc {L : List (List Int)} {k : Nat} {xs : List Int} (h : L[k]? = some xs) : (L.take (k + 1)).flatten = (L.take k).flatten ++ xs := by
  obtain ⟨hlt, he⟩ := List.getElem?_eq_some_iff.1 h
  rw [List.take_succ_eq_append_getElem hlt, List.flatten_append, he]; simp
def CcR1 (L : List (List Int)) (w : World) (s i : Value) (wr : World) : Prop :=
  ∃ k : Nat, k ≤ L.length ∧ i = .int .i64 k ∧ s = .int .i64 ((L.take k).flatten.length : Nat) ∧ w = wr
def CcR2 (L : List (List Int)) (w : World) (v i : Value) (wr : World) : Prop :=
  ∃ k : Nat, k ≤ L.length ∧ i = .int .i64 k ∧ Own8 wr w.heap.size v (L.take k).flatten ∧ Below w.heap.size w wr
set_option maxHeartbeats 8000000 in
theorem concat_any {A : Option Addr} {n c : Nat} {L : List (List Int)} {w : World} (hp : Pts w A n c L) (hl : L.flatten.length ≤ 1099511627776) (hn : n ≤ 1099511627776) :
    Calls Tryd.prog 26 #[.slice A n c] w (AnsO L.flatten w) := by
  have hlen := hp.len
  have HLEN := Lib.hid hlen
  clear hlen
  go_enter Tryd.func26, Tryd.ntmps26
  go_wp2_with fail
  go_loopw [3, 11] (fun s i wr => CcR1 L w s i wr) (fun _ i _ => n - (intOf i).toNat)
  case atStart => exact ⟨0, Nat.zero_le _, rfl, rfl, rfl⟩
  case round =>
    obtain ⟨k, hk, rfl, rfl, rfl⟩ := hrel
    rw [HLEN.out] at hk
    rcases Nat.lt_or_ge k n with hlt | hge
    · obtain ⟨b, off, rfl, hbl, hc⟩ := hp.cells (by omega)
      obtain ⟨Aj, cj, xs, hx, hcell, hbs⟩ := hc k hlt
      have hf := fl_take_len L (k + 1)
      rw [fl_snoc hx, List.length_append] at hf
      obtain ⟨m, hm⟩ : ∃ m, xs.length = m := ⟨_, rfl⟩
      obtain ⟨fk, hfk⟩ : ∃ fk, (L.take k).flatten.length = fk := ⟨_, rfl⟩
      rw [hm] at hf hcell
      rw [hfk] at hf ⊢
      have HX := Lib.hid hx
      have HM := Lib.hid hm
      have HFK := Lib.hid hfk
      have hkn : (k : Int) < (n : Int) := by omega
      have t2 : decide ((fk : Int) + (m : Int) < 0) = false := by simp; omega
      clear hx hm hfk hc hbs
      go_wp2_with fail
      go_roundw
      case rel => exact ⟨k + 1, by rw [HLEN.out]; exact hlt, by go_num, by rw [fl_snoc HX.out, List.length_append, HFK.out, HM.out]; go_num, rfl⟩
      case measure => simp [intOf]; omega
    · have hkn : k = n := by omega
      rw [hkn, ← HLEN.out, List.take_length]
      obtain ⟨F, hF⟩ : ∃ F, L.flatten.length = F := ⟨_, rfl⟩
      rw [hF] at hl ⊢
      have HF := Lib.hid hF
      rw [HLEN.out]
      clear hF hkn hge hk
      go_wp2_with fail
      refine (grow_any F hl _).mono ?_
      rintro e w1 ⟨v1, rfl, ho1, hb1⟩
      have HO1 := Lib.hid ho1
      clear ho1
      go_wp2_with fail
      go_loopw [6, 27] (fun v i wr => CcR2 L w v i wr) (fun _ i _ => n - (intOf i).toNat)
      case atStart => exact ⟨0, Nat.zero_le _, rfl, HO1.out, hb1⟩
      case round =>
        clear HO1 hb1
        obtain ⟨k, hk, rfl, ho, hb⟩ := hrel
        rw [HLEN.out] at hk
        rcases Nat.lt_or_ge k n with hlt | hge
        · obtain ⟨b, off, rfl, hbl, hc⟩ := hp.cells (by omega)
          obtain ⟨Aj, cj, xs, hx, hcell, hbs⟩ := hc k hlt
          have hcell := (hb.cell (p := ⟨b, off + k, none⟩) hbl).trans hcell
          have hf := fl_take_len L (k + 1)
          rw [fl_snoc hx, List.length_append, HF.out] at hf
          obtain ⟨m, hm⟩ : ∃ m, xs.length = m := ⟨_, rfl⟩
          obtain ⟨fk, hfk⟩ : ∃ fk, (L.take k).flatten.length = fk := ⟨_, rfl⟩
          rw [hm] at hf hcell hbs
          rw [hfk] at hf
          obtain ⟨Lk, hLk⟩ : ∃ Lk, (L.take k).flatten = Lk := ⟨_, rfl⟩
          rw [hLk] at hfk ho
          have HLK := Lib.hid hLk
          have HX := Lib.hid hx
          have HM := Lib.hid hm
          have HFK := Lib.hid hfk
          have HO := Lib.hid ho
          have HR := Lib.hid (hbs.below hb).rd
          have hkn : (k : Int) < (n : Int) := by omega
          have s1 := hb.size
          clear hx hm hfk ho hc hbs hLk
          go_wp2_with (at_builtin; refine wpList_cat8 _ rfl _ _ 22 rfl w.heap.size 5 .u8 Tryd.underlying22 info8u _ _ Lk rfl HO.out _ _ _ xs rfl HR.out (by rw [HFK.out]; omega) (by omega) ?_)
          rintro v3 w3 h3 hg3
          rw [HFK.out] at h3
          have b3 := own_below hb HO.out hg3 (by omega) (Nat.le_refl _)
          have H3 := Lib.hid h3
          clear h3
          go_wp2_with fail
          go_roundw
          case rel =>
            refine ⟨k + 1, by rw [HLEN.out]; exact hlt, by go_num, ?_, b3⟩
            rw [fl_snoc HX.out, HLK.out]
            exact Own8.app HFK.out HM.out (by simpa using H3.out)
          case measure => simp [intOf]; omega
        · have hkn : k = n := by omega
          rw [hkn, ← HLEN.out, List.take_length] at ho
          have t1 : decide ((k : Int) < (n : Int)) = false := by simp; omega
          clear hkn
          go_wp2_with fail
          go_ret
          exact ⟨_, rfl, ho, hb⟩
end Go.Proofs.YtnfncaaclpddkaaDoor
