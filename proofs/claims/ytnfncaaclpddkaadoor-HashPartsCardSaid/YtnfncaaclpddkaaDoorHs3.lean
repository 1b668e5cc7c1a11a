/-
  What masked and padded answer.
-/
import Derived.Test.YtnfncaaclpddkaaDoorHs2
import Derived.Test.YtnfncaaclpddkaaDoorCpy
import Derived.Deep.DeepCutAuto
namespace Go.Proofs.YtnfncaaclpddkaaDoor
open Go.RowKit
set_option linter.unusedVariables false
/-- The cells of an array of integers. -/
def arrV (k : IntKind) (l : List Int) : Array Value := (l.map (Value.int k)).toArray
theorem arrV_size (k : IntKind) (l : List Int) : (arrV k l).size = l.length := by simp [arrV]
theorem arrV_at (kk : IntKind) (l : List Int) {k : Nat} (h : k < l.length) : (arrV kk l)[k]? = some (.int kk (dig l k)) := by
  have e := getElem?_dig h
  unfold arrV
  rw [List.getElem?_toArray, List.getElem?_map, e]; rfl
theorem arrV_one (kk : IntKind) (l : List Int) : (arrV kk l).all (·.oneCell') = true := by
  rw [Array.all_eq_true_iff_forall_mem]
  intro v hv
  obtain ⟨x, _, rfl⟩ := List.mem_map.1 (by simpa [arrV] using hv)
  rfl
theorem size55 : (Tryd.prog.info? 55).map (·.size) = some 64 := by kernel_rfl
theorem mask_len (m : Int) (b : List Int) : (mask m b).length = b.length := by simp [mask]
theorem mask_dig_at (m : Int) (b : List Int) {j : Nat} (h : j < b.length) : dig (mask m b) j = bits .xor .u8 (dig b j) m := by
  refine dig_lt ?_
  unfold mask
  rw [List.getElem?_map, getElem?_dig h]; rfl
theorem mask_dig (m : Int) (b : List Int) : Dig 256 (mask m b) := by
  intro x hx
  simp only [mask, List.mem_map] at hx
  obtain ⟨y, _, rfl⟩ := hx
  unfold bits; rw [IntKind.wrap_u8]; omega
def MkR (m : Int) (b : List Int) (w : World) (i : Value) (wr : World) : Prop :=
  ∃ (k : Nat) (zs : List Int), k ≤ 64 ∧ i = .int .i64 k ∧ Row wr (w.heap.size + 1) 5 .u8 zs ∧ zs.length = 64 ∧ (∀ j, j < k → dig zs j = bits .xor .u8 (dig b j) m) ∧ Below w.heap.size w wr
set_option maxHeartbeats 4000000 in
set_option maxRecDepth 100000 in
theorem masked_any (m : Int) (b : List Int) (hb : b.length = 64) (w : World) :
    Calls Tryd.prog 27 #[.agg (arrV .u8 b), .int .u8 m] w (AnsO (mask m b) w) := by
  have h0 := heap_alloc_new w (.cells (arrV .u8 b) 55)
  have hsz := arrV_size .u8 b
  have hat := fun k (h : k < b.length) => arrV_at .u8 b h
  obtain ⟨V, hV⟩ : ∃ V, V = arrV .u8 b := ⟨_, rfl⟩
  rw [← hV] at h0 hsz ⊢
  rw [← hV] at hat
  have HAT := Lib.hid hat
  have H0 := Lib.hid h0
  have hmk := fun W => run_make8 64 (C := 64) rfl (by omega) W
  have h0' := (Below.heap_alloc (w.alloc (.cells V 55)) (.cells ((List.replicate 64 0).map (Value.int .u8)).toArray 5) w.heap.size (by simp)).trans H0.out
  obtain ⟨Z, hZ⟩ : ∃ Z : List Int, Z = List.replicate 64 0 := ⟨_, rfl⟩
  rw [← hZ] at hmk h0'
  have H0' := Lib.hid h0'
  have HZ := Lib.hid hZ
  have HB := Lib.hid hb
  clear hZ h0' hV h0 hat hb
  go_enter Tryd.func27, Tryd.ntmps27
  go_wp2_with (refine wpList_load_row rfl 55 (.tmp 2) rfl w.heap.size rfl _ V _ _ H0'.out Tryd.underlying55 rfl (by rw [hsz, HB.out]; exact size55) ?_)
  clear hmk hsz
  go_loopw [10] (fun i wr => MkR m b w i wr) (fun i _ => 64 - (intOf i).toNat)
  case atStart =>
    have hr := Row.new (w.alloc (.cells V 55)) 5 .u8 Z
    rw [show (w.alloc (.cells V 55)).heap.size = w.heap.size + 1 by simp] at hr
    exact ⟨0, Z, by omega, rfl, hr, by rw [HZ.out]; simp, fun j h => by omega, ((Below.refl _ _).alloc (Nat.le_refl _) _).alloc (by simp) _⟩
  case round =>
    obtain ⟨k, zs, hk, rfl, hrow, hzl, hz, hb⟩ := hrel
    have HZE := Lib.hid hz
    have HZL := Lib.hid hzl
    clear hz
    rcases Nat.lt_or_ge k 64 with hlt | hge
    · have fz := hrow.frozen k
      have cz := hrow.cell (getElem?_dig (show k < zs.length by omega))
      obtain ⟨x, hx⟩ : ∃ x, dig b k = x := ⟨_, rfl⟩
      have hv := HAT.out k (by rw [HB.out]; exact hlt)
      rw [hx] at hv
      have HX := Lib.hid hx
      have hidx := fun W => run_index_arr (P := Tryd.prog) Tryd.underlying55 Tryd.underlying5 size5 .i64 hlt hv W
      have HLT := hlt
      clear hzl hx hv
      go_wp2_with fail
      go_roundw
      case rel =>
        refine ⟨k + 1, _, by omega, by go_num, hrow.set _ _, by simpa using HZL.out, fun j hj => ?_, hb.setCell (by simp) _⟩
        rcases Nat.lt_or_ge j k with g | g
        · rw [dig_set_ne (by omega)]; exact HZE.out j g
        · obtain rfl : j = k := by omega
          rw [dig_set_same (by rw [HZL.out]; exact HLT), HX.out]
      case measure => simp [intOf]; omega
    · obtain rfl : k = 64 := by omega
      have hbe : zs = mask m b := ext_dig (by rw [HZL.out, mask_len, HB.out]) (fun j hj => by rw [HZL.out] at hj; rw [HZE.out j hj, mask_dig_at m b (by rw [HB.out]; exact hj)])
      have hrow' : Row wr (w.heap.size + 1) 5 .u8 (mask m b) := by rw [← hbe]; exact hrow
      have hml : (mask m b).length = 64 := by rw [mask_len, HB.out]
      have ho := Own8.of_row hrow' (show w.heap.size ≤ w.heap.size + 1 by omega) (by rw [hml]; omega)
      rw [hml] at ho
      clear hzl hbe hml hrow'
      go_wp2_with fail
      go_ret
      exact ⟨_, rfl, ho, hb⟩
/-! ### padded -/
theorem pad_steps {tail : List Int} {n S L : Nat} (hl : tail.length = n) (hS : S = 64 ∧ n + 9 ≤ 64 ∨ S = 128 ∧ 64 < n + 9) (hn : n < 64) (hL : L % 64 = n) :
    (((List.replicate S 0).take 0 ++ tail ++ (List.replicate S 0).drop (0 + n)).set n 128).take (S - 8) ++ be8 (8 * (L : Int)) ++ (((List.replicate S 0).take 0 ++ tail ++ (List.replicate S 0).drop (0 + n)).set n 128).drop (S - 8 + 8) = tail ++ pad L := by
  have hf : fillN L = S - n - 9 := by unfold fillN; omega
  have e1 : ((List.replicate S (0 : Int)).take 0 ++ tail ++ (List.replicate S 0).drop (0 + n)).set n 128 = tail ++ 128 :: List.replicate (S - n - 1) 0 := by
    rw [List.take_zero, List.nil_append, Nat.zero_add, List.drop_replicate, List.set_append_right _ _ (by omega), hl, Nat.sub_self]
    congr 1
    obtain ⟨p, hp⟩ : ∃ p, S - n = p + 1 := ⟨S - n - 1, by omega⟩
    rw [hp, List.replicate_succ]; rfl
  rw [e1]
  have e2 : (tail ++ 128 :: List.replicate (S - n - 1) (0 : Int)).take (S - 8) = tail ++ 128 :: List.replicate (S - n - 9) 0 := by
    rw [List.take_append, hl, List.take_of_length_le (by omega)]
    congr 1
    obtain ⟨p, hp⟩ : ∃ p, S - 8 - n = p + 1 := ⟨S - 8 - n - 1, by omega⟩
    rw [hp, List.take_succ_cons, List.take_replicate, Nat.min_eq_left (by omega), show S - n - 9 = p by omega]
  have e3 : (tail ++ 128 :: List.replicate (S - n - 1) (0 : Int)).drop (S - 8 + 8) = [] := by
    apply List.drop_of_length_le
    rw [List.length_append, List.length_cons, List.length_replicate]; omega
  rw [e2, e3, List.append_nil]
  unfold pad
  rw [hf]
  simp
set_option maxHeartbeats 4000000 in
set_option maxRecDepth 100000 in
theorem padded_any {A : Option Addr} {n c L : Nat} {tail : List Int} {w : World} (hr : Rd .u8 w A n tail) (hn : n < 64) (hL : L % 64 = n) (hL2 : L ≤ 1125899906842624) :
    Calls Tryd.prog 32 #[.slice A n c, .int .u64 L] w (AnsO (tail ++ pad L) w) := by
  obtain ⟨S, hS, hS2⟩ : ∃ S : Nat, (S = 64 ∧ n + 9 ≤ 64 ∨ S = 128 ∧ 64 < n + 9) ∧ True := by
    rcases Nat.lt_or_ge 64 (n + 9) with g | g
    · exact ⟨128, .inr ⟨rfl, g⟩, trivial⟩
    · exact ⟨64, .inl ⟨rfl, g⟩, trivial⟩
  have hps := pad_steps hr.len hS hn hL
  have hmk := fun W => run_make8 S (C := (S : Int)) rfl (by omega) W
  have hz := Row.new w 5 .u8 (List.replicate S 0)
  have hra := hr.alloc (.cells ((List.replicate S 0).map (Value.int .u8)).toArray 5)
  have hzl : (List.replicate S (0 : Int)).length = S := by simp
  obtain ⟨Z, hZ⟩ : ∃ Z : List Int, Z = List.replicate S 0 := ⟨_, rfl⟩
  rw [← hZ] at hmk hps hz hra hzl
  obtain ⟨w1, hcp, hrow1, hg1⟩ := copy8 hz hra (c := c) 0 S S (by omega) (by omega)
  have hl1 : (Z.take 0 ++ tail ++ Z.drop (0 + n)).length = S := by
    rw [List.length_append, List.length_append, List.length_take, List.length_drop, hr.len]; omega
  generalize Z.take 0 ++ tail ++ Z.drop (0 + n) = ys at hps hrow1 hl1
  have fz := hrow1.frozen n
  have cz := hrow1.cell (getElem?_dig (show n < ys.length by omega))
  have b1 : Below w.heap.size w w1 := below_grown ((Below.refl _ _).alloc (Nat.le_refl _) _) hg1 (by simp) (Nat.le_refl _)
  have hrow2 := hrow1.set n 128
  have b2 : Below w.heap.size w (w1.setCell ⟨w.heap.size, n, none⟩ (.int .u8 128)) := b1.setCell (Nat.le_refl _) _
  have hl2 : (ys.set n 128).length = S := by rw [List.length_set]; exact hl1
  have HPS := Lib.hid hps
  have HS := Lib.hid hS
  have HL2 := Lib.hid hl2
  have HR2 := Lib.hid hrow2
  have HB2 := Lib.hid b2
  have HB1 := Lib.hid b1
  have s1 : 8 ≤ S := by omega
  have s2 : S ≤ 128 := by omega
  have e8 : IntKind.u64.wrap (8 * (L : Int)) = 8 * (L : Int) := by rw [IntKind.wrap_u64]; omega
  have e9 : (S : Int) - 8 = ((S - 8 : Nat) : Int) := by omega
  have t1 : decide ((64 : Int) < (n : Int) + 1 + 8) = decide (S = 128) := by
    rcases hS with ⟨h1, h2⟩ | ⟨h1, h2⟩
    · simp; omega
    · simp; omega
  clear hps hS hrow1 hrow2 b1 b2 hl1 hl2 hz hra hg1 hzl
  rcases HS.out with ⟨h1, h2⟩ | ⟨h1, h2⟩
  · subst h1
    have hmk' := fun W => (show (Instr.makeSlice 22 (.int .i64 64) (.int .i64 64)).run Tryd.prog W = .ok (.slice (some ⟨W.heap.size, 0, none⟩) 64 64) (W.alloc (.cells (Z.map (Value.int .u8)).toArray 5)) from hmk W)
    have hcp' := fun ty => hcp ty
    clear hmk e9 hcp hZ s1 s2
    go_enter Tryd.func32, Tryd.ntmps32
    go_wp2_with fail
    go_region_with (go_at_call 30; refine (eight_l _ (by omega) (by omega) _).mono ?_; rintro e w3 ⟨A3, c3, rfl, hr3, -, -, -, hb3⟩; obtain ⟨w4, hcp4, hrow4, hg4⟩ := copy8 (HR2.out.drew.below hb3 (Row.lt HR2.out.drew)) hr3 (c := c3) 56 8 8 (by omega) (by rw [HL2.out]; omega); have HR4 := Lib.hid hrow4; have HG4 := Lib.hid hg4; have HB3 := Lib.hid hb3; clear hrow4 hg4 hb3)
    all_goals
      go_wp2_with fail
      go_ret
      have hb3 := HB2.out.drew.trans (HB3.out.mono HB2.out.drew.size)
      have hb4 := below_grown hb3 HG4.out hb3.size (Nat.le_refl _)
      have hrow5 : Row w4 w.heap.size 5 .u8 (tail ++ pad L) := by rw [← HPS.out]; exact HR4.out
      have hl : (tail ++ pad L).length = 64 := by rw [← HPS.out, List.length_append, List.length_append, List.length_take, List.length_drop, HL2.out, be8_len]; omega
      have ho := Own8.of_row hrow5 (Nat.le_refl _) (by omega)
      rw [hl] at ho
      exact ⟨_, rfl, ho, hb4⟩
  · subst h1
    have hmk' := fun W => (show (Instr.makeSlice 22 (.int .i64 128) (.int .i64 128)).run Tryd.prog W = .ok (.slice (some ⟨W.heap.size, 0, none⟩) 128 128) (W.alloc (.cells (Z.map (Value.int .u8)).toArray 5)) from hmk W)
    have hcp' := fun ty => hcp ty
    clear hmk e9 hcp hZ s1 s2
    go_enter Tryd.func32, Tryd.ntmps32
    go_wp2_with fail
    go_region_with (go_at_call 30; refine (eight_l _ (by omega) (by omega) _).mono ?_; rintro e w3 ⟨A3, c3, rfl, hr3, -, -, -, hb3⟩; obtain ⟨w4, hcp4, hrow4, hg4⟩ := copy8 (HR2.out.drew.below hb3 (Row.lt HR2.out.drew)) hr3 (c := c3) 120 8 8 (by omega) (by rw [HL2.out]; omega); have HR4 := Lib.hid hrow4; have HG4 := Lib.hid hg4; have HB3 := Lib.hid hb3; clear hrow4 hg4 hb3)
    all_goals
      go_wp2_with fail
      go_ret
      have hb3 := HB2.out.drew.trans (HB3.out.mono HB2.out.drew.size)
      have hb4 := below_grown hb3 HG4.out hb3.size (Nat.le_refl _)
      have hrow5 : Row w4 w.heap.size 5 .u8 (tail ++ pad L) := by rw [← HPS.out]; exact HR4.out
      have hl : (tail ++ pad L).length = 128 := by rw [← HPS.out, List.length_append, List.length_append, List.length_take, List.length_drop, HL2.out, be8_len]; omega
      have ho := Own8.of_row hrow5 (Nat.le_refl _) (by omega)
      rw [hl] at ho
      exact ⟨_, rfl, ho, hb4⟩
end Go.Proofs.YtnfncaaclpddkaaDoor
