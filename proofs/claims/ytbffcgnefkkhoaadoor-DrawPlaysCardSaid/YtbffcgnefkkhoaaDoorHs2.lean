/-
  What eightBytes answers; a state's bytes.
-/
import Derived.Test.YtbffcgnefkkhoaaDoorHs1
import Derived.Test.YtbffcgnefkkhoaaDoorPkg
import Derived.Test.YtbffcgnefkkhoaaDoorCat
import Derived.Test.YtbffcgnefkkhoaaDoorArr
import Derived.Test.YtbffcgnefkkhoaaDoorCnv
import Derived.OwnWalk
import Derived.Deep.WholeRow
import Derived.Laws.Rows
import Derived.Laws.Tables
namespace Go.Proofs.YtbffcgnefkkhoaaDoor
open Go.RowKit
set_option linter.unusedVariables false
theorem be8_dig_at {n : Int} {j : Nat} (h : j < 8) : dig (be8 n) j = n / 256 ^ (7 - j) % 256 := by
  refine dig_lt ?_
  simp [be8, h]
def EbR (N : Int) (w : World) (i : Value) (wr : World) : Prop :=
  ∃ (k : Nat) (zs : List Int), k ≤ 8 ∧ i = .int .i64 k ∧ Row wr w.heap.size 5 .u8 zs ∧ zs.length = 8 ∧ (∀ j, j < k → dig zs j = N / 256 ^ (7 - j) % 256) ∧ Below w.heap.size w wr
/-- A slice of bytes of the call's own, as append takes it. -/
def Own8 (w : World) (base : Nat) (v : Value) (bs : List Int) : Prop := w.ownsRow base 5 1 v bs.length (bs.map (Value.int .u8))
/-- Bytes in a block of their own: the call's answer. -/
def AnsOb (bs : List Int) (w : World) (e : Ending) (w' : World) : Prop := ∃ v, e = .returned v ∧ Own8 w' w.heap.size v bs ∧ Below w.heap.size w w'
theorem Own8.rd {w : World} {base : Nat} {v : Value} {bs : List Int} (h : Own8 w base v bs) : ∃ A cap, v = .slice A bs.length cap ∧ Rd .u8 w A bs.length bs ∧ bs.length ≤ cap ∧ ∀ a, A = some a → base ≤ a.block := own_rd h
theorem Own8.below {w w' : World} {base : Nat} {v : Value} {bs : List Int} (h : Own8 w base v bs) (hb : Below w.heap.size w w') : Own8 w' base v bs := by
  refine ⟨h.1, ?_⟩
  rcases h.2 with g | ⟨g, cap, cur, h1, h2, h3, h4⟩
  · exact .inl g
  · exact .inr ⟨g, cap, cur, h1, h2, (hb.block g (Array.getElem?_eq_some_iff.1 h3).1).trans h3, h4⟩
theorem Own8.alloc {w : World} {base : Nat} {v : Value} {bs : List Int} (h : Own8 w base v bs) (o : Obj) : Own8 (w.alloc o) base v bs := h.below ((Below.refl _ _).alloc (Nat.le_refl _) _)
theorem Own8.base {w : World} {base base' : Nat} {v : Value} {bs : List Int} (h : Own8 w base v bs) (hb : base' ≤ base) : Own8 w base' v bs := by
  refine ⟨h.1, ?_⟩
  rcases h.2 with g | ⟨g, cap, cur, h1, h2, h3⟩
  · exact .inl g
  · exact .inr ⟨g, cap, cur, h1, Nat.le_trans hb h2, h3⟩
theorem Own8.of_row {w : World} {g base : Nat} {bs : List Int} (h : Row w g 5 .u8 bs) (hb : base ≤ g) (hl : bs.length ≤ 8796093022208) : Own8 w base (.slice (some ⟨g, 0, none⟩) bs.length bs.length) bs :=
  ⟨by simp, .inr ⟨g, bs.length, _, rfl, hb, h, Nat.le_refl _, by unfold maxLen; omega, by simp, by simp [List.take_of_length_le]⟩⟩
/-- A block just made with room for n bytes. -/
theorem Own8.room (w : World) (n : Nat) {base : Nat} (hb : base ≤ w.heap.size) (hn : n ≤ 8796093022208) : Own8 (w.alloc (.cells ((List.replicate n 0).map (Value.int .u8)).toArray 5)) base (.slice (some ⟨w.heap.size, 0, none⟩) 0 n) [] :=
  ⟨rfl, .inr ⟨w.heap.size, n, _, rfl, hb, heap_alloc_new w _, Nat.zero_le _, by unfold maxLen; omega, by simp, by simp⟩⟩
theorem Own8.nil (w : World) (base : Nat) : Own8 w base (.slice none 0 0) [] := ⟨rfl, .inl ⟨rfl, rfl⟩⟩
set_option maxHeartbeats 1000000 in
theorem eight_any (N : Int) (h0 : 0 ≤ N) (h1 : N < 18446744073709551616) (w : World) :
    Calls Tryd.prog 69 #[.int .u64 N] w (AnsOb (be8 N) w) := by
  have hmk := fun W => run_make8 8 (C := 8) rfl (by omega) W
  obtain ⟨Z, hZ⟩ : ∃ Z : List Int, Z = List.replicate 8 0 := ⟨_, rfl⟩
  rw [← hZ] at hmk
  have HZ := Lib.hid hZ
  clear hZ
  go_enter Tryd.func69, Tryd.ntmps69
  go_wp2_with fail
  clear hmk
  go_loopw [8] (fun i wr => EbR N w i wr) (fun i _ => 8 - (intOf i).toNat)
  case atStart =>
    exact ⟨0, Z, by omega, rfl, Row.new _ _ _ _, by rw [HZ.out]; simp, fun j h => by omega, (Below.refl _ _).alloc (Nat.le_refl _) _⟩
  case round =>
    obtain ⟨k, zs, hk, rfl, hrow, hzl, hz, hb⟩ := hrel
    have HZE := Lib.hid hz
    have HZL := Lib.hid hzl
    clear hz
    rcases Nat.lt_or_ge k 8 with hlt | hge
    · have fz := hrow.frozen k
      have cz := hrow.cell (getElem?_dig (show k < zs.length by omega))
      have g1 : 0 ≤ 56 - 8 * (k : Int) := by omega
      have g2 : (56 - 8 * (k : Int)).toNat = 56 - 8 * k := by omega
      have q0 : 0 ≤ N / 2 ^ (56 - 8 * k) := Int.ediv_nonneg h0 (Int.le_of_lt (Int.pow_pos (by decide)))
      have HLT := hlt
      clear hzl
      go_wp2_with fail
      go_roundw
      case rel =>
        refine ⟨k + 1, _, by omega, by go_num, hrow.set _ _, by simpa using HZL.out, fun j hj => ?_, hb.setCell (Nat.le_refl _) _⟩
        rcases Nat.lt_or_ge j k with g | g
        · rw [dig_set_ne (by omega)]; exact HZE.out j g
        · obtain rfl : j = k := by omega
          rw [dig_set_same (by rw [HZL.out]; exact HLT)]
          have e : (256 : Int) ^ (7 - j) = 2 ^ (56 - 8 * j) := by
            have : (256 : Int) = 2 ^ 8 := by decide
            rw [this, ← Int.pow_mul]; congr 1; omega
          rw [e]
      case measure => simp [intOf]; omega
    · obtain rfl : k = 8 := by omega
      have hbe : zs = be8 N := ext_dig (by rw [HZL.out, be8_len]) (fun j hj => by rw [HZL.out] at hj; rw [HZE.out j hj, be8_dig_at hj])
      have HBE := Lib.hid hbe
      clear hzl hbe
      go_wp2_with fail
      go_ret
      have hrow' : Row wr w.heap.size 5 .u8 (be8 N) := by rw [← HBE.out]; exact hrow
      have ho := Own8.of_row hrow' (Nat.le_refl _) (by rw [be8_len]; omega)
      rw [be8_len] at ho
      exact ⟨_, rfl, ho, hb⟩
/-- The same, with the slice told. -/
def AnsLb (bs : List Int) (n : Nat) (w : World) (e : Ending) (w' : World) : Prop :=
  ∃ A c, e = .returned (.slice A n c) ∧ Rd .u8 w' A n bs ∧ n ≤ c ∧ (∀ a, A = some a → w.heap.size ≤ a.block) ∧ Own8 w' w.heap.size (.slice A n c) bs ∧ Below w.heap.size w w'
theorem AnsOb.l {bs : List Int} {n : Nat} {w w' : World} {e : Ending} (hn : bs.length = n) (h : AnsOb bs w e w') : AnsLb bs n w e w' := by
  obtain ⟨v, rfl, ho, hb⟩ := h
  obtain ⟨A, c, rfl, h1, h2, h3⟩ := ho.rd
  subst hn
  exact ⟨A, c, rfl, h1, h2, h3, ho, hb⟩
theorem eight_l (N : Int) (h0 : 0 ≤ N) (h1 : N < 18446744073709551616) (w : World) :
    Calls Tryd.prog 69 #[.int .u64 N] w (AnsLb (be8 N) 8 w) := (eight_any N h0 h1 w).mono fun _ _ h => h.l (be8_len N)
/-- The cells of a state. -/
def St.v (s : St) : Array Value := (s.l.map (Value.int .u32)).toArray
theorem size46 : (Tryd.prog.info? 78).map (·.size) = some 1 := by kernel_rfl
theorem size48 : (Tryd.prog.info? 108).map (·.size) = some 8 := by kernel_rfl
theorem St.v_size (s : St) : s.v.size = 8 := rfl
theorem St.v_at (s : St) {k : Nat} (h : k < 8) : s.v[k]? = some (.int .u32 (dig s.l k)) := by
  have e : s.l[k]? = some (dig s.l k) := getElem?_dig (by simpa [St.l] using h)
  unfold St.v
  rw [List.getElem?_toArray, List.getElem?_map, e]; rfl
def WbR (s : St) (w : World) (v i : Value) (wr : World) : Prop :=
  ∃ k : Nat, k ≤ 8 ∧ i = .int .i64 k ∧ Own8 wr w.heap.size v (wbs (s.l.take k)) ∧ Below w.heap.size w wr
set_option maxHeartbeats 4000000 in
set_option maxRecDepth 100000 in
theorem wordBytes_any (s : St) (hs : s.ok) (w : World) :
    Calls Tryd.prog 78 #[.agg s.v] w (AnsOb (wbs s.l) w) := by
  have hwd := St.wds hs
  have h0 := heap_alloc_new w (.cells s.v 108)
  have hsz := St.v_size s
  obtain ⟨V, hV⟩ : ∃ V, V = s.v := ⟨_, rfl⟩
  rw [← hV] at h0 hsz ⊢
  have HV := Lib.hid hV
  have H0 := Lib.hid h0
  clear hV h0
  have hmk := fun W => run_make8c 32 (C := 32) rfl (by omega) W
  have hrm := Own8.room (w.alloc (.cells V 108)) 32 (base := w.heap.size) (by simp) (by omega)
  have h0' := (Below.heap_alloc (w.alloc (.cells V 108)) (.cells ((List.replicate 32 0).map (Value.int .u8)).toArray 5) w.heap.size (by simp)).trans H0.out
  rw [show (w.alloc (.cells V 108)).heap.size = w.heap.size + 1 by simp] at hrm
  obtain ⟨Z, hZ⟩ : ∃ Z : List Int, Z = List.replicate 32 0 := ⟨_, rfl⟩
  rw [← hZ] at hmk hrm h0'
  have HRM := Lib.hid hrm
  have H0' := Lib.hid h0'
  clear hZ hrm h0'
  go_enter Tryd.func78, Tryd.ntmps78
  go_wp2_with (refine wpList_load_row rfl 108 (.tmp 1) rfl w.heap.size rfl _ V _ _ H0'.out Tryd.underlying108 rfl (by rw [hsz]; exact size48) ?_)
  clear hmk
  go_loopw [3, 8] (fun v i wr => WbR s w v i wr) (fun _ i _ => 8 - (intOf i).toNat)
  case atStart =>
    exact ⟨0, by omega, rfl, HRM.out, ((Below.refl _ _).alloc (Nat.le_refl _) _).alloc (by simp) _⟩
  case round =>
    obtain ⟨k, hk, rfl, ho, hb⟩ := hrel
    have hlen := wbs_len (s.l.take k)
    rw [List.length_take, show s.l.length = 8 from rfl] at hlen
    rcases Nat.lt_or_ge k 8 with hlt | hge
    · obtain ⟨x, hx⟩ : ∃ x, dig s.l k = x := ⟨_, rfl⟩
      have hv := St.v_at s hlt
      rw [hx, ← HV.out] at hv
      have wx := dig_wd hwd k
      rw [hx] at wx
      have hidx := fun W => run_index_arr (P := Tryd.prog) Tryd.underlying108 Tryd.underlying78 size46 .i64 hlt hv W
      have HX := Lib.hid hx
      have hkV : (k : Int) < 8 := by omega
      have hk8 : decide ((k : Int) < 8) = true := by simp; omega
      have HO := Lib.hid ho
      have hbs := hb.size
      have wx0 := wx.1
      have wx1 := wx.2
      clear hx ho
      have HO4 := Lib.hid (HO.out.alloc (.cells ((wb4 x).map (Value.int .u8)).toArray 5))
      have HR4 := Lib.hid (rowAll (Row.new wr 5 .u8 (wb4 x)) rfl)
      go_wp2_with (at_builtin; refine wpList_cat8 _ rfl _ _ 22 rfl w.heap.size 5 .u8 Tryd.underlying22 info8u _ _ (wbs (s.l.take k)) rfl HO4.out _ _ _ (wb4 x) rfl HR4.out (by omega) ?hb ?_)
      case hb => simp; omega
      rintro v' w' h1 h2
      go_wp2_with fail
      go_roundw
      case rel =>
        refine ⟨k + 1, by omega, by go_num, ?_, ?_⟩
        · rw [List.take_succ_eq_append_getElem (show k < s.l.length from hlt), wbs_append]
          have e : s.l[k]'(show k < s.l.length from hlt) = x := by
            rw [← HX.out]; exact (dig_lt (List.getElem?_eq_getElem _)).symm
          rw [e]
          have e2 : wbs [x] = wb4 x := by simp [wbs]
          rw [e2]
          unfold Own8
          rw [List.length_append, hlen, Nat.min_eq_left (by omega), List.map_append]
          exact h1
        · exact own_below ((hb.alloc hbs _)) HO4.out h2 (by simp; omega) (Nat.le_refl _)
      case measure => simp [intOf]; omega
    · obtain rfl : k = 8 := by omega
      rw [show s.l.take 8 = s.l from rfl] at ho
      go_wp2_with fail
      go_ret
      exact ⟨_, rfl, ho, hb⟩
end Go.Proofs.YtbffcgnefkkhoaaDoor
