/-
  Several texts in one: Sl1, Sl2, Sl3, Slb.
-/
import Derived.Test.YtjalncdllegfoaaDoorSga
import Derived.Test.YtjalncdllegfoaaDoorGro
import Derived.Test.YtjalncdllegfoaaDoorHsc
import Derived.Test.YtjalncdllegfoaaDoorHsa
import Derived.Lib.SmallJoins
import Derived.Laws.ResultCell
import Derived.Test.YtjalncdllegfoaaDoorPkm
import Derived.Deep.RegionLaw
/-
  The keys of a letter, bytes xored, the tag; bytes compared.
-/
namespace Go.Proofs.YtjalncdllegfoaaDoor
open Go.RowKit
set_option linter.unusedVariables false
/-! ### Own slices that may be stored into -/
section
variable {t : TypeId} {k : IntKind} {w w' : World} {base : Nat} {A : Option Addr} {n c : Nat} {xs : List Int}
theorem Mn.cellL {g j : Nat} (h : Mn t k w base (some ⟨g, 0, none⟩) n c xs) (hj : j < n) : w.cell? ⟨g, j, none⟩ = some (.int k (dig xs j)) := by
  obtain ⟨g', cur, e, hg, hc⟩ := h.row (by omega)
  injection e with e; injection e with e; subst e
  rw [cell_of_row w g j cur _ _ hg]
  exact hc j _ (getElem?_dig (by have := h.len; omega))
theorem Mn.frozenL {g j : Nat} (h : Mn t k w base (some ⟨g, 0, none⟩) n c xs) (hj : j < n) : w.frozen? ⟨g, j, none⟩ = false := by
  obtain ⟨g', cur, e, hg, hc⟩ := h.row (by omega)
  injection e with e; injection e with e; subst e
  exact frozen_of_row w g j cur _ hg
theorem Mn.setL {g j : Nat} (h : Mn t k w base (some ⟨g, 0, none⟩) n c xs) (hj : j < n) (x : Int) : Mn t k (w.setCell ⟨g, j, none⟩ (.int k x)) base (some ⟨g, 0, none⟩) n c (xs.set j x) := by
  obtain ⟨g', cur, e, hg, hc⟩ := h.row (by omega)
  have e2 := e
  injection e2 with e2; injection e2 with e2; subst e2
  refine ⟨by rw [List.length_set]; exact h.len, h.nc, h.new, fun a ha => by simp only [World.setCell, Array.size_modify]; exact h.lt a ha, fun _ => ⟨g, cur.setIfInBounds j (.int k x), rfl, ?_, fun i y hi => ?_⟩⟩
  · rw [setCell_eq_setRow w g j cur _ _ _ hg]; exact setRow_heap w g cur _ _ _ hg
  · rw [Array.getElem?_setIfInBounds]
    rw [List.getElem?_set] at hi
    have hl := h.len
    have hcj := (Array.getElem?_eq_some_iff.1 (hc j _ (getElem?_dig (by omega)))).1
    split
    · rename_i q
      subst q
      rw [if_pos rfl, if_pos (by omega)] at hi
      injection hi with hi
      subst hi
      rfl
    · rename_i q
      rw [if_neg q] at hi
      exact hc i y hi
theorem Mn.drewL (h : Mn t k w base A n c xs) : Mn t k w.drew base A n c xs := ⟨h.len, h.nc, h.new, h.lt, h.row⟩
theorem Mn.plainL (h : Mn t k w base A n c xs) (hn : 0 < n) : ∃ g, A = some ⟨g, 0, none⟩ ∧ base ≤ g ∧ g < w.heap.size := by
  obtain ⟨g, cur, e, hg, -⟩ := h.row hn
  exact ⟨g, e, h.new _ e, h.lt _ e⟩
theorem Mn.baseL {b' : Nat} (h : Mn t k w base A n c xs) (hb : b' ≤ base) : Mn t k w b' A n c xs := ⟨h.len, h.nc, fun a ha => Nat.le_trans hb (h.new a ha), h.lt, h.row⟩
end
theorem Mn.bsL {w : World} {base : Nat} {A : Option Addr} {n c : Nat} {xs : List Int} (h : Mn 5 .u8 w base A n c xs) (hd : Dig 256 xs) : Bz w A n xs := ⟨h.rd, hd⟩
theorem B8.bsB {w w' : World} (hb : B8 w w') {A : Option Addr} {n c : Nat} {xs : List Int} (h : Bs w A n c xs) : Bs w' A n c xs := h.below hb
theorem Own8.mnL {w : World} {base : Nat} {v : Value} {xs : List Int} (h : Own8 w base v xs) : ∃ A c, v = .slice A xs.length c ∧ Mn 5 .u8 w base A xs.length c xs := mn_own h
theorem Rd.setL {kd : IntKind} {w : World} {A : Option Addr} {n g i : Nat} {xs : List Int} (h : Rd kd w A n xs) (hA : ∀ a, A = some a → 0 < n → a.block ≠ g) (v : Value) : Rd kd (w.setCell ⟨g, i, none⟩ v) A n xs :=
  ⟨h.len, fun hn => by
    obtain ⟨b, off, e, hb, hc⟩ := h.cells hn
    have hne : b ≠ g := hA _ e hn
    exact ⟨b, off, e, by simpa using hb, fun j x hj => (World.cell?_of_block (heap_setCell_other w ⟨g, i, none⟩ b v hne)).trans (hc j x hj)⟩⟩
theorem Bz.setL {w : World} {A : Option Addr} {n g i : Nat} {xs : List Int} (h : Bz w A n xs) (hA : ∀ a, A = some a → 0 < n → a.block ≠ g) (v : Value) : Bz (w.setCell ⟨g, i, none⟩ v) A n xs := ⟨h.rd.setL hA v, h.dig_⟩
theorem Bs.setL {w : World} {A : Option Addr} {n c g i : Nat} {xs : List Int} (h : Bs w A n c xs) (hA : ∀ a, A = some a → 0 < n → a.block ≠ g) (v : Value) : Bs (w.setCell ⟨g, i, none⟩ v) A n c xs := ⟨h.rd.setL hA v, h.dig_, h.nc, h.c47, h.none_, h.plain⟩
theorem Bs.set2L {w : World} {A : Option Addr} {n c g : Nat} {xs : List Int} (h : Bs w A n c xs) (hA : ∀ a, A = some a → 0 < n → a.block ≠ g) (x y : Value) : Bs ((w.setCell ⟨g, 0, none⟩ x).setCell ⟨g, 1, none⟩ y) A n c xs := (h.setL hA x).setL hA y
/-! ### Bytes that were laid -/
theorem bs_litL (W : World) (bs : List Int) (fr : Nat × Nat) {n q : Nat} (hl : bs.length = n) (hq : q = W.heap.size) (hd : Dig 256 bs) (hn : n ≤ 1099511627776) : Bs (W.alloc (.cells ((bs.map (Value.int .u8)).toArray) 5 fr)) (some ⟨q, 0, none⟩) n n bs :=
  ⟨⟨hl, fun _ => ⟨q, 0, rfl, by subst hq; simp, fun j x hx => by
    rw [Nat.zero_add, Joins.cell_alloc_mark_at W _ _ fr q j hq]; simp [hx]⟩⟩, hd, Nat.le_refl _, hn, (fun h => nomatch h), fun a ha => ⟨_, _, (Option.some.inj ha).symm⟩⟩
theorem pts_three {w : World} {A1 A2 A3 : Option Addr} {n1 c1 n2 c2 n3 c3 : Nat} {xs ys zs : List Int} (h1 : Bz w A1 n1 xs) (h2 : Bz w A2 n2 ys) (h3 : Bz w A3 n3 zs) :
    Pts (w.alloc (.cells #[.slice A1 n1 c1, .slice A2 n2 c2, .slice A3 n3 c3] 24)) (some ⟨w.heap.size, 0, none⟩) 3 3 [xs, ys, zs] := by
  obtain rfl := h1.rd.len
  obtain rfl := h2.rd.len
  obtain rfl := h3.rd.len
  refine ⟨rfl, Nat.le_refl _, fun _ => ⟨w.heap.size, 0, rfl, by simp, fun j hj => ?_⟩⟩
  rcases (show j = 0 ∨ j = 1 ∨ j = 2 by omega) with rfl | rfl | rfl
  · exact ⟨A1, c1, xs, rfl, by simp [World.cell?_alloc_at], h1.alloc _⟩
  · exact ⟨A2, c2, ys, rfl, by simp [World.cell?_alloc_at], h2.alloc _⟩
  · exact ⟨A3, c3, zs, rfl, by simp [World.cell?_alloc_at], h3.alloc _⟩
theorem fr_two (xs ys : List Int) : (fr [xs, ys]).length = xs.length + ys.length + 16 := by
  rw [show ([xs, ys] : List (List Int)) = [xs] ++ [ys] from rfl, fr_append, fr_one, fr_one]
  simp only [List.length_append, be8_len]; omega
theorem fr_three (xs ys zs : List Int) : (fr [xs, ys, zs]).length = xs.length + ys.length + zs.length + 24 := by
  rw [show ([xs, ys, zs] : List (List Int)) = [xs] ++ [ys, zs] from rfl, fr_append, fr_one, List.length_append, fr_two]
  simp only [List.length_append, be8_len]; omega
theorem sealL_eq : sealL = [115, 101, 97, 108] := by decide
theorem hideL_eq : hideL = [104, 105, 100, 101] := by decide
theorem tagL_eq : tagL = [116, 97, 103] := by decide
/-- Parts of three, in memory laid for them. -/
theorem parts_three {w : World} (hT : Tabs w) {A1 A2 A3 : Option Addr} {n1 c1 n2 c2 n3 c3 : Nat} {xs ys zs : List Int} (h1 : Bz w A1 n1 xs) (h2 : Bz w A2 n2 ys) (h3 : Bz w A3 n3 zs) (hn : n1 + n2 + n3 ≤ 100000) {g : Nat} (hg : w.heap.size = g) :
    Calls Tryd.prog 40 #[.slice (some ⟨g, 0, none⟩) 3 3] (w.alloc (.cells #[.slice A1 n1 c1, .slice A2 n2 c2, .slice A3 n3 c3] 24))
      (fun e w' => ∃ A c, e = .returned (.slice A 32 c) ∧ Bs w' A 32 c (parts [xs, ys, zs]) ∧ B8 w w' ∧ ∀ a, A = some a → w.heap.size ≤ a.block) := by
  subst hg
  have e1 := h1.rd.len
  have e2 := h2.rd.len
  have e3 := h3.rd.len
  refine (parts_any (hT.alloc _) (pts_three h1 h2 h3) (by rw [fr_three]; omega) (by omega) (fun x hx => ?_)).mono fun e w' hh => ?_
  · rcases List.mem_cons.1 hx with rfl | hx
    · exact h1.dig_
    rcases List.mem_cons.1 hx with rfl | hx
    · exact h2.dig_
    · rw [List.mem_singleton.1 hx]; exact h3.dig_
  · obtain ⟨v, rfl, ho, hb⟩ := hh
    obtain ⟨A, c, rfl, hbs⟩ := ho.bs (sha_dig _) (by rw [show (parts [xs, ys, zs]).length = 32 from sha_len _]; decide)
    have hnew : ∀ a, A = some a → w.heap.size ≤ a.block := fun a ha => by
      obtain ⟨A', c', e, -, -, h3⟩ := ho.rd
      injection e with e1 e2 e3
      subst e1
      have := h3 a ha
      rw [World.size_alloc] at this
      omega
    rw [show (parts [xs, ys, zs]).length = 32 from sha_len _] at hbs ⊢
    exact ⟨A, c, rfl, hbs, (B8.alloc w _).trans hb, hnew⟩
/-- Parts of two, in memory laid for them. -/
theorem parts_two {w : World} (hT : Tabs w) {A1 A2 : Option Addr} {n1 c1 n2 c2 : Nat} {xs ys : List Int} (h1 : Bs w A1 n1 c1 xs) (h2 : Bz w A2 n2 ys) (hn : n1 + n2 ≤ 100000) {g : Nat} (hg : w.heap.size = g) :
    Calls Tryd.prog 40 #[.slice (some ⟨g, 0, none⟩) 2 2] (w.alloc (.cells #[.slice A1 n1 c1, .slice A2 n2 c2] 24))
      (fun e w' => ∃ A c, e = .returned (.slice A 32 c) ∧ Bs w' A 32 c (parts [xs, ys]) ∧ B8 w w' ∧ ∀ a, A = some a → w.heap.size ≤ a.block) := by
  subst hg
  have e1 := h1.rd.len
  have e2 := h2.rd.len
  refine (parts_any (hT.alloc _) (pts_two h1 h2) (by rw [fr_two]; omega) (by omega) (fun x hx => ?_)).mono fun e w' hh => ?_
  · rcases List.mem_cons.1 hx with rfl | hx
    · exact h1.dig_
    · rw [List.mem_singleton.1 hx]; exact h2.dig_
  · obtain ⟨v, rfl, ho, hb⟩ := hh
    obtain ⟨A, c, rfl, hbs⟩ := ho.bs (sha_dig _) (by rw [show (parts [xs, ys]).length = 32 from sha_len _]; decide)
    have hnew : ∀ a, A = some a → w.heap.size ≤ a.block := fun a ha => by
      obtain ⟨A', c', e, -, -, h3⟩ := ho.rd
      injection e with e1 e2 e3
      subst e1
      have := h3 a ha
      rw [World.size_alloc] at this
      omega
    rw [show (parts [xs, ys]).length = 32 from sha_len _] at hbs ⊢
    exact ⟨A, c, rfl, hbs, (B8.alloc w _).trans hb, hnew⟩
/-! ### bytes.Equal -/
theorem str_inj {xs ys : List Int} (hx : Dig 256 xs) (hy : Dig 256 ys) (h : (strOfNums xs).toList = (strOfNums ys).toList) : xs = ys := by
  rw [Lib.toList_data, Lib.toList_data, strOfNums_data, strOfNums_data] at h
  have h2 : xs.map (fun x => UInt8.ofNat x.toNat) = ys.map (fun x => UInt8.ofNat x.toNat) := by simpa using h
  have hl : xs.length = ys.length := by simpa using congrArg List.length h2
  refine List.ext_getElem hl fun i h3 h4 => ?_
  have h5 : (xs.map (fun x => UInt8.ofNat x.toNat))[i]? = (ys.map (fun x => UInt8.ofNat x.toNat))[i]? := by rw [h2]
  rw [List.getElem?_map, List.getElem?_map, List.getElem?_eq_getElem h3, List.getElem?_eq_getElem h4] at h5
  have h6 : UInt8.ofNat (xs[i]).toNat = UInt8.ofNat (ys[i]).toNat := by simpa using h5
  have b1 := hx _ (List.getElem_mem h3)
  have b2 := hy _ (List.getElem_mem h4)
  have h7 := congrArg UInt8.toNat h6
  rw [UInt8.toNat_ofNat', UInt8.toNat_ofNat'] at h7
  omega
theorem beq_any {w : World} {A A' : Option Addr} {n c n' c' : Nat} {xs ys : List Int} (h : Bz w A n xs) (h' : Bz w A' n' ys) :
    Calls Tryd.prog 25 #[.slice A n c, .slice A' n' c'] w fun e w' => e = .returned (.bool (decide (xs = ys))) ∧ w = w' := by
  have k1 := conv_any (c := c) h.rd
  have k2 := conv_any (c := c') h'.rd
  have key : ((strOfNums xs).toList == (strOfNums ys).toList) = decide (xs = ys) := by
    by_cases e : xs = ys
    · subst e; simp
    · rw [decide_eq_false e]
      rw [beq_eq_false_iff_ne]
      exact fun q => e (str_inj h.dig_ h'.dig_ q)
  clear h h'
  go_enter Tryd.func25, Tryd.ntmps25
  go_wp2_with fail
  go_ret
  exact ⟨rfl, rfl⟩
theorem two_box (w : World) (x y : Value) (t : TypeId) : (w.alloc (.cells #[x, y] t)).cell? ⟨w.heap.size, 0, none⟩ = some x ∧ (w.alloc (.cells #[x, y] t)).cell? ⟨w.heap.size, 1, none⟩ = some y := by
  constructor <;> simp [World.cell?_alloc_at]
/-! ### keysOf -/
theorem size64 : (Tryd.prog.info? 62).map (·.size) = some 2 := by kernel_rfl
section
variable {w : World} {b : Nat} {d : Gd} {A A' : Option Addr} {n c n' c' : Nat} {K R : Int}
set_option maxHeartbeats 4000000 in
set_option maxRecDepth 100000 in
theorem keysof_any (h : Gr0 w b d) (hT : Tabs w) (hk : Nm w A n c K) (hr : Nm w A' n' c' R) :
    Calls Tryd.prog 20 #[.pointer (some ⟨b, 0, none⟩), .slice A n c, .slice A' n' c'] w
      (fun e w' => ∃ A1 c1 A2 c2, e = .returned (.agg #[.slice A1 32 c1, .slice A2 32 c2]) ∧ Bs w' A1 32 c1 (slH d.P K R) ∧ Bs w' A2 32 c2 (slT d.P K R) ∧ B8 w w') := by
  obtain ⟨l, hl⟩ : ∃ l, (nb d.P + 7) / 8 = l := ⟨_, rfl⟩
  have nbP : nb d.P ≤ 2048 := by
    have h1 := nb_le (N := d.P) (by have := h.safe.p2; omega)
    have h2 := h.lp
    omega
  have l1 : l ≤ 300 := by omega
  have P0 : 0 < d.P := by have := h.safe.p2; omega
  have B0 := Lib.hid (B8.alloc w (.cells #[.slice none 0 0, .slice none 0 0] 62))
  have R0 := Lib.hid (heap_alloc_new w (.cells #[.slice none 0 0, .slice none 0 0] 62))
  have L0 := Lib.hid (show w.heap.size < (w.alloc (.cells #[.slice none 0 0, .slice none 0 0] 62)).heap.size by simp)
  obtain ⟨KK, hKK⟩ : ∃ KK, slK d.P K R = KK := ⟨_, rfl⟩
  obtain ⟨KH, hKH⟩ : ∃ KH, slH d.P K R = KH := ⟨_, rfl⟩
  obtain ⟨KT2, hKT⟩ : ∃ KT2, slT d.P K R = KT2 := ⟨_, rfl⟩
  have EK := Lib.hid (show parts [[115, 101, 97, 108], bytesL K l, bytesL R l] = KK by rw [← hKK, ← hl, ← sealL_eq]; rfl)
  have EH := Lib.hid (show parts [[104, 105, 100, 101], KK] = KH by rw [← hKH, ← hKK, ← hideL_eq]; rfl)
  have ET := Lib.hid (show parts [[116, 97, 103], KK] = KT2 by rw [← hKT, ← hKK, ← tagL_eq]; rfl)
  rw [hKH, hKT]
  have HL := Lib.hid hl
  have PP := Lib.hid P0
  have HG := Lib.hid h
  have HT := Lib.hid hT
  have HK := Lib.hid hk
  have HR := Lib.hid hr
  clear h hT hk hr hl nbP P0 hKK hKH hKT
  go_enter Tryd.func20, Tryd.ntmps20
  go_wp2_with fail
  refine (gp_any (B0.out.gr0 HG.out)).mono ?_
  rintro e w1 ⟨B1, m1, d1, rfl, hcn, b1, -⟩
  have B1 := Lib.hid (show B8 _ w1 from b1)
  have HCN := Lib.hid hcn
  clear b1 hcn
  go_wp2_with fail
  refine (bcountL_any HCN.out PP.out).mono ?_
  rintro e w2 ⟨rfl, rfl⟩
  rw [HL.out]
  have cv1 : (convert 24 24 (.slice (some ⟨w1.heap.size, 0, none⟩) 4 4)).run Tryd.prog (w1.alloc (.cells #[.int .u8 115, .int .u8 101, .int .u8 97, .int .u8 108] 5)) = .ok (.slice (some ⟨w1.heap.size, 0, none⟩) 4 4) (w1.alloc (.cells #[.int .u8 115, .int .u8 101, .int .u8 97, .int .u8 108] 5 (4, 5))) :=
    Joins.run_convert_bytes_const_at w1 _ _ _ 4 4 w1.heap.size rfl Tryd.underlying24 Tryd.underlying5
  have l1' := bs_litL w1 [115, 101, 97, 108] (4, 5) (n := 4) rfl rfl (by unfold Dig; decide) (by omega)
  have bm := B8.alloc w1 (.cells #[.int .u8 115, .int .u8 101, .int .u8 97, .int .u8 108] 5 (4, 5))
  obtain ⟨v1, hv1⟩ : ∃ v, w1.alloc (.cells #[.int .u8 115, .int .u8 101, .int .u8 97, .int .u8 108] 5 (4, 5)) = v := ⟨_, rfl⟩
  rw [show (w1.alloc (.cells (([115, 101, 97, 108].map (Value.int .u8)).toArray) 5 (4, 5))) = v1 from hv1] at l1'
  rw [hv1] at cv1 bm
  have S1 := Lib.hid (l1'.bz)
  have BM := Lib.hid (B1.out.trans bm)
  have BMw := Lib.hid (B0.out.trans BM.out)
  clear l1' bm hv1 HCN
  go_wp2_with fail
  refine (tobytesL_any (BMw.out.nm HK.out) l (by omega)).mono ?_
  rintro e w3 ⟨rfl, hrow3, hb3⟩
  have D3 := Lib.hid (show B8 v1 w3 from hb3)
  have S2 := Lib.hid (show Bz w3 (some ⟨v1.heap.size, 0, none⟩) l (bytesL K l) from ⟨rowAll hrow3 (bytesL_len _ _), bytesL_d⟩)
  clear hrow3 hb3 cv1
  go_wp2_with fail
  refine (tobytesL_any (D3.out.nm (BMw.out.nm HR.out)) l (by omega)).mono ?_
  rintro e w4 ⟨rfl, hrow4, hb4⟩
  have D4 := Lib.hid (show B8 w3 w4 from hb4)
  have S3 := Lib.hid (show Bz w4 (some ⟨w3.heap.size, 0, none⟩) l (bytesL R l) from ⟨rowAll hrow4 (bytesL_len _ _), bytesL_d⟩)
  have D34 := Lib.hid (D3.out.trans D4.out)
  have BN := Lib.hid (BMw.out.trans D34.out)
  clear hrow4 hb4
  go_wp2_with fail
  refine (parts_three (BN.out.tabs HT.out) (D34.out.bz S1.out) (D4.out.bz S2.out) S3.out (by omega) rfl).mono ?_
  rintro e w5 ⟨A5, c5, rfl, bs5, b5, -⟩
  rw [EK.out] at bs5
  have D5 := Lib.hid b5
  have S5 := Lib.hid bs5
  have C5 := Lib.hid (BM.out.trans (D34.out.trans b5))
  clear b5 bs5 S1 S2 S3 D3 D4 D34 BN BMw BM
  have cv2 : (convert 24 24 (.slice (some ⟨w5.heap.size, 0, none⟩) 4 4)).run Tryd.prog (w5.alloc (.cells #[.int .u8 104, .int .u8 105, .int .u8 100, .int .u8 101] 5)) = .ok (.slice (some ⟨w5.heap.size, 0, none⟩) 4 4) (w5.alloc (.cells #[.int .u8 104, .int .u8 105, .int .u8 100, .int .u8 101] 5 (4, 5))) :=
    Joins.run_convert_bytes_const_at w5 _ _ _ 4 4 w5.heap.size rfl Tryd.underlying24 Tryd.underlying5
  have l2' := bs_litL w5 [104, 105, 100, 101] (4, 5) (n := 4) rfl rfl (by unfold Dig; decide) (by omega)
  have bm2 := B8.alloc w5 (.cells #[.int .u8 104, .int .u8 105, .int .u8 100, .int .u8 101] 5 (4, 5))
  obtain ⟨v2, hv2⟩ : ∃ v, w5.alloc (.cells #[.int .u8 104, .int .u8 105, .int .u8 100, .int .u8 101] 5 (4, 5)) = v := ⟨_, rfl⟩
  rw [show (w5.alloc (.cells (([104, 105, 100, 101].map (Value.int .u8)).toArray) 5 (4, 5))) = v2 from hv2] at l2'
  rw [hv2] at cv2 bm2
  have S6 := Lib.hid l2'
  have BM2 := Lib.hid bm2
  clear l2' bm2 hv2
  go_wp2_with fail
  refine (parts_two ((B0.out.trans (C5.out.trans BM2.out)).tabs HT.out) S6.out (BM2.out.bz S5.out.bz) (by omega) rfl).mono ?_
  rintro e w7 ⟨A7, c7, rfl, bs7, b7, n7⟩
  rw [EH.out] at bs7
  have D7 := Lib.hid (BM2.out.trans b7)
  have S7 := Lib.hid bs7
  have C7 := Lib.hid (C5.out.trans D7.out)
  have s7 := (C5.out.trans BM2.out).sz
  have N7 := Lib.hid (show ∀ a, A7 = some a → w.heap.size < a.block from fun a ha => by have := n7 a ha; have := L0.out; omega)
  clear b7 bs7 S6 BM2 cv2 n7 s7
  have cv3 : (convert 24 24 (.slice (some ⟨w7.heap.size, 0, none⟩) 3 3)).run Tryd.prog (w7.alloc (.cells #[.int .u8 116, .int .u8 97, .int .u8 103] 5)) = .ok (.slice (some ⟨w7.heap.size, 0, none⟩) 3 3) (w7.alloc (.cells #[.int .u8 116, .int .u8 97, .int .u8 103] 5 (3, 4))) :=
    Joins.run_convert_bytes_const_at w7 _ _ _ 3 3 w7.heap.size rfl Tryd.underlying24 Tryd.underlying5
  have l3' := bs_litL w7 [116, 97, 103] (3, 4) (n := 3) rfl rfl (by unfold Dig; decide) (by omega)
  have bm3 := B8.alloc w7 (.cells #[.int .u8 116, .int .u8 97, .int .u8 103] 5 (3, 4))
  obtain ⟨v3, hv3⟩ : ∃ v, w7.alloc (.cells #[.int .u8 116, .int .u8 97, .int .u8 103] 5 (3, 4)) = v := ⟨_, rfl⟩
  rw [show (w7.alloc (.cells (([116, 97, 103].map (Value.int .u8)).toArray) 5 (3, 4))) = v3 from hv3] at l3'
  rw [hv3] at cv3 bm3
  have S8 := Lib.hid l3'
  have BM3 := Lib.hid bm3
  clear l3' bm3 hv3
  go_wp2_with fail
  refine (parts_two ((B0.out.trans (C7.out.trans BM3.out)).tabs HT.out) S8.out (BM3.out.bz (D7.out.bz S5.out.bz)) (by omega) rfl).mono ?_
  rintro e w9 ⟨A9, c9, rfl, bs9, b9, n9⟩
  rw [ET.out] at bs9
  have D9 := Lib.hid (BM3.out.trans b9)
  have S9 := Lib.hid bs9
  have C9 := Lib.hid (C7.out.trans D9.out)
  have s9 := (C7.out.trans BM3.out).sz
  have N9 := Lib.hid (show ∀ a, A9 = some a → w.heap.size < a.block from fun a ha => by have := n9 a ha; have := L0.out; omega)
  have ROW := Lib.hid ((C9.out.row L0.out).trans R0.out)
  clear b9 bs9 S8 BM3 cv3 n9 s9
  have y0 : w9.cell? ⟨w.heap.size, 0, none⟩ = some (.slice none 0 0) := cell_of_row w9 _ 0 _ _ _ ROW.out
  have y1 : w9.cell? ⟨w.heap.size, 1, none⟩ = some (.slice none 0 0) := cell_of_row w9 _ 1 _ _ _ ROW.out
  have z0 := frozen_of_row w9 _ 0 _ _ ROW.out
  have z1 := frozen_of_row w9 _ 1 _ _ ROW.out
  go_wp2_with fail
  refine bodyPost_ret (v := .agg #[.slice A7 32 c7, .slice A9 32 c9]) (results_cell_row Tryd.results20 _ _ w.heap.size _ _ _ _ rfl (two_row ROW.out) Tryd.underlying62 rfl size64) rfl ?_
  exact ⟨A7, c7, A9, c9, rfl, (D9.out.bsB S7.out).set2L (fun a ha _ => by have := N7.out a ha; omega) _ _, S9.out.set2L (fun a ha _ => by have := N9.out a ha; omega) _ _, (B0.out.trans C9.out).set2 (Nat.le_refl _) _ _⟩
end
/-! ### xored -/
/-- The loop: bytes up to i are xored. -/
def XoR (b z : List Int) (n base : Nat) (A : Option Addr) (c : Nat) (w : World) (i : Value) (wr : World) : Prop :=
  ∃ (k : Nat) (zs : List Int), k ≤ n ∧ i = .int .i64 k ∧ Mn 5 .u8 wr base A n c zs ∧ (∀ j, j < k → dig zs j = bits .xor .u8 (dig z j) (dig b j)) ∧ (∀ j, k ≤ j → dig zs j = dig z j) ∧ B8 w wr
theorem xr_next {b z zs : List Int} {n k : Nat} (hl : zs.length = n) (hk : k < n) (h1 : ∀ j, j < k → dig zs j = bits .xor .u8 (dig z j) (dig b j)) (h2 : ∀ j, k ≤ j → dig zs j = dig z j) :
    (∀ j, j < k + 1 → dig (zs.set k (bits .xor .u8 (dig zs k) (dig b k))) j = bits .xor .u8 (dig z j) (dig b j)) ∧ ∀ j, k + 1 ≤ j → dig (zs.set k (bits .xor .u8 (dig zs k) (dig b k))) j = dig z j := by
  refine ⟨fun j hj => ?_, fun j hj => ?_⟩
  · rcases Nat.lt_or_ge j k with g | g
    · rw [dig_set_ne (by omega)]; exact h1 j g
    · obtain rfl : j = k := by omega
      rw [dig_set_same (by omega), h2 j (Nat.le_refl _)]
  · rw [dig_set_ne (by omega)]; exact h2 j (by omega)
/-- Bytes xored, in new memory. -/
def XoP (xs : List Int) (n : Nat) (w : World) (e : Ending) (w' : World) : Prop :=
  ∃ A c, e = .returned (.tuple #[.slice A n c, .nilIface]) ∧ Mn 5 .u8 w' w.heap.size A n c xs ∧ B8 w w'
set_option maxHeartbeats 4000000 in
set_option maxRecDepth 100000 in
theorem xored_any {w : World} (hT : Tabs w) {A1 A2 A : Option Addr} {n2 c1 c2 n c : Nat} {kh b : List Int} (hk : Bs w A1 32 c1 kh) (hb : Bz w A n b) (hn : n ≤ 1048576) :
    Calls Tryd.prog 21 #[.agg #[.slice A1 32 c1, .slice A2 n2 c2], .slice A n c] w (XoP (xorB b (stream kh n)) n w) := by
  obtain ⟨z, hz⟩ : ∃ z, stream kh n = z := ⟨_, rfl⟩
  have ZL := Lib.hid (show z.length = n by rw [← hz, stream_len])
  have ZD := Lib.hid (show Dig 256 z by rw [← hz]; exact stream_dig _ _)
  rw [hz]
  have HZ := Lib.hid hz
  clear hz
  have B0 := Lib.hid (B8.alloc w (.cells #[.slice A1 32 c1, .slice A2 n2 c2] 62))
  have px := two_box w (.slice A1 32 c1) (.slice A2 n2 c2) 62
  obtain ⟨w0, hw0⟩ : ∃ w0, w.alloc (.cells #[.slice A1 32 c1, .slice A2 n2 c2] 62) = w0 := ⟨_, rfl⟩
  have SZ := Lib.hid (show w.heap.size + 1 = w0.heap.size by rw [← hw0, World.size_alloc])
  rw [hw0] at B0 px
  have x0 := px.1
  have HT := Lib.hid (B0.out.tabs hT)
  have HK := Lib.hid (B0.out.bsB hk)
  have HB := Lib.hid (B0.out.bz hb)
  have BL := Lib.hid hb.rd.len
  have q := ne_nil8
  clear hT hk hb px
  go_enter Tryd.func21, Tryd.ntmps21
  go_wp2_with fail
  clear hw0
  refine (stream_any HT.out HK.out n hn (by omega)).mono ?_
  rintro e w1 ⟨v, rfl, ho, hb1⟩
  obtain ⟨Az, cz, rfl, hmn⟩ := ho.mnL
  have B1 := Lib.hid (show B8 w0 w1 from hb1)
  rw [stream_len] at hmn ⊢
  have MN := Lib.hid hmn
  have HB1 := Lib.hid HB.out
  rw [HZ.out] at MN
  clear ho hb1 hmn HT HK HB x0
  go_wp2_with fail
  go_loopw [22] (fun i wr => XoR b z n w0.heap.size Az cz w0 i wr) (fun i _ => n - (intOf i).toNat)
  case atStart => exact ⟨0, z, Nat.zero_le _, rfl, MN.out, fun j hj => absurd hj (Nat.not_lt_zero j), fun j _ => rfl, B1.out⟩
  case round =>
    obtain ⟨k, zs, hk, rfl, hmn, h1, h2, hbw⟩ := hrel
    have HX := Lib.hid hmn
    have H1 := Lib.hid h1
    have H2 := Lib.hid h2
    have HW := Lib.hid hbw
    clear h1 h2 hbw
    rcases Nat.lt_or_ge k n with hlt | hge
    · have hkn : (k : Int) < (n : Int) := by omega
      obtain ⟨g, eA, g0, g1⟩ := hmn.plainL (by omega)
      subst eA
      have cz := hmn.cellL hlt
      have fz := hmn.frozenL hlt
      obtain ⟨ba, oa, x, rfl, hba, hbx, hcb⟩ := (HW.out.bz HB1.out).rd.at_ hlt
      have hx := dig_lt hbx
      obtain ⟨y, hy⟩ : ∃ y, dig zs k = y := ⟨_, rfl⟩
      rw [hy] at cz
      have HY := Lib.hid hy
      have HXX := Lib.hid hx
      clear hmn hbx hx hy
      go_wp2_with fail
      go_region
      all_goals
        go_wp2_with fail
        go_roundw
        case rel =>
          have hn := xr_next HX.out.len hlt H1.out H2.out
          rw [HY.out, HXX.out] at hn
          exact ⟨k + 1, _, by omega, by go_num, (HX.out.setL hlt _).drewL, hn.1, hn.2, (Below.setCell HW.out g0 _).drew⟩
        case measure => simp [intOf]; omega
    · obtain rfl : n = k := by omega
      go_wp2_with fail
      go_ret2
      have e : zs = xorB b z := ext_dig (by rw [HX.out.len, xorB_len, BL.out]) (fun j hj => by
        have hj2 : j < n := by rw [HX.out.len] at hj; exact hj
        rw [H1.out j hj2, xorB_at (by rw [BL.out]; exact hj2), xor8_comm (d8_bd ZD.out j) (d8_bd HB1.out.dig_ j)])
      subst e
      exact ⟨Az, cz, rfl, HX.out.baseL (b' := w.heap.size) (by have := SZ.out; omega), B0.out.trans HW.out⟩
/-! ### tagOf -/
theorem tagof_any {w : World} (hT : Tabs w) {A1 A2 A : Option Addr} {n1 c1 c2 n c : Nat} {kt b : List Int} (hk : Bs w A2 32 c2 kt) (hb : Bz w A n b) (hn : n ≤ 1048576) :
    Calls Tryd.prog 22 #[.agg #[.slice A1 n1 c1, .slice A2 32 c2], .slice A n c] w (fun e w' => ∃ g ct, e = .returned (.slice (some ⟨g, 0, none⟩) 32 ct) ∧ Mn 5 .u8 w' w.heap.size (some ⟨g, 0, none⟩) 32 ct (mac kt b) ∧ w.heap.size ≤ g ∧ B8 w w') := by
  have B0 := Lib.hid (B8.alloc w (.cells #[.slice A1 n1 c1, .slice A2 32 c2] 62))
  have px := two_box w (.slice A1 n1 c1) (.slice A2 32 c2) 62
  obtain ⟨w0, hw0⟩ : ∃ w0, w.alloc (.cells #[.slice A1 n1 c1, .slice A2 32 c2] 62) = w0 := ⟨_, rfl⟩
  have SZ := Lib.hid (show w.heap.size + 1 = w0.heap.size by rw [← hw0, World.size_alloc])
  rw [hw0] at B0 px
  have x1 := px.2
  have HT := Lib.hid (B0.out.tabs hT)
  have HK := Lib.hid (B0.out.bsB hk)
  have HB := Lib.hid (B0.out.bz hb)
  clear hT hk hb px
  go_enter Tryd.func22, Tryd.ntmps22
  go_wp2_with fail
  clear hw0
  refine (mac_any HT.out HK.out HB.out (by omega)).mono ?_
  rintro e w1 ⟨v, rfl, ho, hb1⟩
  obtain ⟨At, ct, rfl, hmn⟩ := ho.mnL
  rw [show (mac kt b).length = 32 from sha_len _] at hmn ⊢
  obtain ⟨g, rfl, g0, g1⟩ := hmn.plainL (by decide)
  have MN := Lib.hid hmn
  have B1 := Lib.hid (show B8 w0 w1 from hb1)
  clear ho hb1 hmn x1
  go_wp2_with fail
  go_ret
  exact ⟨g, ct, rfl, MN.out.baseL (b' := w.heap.size) (by have := SZ.out; omega), by have := SZ.out; omega, B0.out.trans B1.out⟩
end Go.Proofs.YtjalncdllegfoaaDoor
/-
  What Close of package seal answers.
-/
namespace Go.Proofs.YtjalncdllegfoaaDoor
open Go.RowKit
set_option linter.unusedVariables false
/-! ### A power by a scalar that is too long -/
section
variable {w w' : World} {b : Nat} {d : Gd} {A A' : Option Addr} {n c n' c' : Nat} {X Y : Int}
theorem gpower_longL (h : Gr0 w b d) (s : Value) (ha' : Nm w A' n' c' Y) (ly : 64 < dl Y) :
    Calls Tryd.prog 17 #[.pointer (some ⟨b, 0, none⟩), s, .slice A' n' c'] w (Err1 2 w) := by
  have q1 := h.c1
  go_enter Tryd.func17, Tryd.ntmps17
  go_wp2_with fail
  refine (div_long ha' h.q.nm (.inl ly)).mono ?_
  rintro e w1 ⟨rfl, b1⟩
  have B1 := Lib.hid b1
  clear b1
  go_wp2
  go_ret2
  exact ⟨rfl, B1.out⟩
theorem gbase_longL (h : Gr w b d) (ha' : Nm w A' n' c' Y) (ly : 64 < dl Y) :
    Calls Tryd.prog 7 #[.pointer (some ⟨b, 0, none⟩), .slice A' n' c'] w (Err1 2 w) := by
  have q2 := h.c2
  go_enter Tryd.func7, Tryd.ntmps7
  go_wp2_with fail
  refine (gpower_longL h.toGr0 _ ha' ly).mono ?_
  rintro e w3 ⟨rfl, b3⟩
  have B3 := Lib.hid b3
  clear b3
  go_wp2
  go_ret2
  exact ⟨rfl, B3.out⟩
end
/-! ### Letters -/
theorem sizeLt : (Tryd.prog.info? 38).map (·.size) = some 3 := by kernel_rfl
theorem load_lt {w : World} {g : Nat} {x y z : Value} (hg : w.heap[g]? = some (.cells #[x, y, z] 38 (0, 0))) : (loadVar 38 ⟨g, 0, none⟩).run Tryd.prog w = .ok (.agg #[x, y, z]) w :=
  run_loadVar_row w g _ _ _ _ _ hg Tryd.underlying38 rfl sizeLt
theorem three_rowL {w : World} {g : Nat} {t : TypeId} {a b c x y z : Value} (hg : w.heap[g]? = some (.cells #[a, b, c] t (0, 0))) :
    (((w.setCell ⟨g, 0, none⟩ x).setCell ⟨g, 1, none⟩ y).setCell ⟨g, 2, none⟩ z).heap[g]? = some (.cells #[x, y, z] t (0, 0)) := by
  have h1 := heap_setCell_same w g 0 _ _ x hg
  have h2 := heap_setCell_same _ g 1 _ _ y h1
  exact heap_setCell_same _ g 2 _ _ z h2
theorem B8.set3 {w w' : World} (h : B8 w w') {g : Nat} (hg : w.heap.size ≤ g) (x y z : Value) : B8 w (((w'.setCell ⟨g, 0, none⟩ x).setCell ⟨g, 1, none⟩ y).setCell ⟨g, 2, none⟩ z) :=
  Below.setCell (Below.setCell (Below.setCell h hg x) hg y) hg z
theorem Cn.set3 {w : World} {A : Option Addr} {n c g : Nat} {N : Int} (h : Cn w A n c N) (hA : ∀ a, A = some a → 0 < n → a.block ≠ g) (x y z : Value) : Cn (((w.setCell ⟨g, 0, none⟩ x).setCell ⟨g, 1, none⟩ y).setCell ⟨g, 2, none⟩ z) A n c N :=
  ((h.far8 hA x).far8 hA y).far8 hA z
theorem Bz.set3 {w : World} {A : Option Addr} {n g : Nat} {xs : List Int} (h : Bz w A n xs) (hA : ∀ a, A = some a → 0 < n → a.block ≠ g) (x y z : Value) : Bz (((w.setCell ⟨g, 0, none⟩ x).setCell ⟨g, 1, none⟩ y).setCell ⟨g, 2, none⟩ z) A n xs :=
  ((h.setL hA x).setL hA y).setL hA z
theorem Mn.farL {t : TypeId} {k : IntKind} {w : World} {base g i g' : Nat} {n c : Nat} {xs : List Int} (h : Mn t k w base (some ⟨g', 0, none⟩) n c xs) (hg : g' ≠ g) (v : Value) : Mn t k (w.setCell ⟨g, i, none⟩ v) base (some ⟨g', 0, none⟩) n c xs :=
  h.kept (X := fun b => b = g) ⟨by simp, fun b _ hb => heap_setCell_other w ⟨g, i, none⟩ b v hb⟩ (fun a ha e => by injection ha with ha; subst ha; exact hg e)
theorem Mn.set3 {t : TypeId} {k : IntKind} {w : World} {base g g' : Nat} {n c : Nat} {xs : List Int} (h : Mn t k w base (some ⟨g', 0, none⟩) n c xs) (hg : g' ≠ g) (x y z : Value) : Mn t k (((w.setCell ⟨g, 0, none⟩ x).setCell ⟨g, 1, none⟩ y).setCell ⟨g, 2, none⟩ z) base (some ⟨g', 0, none⟩) n c xs :=
  ((h.farL hg x).farL hg y).farL hg z
/-- A letter was answered: its R, its Body, its Tag, in memory of their own. -/
def LtrA (R : Int) (B T : List Int) (nb : Nat) (w : World) (e : Ending) (w' : World) : Prop :=
  ∃ A n c Ab cb g ct, e = .returned (.tuple #[.agg #[.slice A n c, .slice Ab nb cb, .slice (some ⟨g, 0, none⟩) 32 ct], .nilIface]) ∧ Cn w' A n c R ∧ Bz w' Ab nb B ∧ Mn 5 .u8 w' w.heap.size (some ⟨g, 0, none⟩) 32 ct T ∧
    (∀ a, A = some a → 0 < n → a.block ≠ g) ∧ (∀ a, Ab = some a → 0 < nb → a.block ≠ g) ∧ (∀ a, A = some a → w.heap.size ≤ a.block) ∧ (∀ a, Ab = some a → w.heap.size ≤ a.block) ∧ w.heap.size ≤ g ∧ B8 w w'
/-- None was, and why. -/
def LtrE (code : Int) (w : World) (e : Ending) (w' : World) : Prop :=
  e = .returned (.tuple #[.agg #[.slice none 0 0, .slice none 0 0, .slice none 0 0], .iface 43 (.int .i64 code)]) ∧ B8 w w'
/-! ### takes -/
set_option maxRecDepth 100000 in
theorem gneL (b : Nat) : ∀ w : World, (binOp .neq 26 (.pointer (some ⟨b, 0, none⟩)) (.pointer none)).run Tryd.prog w = .ok (.bool true) w := fun _ => rfl
theorem takes_any (b : Nat) (A : Option Addr) (n c : Nat) (w : World) :
    Calls Tryd.prog 18 #[.pointer (some ⟨b, 0, none⟩), .slice A n c] w fun e w' => e = .returned (.bool (decide (n ≤ 1048576))) ∧ w = w' := by
  have q := gneL b
  have e1 : decide ((n : Int) ≤ 1048576) = decide (n ≤ 1048576) := by rw [decide_eq_decide]; omega
  go_enter Tryd.func18, Tryd.ntmps18
  go_wp2_with fail
  go_ret
  exact ⟨rfl, rfl⟩
/-! ### Close -/
set_option maxRecDepth 100000 in
theorem ne_errL (c : Int) : ∀ w : World, (binOp .neq 28 (.iface 43 (.int .i64 c)) .nilIface).run Tryd.prog w = .ok (.bool true) w := fun _ => rfl
section
variable {w : World} {b : Nat} {d : Gd} {Ak Ab Ar : Option Addr} {nk ck nb' cb nr cr : Nat} {K R : Int} {bs : List Int}
set_option maxHeartbeats 4000000 in
set_option maxRecDepth 100000 in
theorem close_many (hn : 1048576 < nb') : Calls Tryd.prog 8 #[.pointer (some ⟨b, 0, none⟩), .slice Ak nk ck, .slice Ab nb' cb, .slice Ar nr cr] w (LtrE 1 w) := by
  have B0 := Lib.hid (B8.alloc w (.cells #[.slice none 0 0, .slice none 0 0, .slice none 0 0] 38))
  have R0 := Lib.hid (heap_alloc_new w (.cells #[.slice none 0 0, .slice none 0 0, .slice none 0 0] 38))
  have e1 : decide (nb' ≤ 1048576) = false := by simp; omega
  obtain ⟨w0, hw0⟩ : ∃ w0, w.alloc (.cells #[.slice none 0 0, .slice none 0 0, .slice none 0 0] 38) = w0 := ⟨_, rfl⟩
  rw [hw0] at B0 R0
  have y0 : w0.cell? ⟨w.heap.size, 0, none⟩ = some (.slice none 0 0) := cell_of_row w0 _ 0 _ _ _ R0.out
  have y1 : w0.cell? ⟨w.heap.size, 1, none⟩ = some (.slice none 0 0) := cell_of_row w0 _ 1 _ _ _ R0.out
  have y2 : w0.cell? ⟨w.heap.size, 2, none⟩ = some (.slice none 0 0) := cell_of_row w0 _ 2 _ _ _ R0.out
  have z0 := frozen_of_row w0 _ 0 _ _ R0.out
  have z1 := frozen_of_row w0 _ 1 _ _ R0.out
  have z2 := frozen_of_row w0 _ 2 _ _ R0.out
  go_enter Tryd.func8, Tryd.ntmps8
  go_wp2_with fail
  refine (takes_any b Ab nb' cb w0).mono ?_
  rintro e w1 ⟨rfl, rfl⟩
  rw [e1]
  go_wp2_with fail
  refine bodyPost_ret (v := .tuple #[.agg #[.slice none 0 0, .slice none 0 0, .slice none 0 0], .iface 43 (.int .i64 1)]) (results_pf Tryd.results8 _ _ _ w.heap.size _ rfl (load_lt (three_rowL R0.out)) rfl) rfl ?_
  exact ⟨rfl, B0.out.set3 (Nat.le_refl _) _ _ _⟩
set_option maxHeartbeats 4000000 in
set_option maxRecDepth 100000 in
theorem close_long (h : Gr w b d) (hn : nb' ≤ 1048576) (hr : Nm w Ar nr cr R) (lr : 64 < dl R) : Calls Tryd.prog 8 #[.pointer (some ⟨b, 0, none⟩), .slice Ak nk ck, .slice Ab nb' cb, .slice Ar nr cr] w (LtrE 2 w) := by
  have B0 := Lib.hid (B8.alloc w (.cells #[.slice none 0 0, .slice none 0 0, .slice none 0 0] 38))
  have R0 := Lib.hid (heap_alloc_new w (.cells #[.slice none 0 0, .slice none 0 0, .slice none 0 0] 38))
  have e1 : decide (nb' ≤ 1048576) = true := by simp; omega
  obtain ⟨w0, hw0⟩ : ∃ w0, w.alloc (.cells #[.slice none 0 0, .slice none 0 0, .slice none 0 0] 38) = w0 := ⟨_, rfl⟩
  have L0 := Lib.hid (show w.heap.size < w0.heap.size by rw [← hw0]; simp)
  rw [hw0] at B0 R0
  have HG := Lib.hid (B0.out.gr h)
  have HR := Lib.hid (B0.out.nm hr)
  have q := ne_errL 2
  clear h hr
  go_enter Tryd.func8, Tryd.ntmps8
  go_wp2_with fail
  refine (takes_any b Ab nb' cb w0).mono ?_
  rintro e w1 ⟨rfl, rfl⟩
  rw [e1]
  go_wp2_with fail
  refine (gbase_longL HG.out HR.out lr).mono ?_
  rintro e w1 ⟨rfl, b1⟩
  have B1 := Lib.hid (show B8 w0 w1 from b1)
  have ROW := Lib.hid ((B1.out.row L0.out).trans R0.out)
  clear b1
  have y0 : w1.cell? ⟨w.heap.size, 0, none⟩ = some (.slice none 0 0) := cell_of_row w1 _ 0 _ _ _ ROW.out
  have y1 : w1.cell? ⟨w.heap.size, 1, none⟩ = some (.slice none 0 0) := cell_of_row w1 _ 1 _ _ _ ROW.out
  have y2 : w1.cell? ⟨w.heap.size, 2, none⟩ = some (.slice none 0 0) := cell_of_row w1 _ 2 _ _ _ ROW.out
  have z0 := frozen_of_row w1 _ 0 _ _ ROW.out
  have z1 := frozen_of_row w1 _ 1 _ _ ROW.out
  have z2 := frozen_of_row w1 _ 2 _ _ ROW.out
  clear hw0
  go_wp2_with fail
  refine bodyPost_ret (v := .tuple #[.agg #[.slice none 0 0, .slice none 0 0, .slice none 0 0], .iface 43 (.int .i64 2)]) (results_pf Tryd.results8 _ _ _ w.heap.size _ rfl (load_lt (three_rowL ROW.out)) rfl) rfl ?_
  exact ⟨rfl, (B0.out.trans B1.out).set3 (Nat.le_refl _) _ _ _⟩
set_option maxHeartbeats 4000000 in
set_option maxRecDepth 100000 in
theorem close_no (h : Gr w b d) (hn : nb' ≤ 1048576) (hk : Nm w Ak nk ck K) (hx : ¬ El d.P d.Q K) (hr : Nm w Ar nr cr R) (lr : dl R ≤ 64) : Calls Tryd.prog 8 #[.pointer (some ⟨b, 0, none⟩), .slice Ak nk ck, .slice Ab nb' cb, .slice Ar nr cr] w (LtrE 8 w) := by
  have B0 := Lib.hid (B8.alloc w (.cells #[.slice none 0 0, .slice none 0 0, .slice none 0 0] 38))
  have R0 := Lib.hid (heap_alloc_new w (.cells #[.slice none 0 0, .slice none 0 0, .slice none 0 0] 38))
  have e1 : decide (nb' ≤ 1048576) = true := by simp; omega
  obtain ⟨w0, hw0⟩ : ∃ w0, w.alloc (.cells #[.slice none 0 0, .slice none 0 0, .slice none 0 0] 38) = w0 := ⟨_, rfl⟩
  have L0 := Lib.hid (show w.heap.size < w0.heap.size by rw [← hw0]; simp)
  rw [hw0] at B0 R0
  have HG := Lib.hid (B0.out.gr h)
  have HR := Lib.hid (B0.out.nm hr)
  have HK := Lib.hid (B0.out.nm hk)
  have HX := Lib.hid hx
  have q := ne_errL 8
  have q0 := ne_nil8
  clear h hr hk hx
  go_enter Tryd.func8, Tryd.ntmps8
  go_wp2_with fail
  refine (takes_any b Ab nb' cb w0).mono ?_
  rintro e w1 ⟨rfl, rfl⟩
  rw [e1]
  clear hw0
  go_wp2_with fail
  refine (gx_base HG.out HR.out lr).mono ?_
  rintro e w1 ⟨A1, n1, c1, rfl, k1, b1, -⟩
  have B1 := Lib.hid (show B8 w0 w1 from b1)
  clear b1 k1
  go_wp2_with fail
  refine (gexp_no (B1.out.gr HG.out).toGr0 (B1.out.nm HK.out) _ HX.out).mono ?_
  rintro e w2 ⟨rfl, b2⟩
  have B2 := Lib.hid (B1.out.trans (show B8 w1 w2 from b2))
  have ROW := Lib.hid ((B2.out.row L0.out).trans R0.out)
  clear b2
  have y0 : w2.cell? ⟨w.heap.size, 0, none⟩ = some (.slice none 0 0) := cell_of_row w2 _ 0 _ _ _ ROW.out
  have y1 : w2.cell? ⟨w.heap.size, 1, none⟩ = some (.slice none 0 0) := cell_of_row w2 _ 1 _ _ _ ROW.out
  have y2 : w2.cell? ⟨w.heap.size, 2, none⟩ = some (.slice none 0 0) := cell_of_row w2 _ 2 _ _ _ ROW.out
  have z0 := frozen_of_row w2 _ 0 _ _ ROW.out
  have z1 := frozen_of_row w2 _ 1 _ _ ROW.out
  have z2 := frozen_of_row w2 _ 2 _ _ ROW.out
  go_wp2_with fail
  refine bodyPost_ret (v := .tuple #[.agg #[.slice none 0 0, .slice none 0 0, .slice none 0 0], .iface 43 (.int .i64 8)]) (results_pf Tryd.results8 _ _ _ w.heap.size _ rfl (load_lt (three_rowL ROW.out)) rfl) rfl ?_
  exact ⟨rfl, (B0.out.trans B2.out).set3 (Nat.le_refl _) _ _ _⟩
set_option maxHeartbeats 8000000 in
set_option maxRecDepth 100000 in
theorem close_ok (h : Gr w b d) (hT : Tabs w) (hk : Nm w Ak nk ck K) (hx : El d.P d.Q K) (hb : Bz w Ab nb' bs) (hn : nb' ≤ 1048576) (hr : Nm w Ar nr cr R) (lr : dl R ≤ 64) :
    Calls Tryd.prog 8 #[.pointer (some ⟨b, 0, none⟩), .slice Ak nk ck, .slice Ab nb' cb, .slice Ar nr cr] w
      (LtrA (gx d.P d.Q d.G R) (slX d.P (gx d.P d.Q K R) (gx d.P d.Q d.G R) bs) (slG d.P (gx d.P d.Q K R) (gx d.P d.Q d.G R) (slX d.P (gx d.P d.Q K R) (gx d.P d.Q d.G R) bs)) nb' w) := by
  obtain ⟨E, hE⟩ : ∃ E, gx d.P d.Q K R = E := ⟨_, rfl⟩
  obtain ⟨Y, hY⟩ : ∃ Y, gx d.P d.Q d.G R = Y := ⟨_, rfl⟩
  obtain ⟨X, hX⟩ : ∃ X, slX d.P E Y bs = X := ⟨_, rfl⟩
  obtain ⟨KH, hKH⟩ : ∃ KH, slH d.P E Y = KH := ⟨_, rfl⟩
  obtain ⟨KT2, hKT⟩ : ∃ KT2, slT d.P E Y = KT2 := ⟨_, rfl⟩
  have HE := Lib.hid hE
  have HY := Lib.hid hY
  have HXX := Lib.hid (show xorB bs (stream KH nb') = X by rw [← hX, ← hKH, ← hb.rd.len]; rfl)
  have HTG := Lib.hid (show mac KT2 X = slG d.P E Y X by rw [← hKT]; rfl)
  have HKH := Lib.hid hKH
  have HKT := Lib.hid hKT
  have LX := Lib.hid (show X.length = nb' by rw [← hX, slX_len]; exact hb.rd.len)
  have DX := Lib.hid (show Dig 256 X by rw [← hX]; exact slX_dig _ _ _ _)
  rw [hE, hY, hX]
  have B0 := Lib.hid (B8.alloc w (.cells #[.slice none 0 0, .slice none 0 0, .slice none 0 0] 38))
  have R0 := Lib.hid (heap_alloc_new w (.cells #[.slice none 0 0, .slice none 0 0, .slice none 0 0] 38))
  have e1 : decide (nb' ≤ 1048576) = true := by simp; omega
  obtain ⟨w0, hw0⟩ : ∃ w0, w.alloc (.cells #[.slice none 0 0, .slice none 0 0, .slice none 0 0] 38) = w0 := ⟨_, rfl⟩
  have L0 := Lib.hid (show w.heap.size < w0.heap.size by rw [← hw0]; simp)
  rw [hw0] at B0 R0
  have HG := Lib.hid (B0.out.gr h)
  have HT := Lib.hid (B0.out.tabs hT)
  have HR := Lib.hid (B0.out.nm hr)
  have HK := Lib.hid (B0.out.nm hk)
  have HB := Lib.hid (B0.out.bz hb)
  have HX := Lib.hid hx
  have q0 := ne_nil8
  clear h hT hr hk hx hb hE hY hX hKH hKT
  go_enter Tryd.func8, Tryd.ntmps8
  go_wp2_with fail
  refine (takes_any b Ab nb' cb w0).mono ?_
  rintro e w1 ⟨rfl, rfl⟩
  rw [e1]
  clear hw0
  go_wp2_with fail
  refine (gx_base HG.out HR.out lr).mono ?_
  rintro e w1 ⟨A1, n1, c1, rfl, k1, b1, nw1⟩
  rw [HY.out] at k1
  have B1 := Lib.hid (show B8 w0 w1 from b1)
  have K1 := Lib.hid k1
  have N1 := Lib.hid (show ∀ a, A1 = some a → w.heap.size < a.block from fun a ha => by have := nw1 a ha; have := L0.out; omega)
  clear b1 k1 nw1
  go_wp2_with fail
  refine (gx_exp (B1.out.gr HG.out).toGr0 (B1.out.nm HK.out) (B1.out.nm HR.out) HX.out lr).mono ?_
  rintro e w2 ⟨A2, n2, c2, rfl, k2, b2, -⟩
  rw [HE.out] at k2
  have D2 := Lib.hid (show B8 w1 w2 from b2)
  have B2 := Lib.hid (B1.out.trans D2.out)
  have K1b := Lib.hid (D2.out.cn K1.out)
  have K2 := Lib.hid k2
  clear b2 k2 K1
  go_wp2_with fail
  refine (keysof_any (B2.out.gr HG.out).toGr0 (B2.out.tabs HT.out) K2.out.nm K1b.out.nm).mono ?_
  rintro e w3 ⟨A3, c3, A4, c4, rfl, k3, k4, b3⟩
  rw [HKH.out] at k3
  rw [HKT.out] at k4
  have ba := B8.alloc w3 (.cells #[.slice A3 32 c3, .slice A4 32 c4] 62)
  have px := two_box w3 (.slice A3 32 c3) (.slice A4 32 c4) 62
  obtain ⟨w4, hw4⟩ : ∃ w4, w3.alloc (.cells #[.slice A3 32 c3, .slice A4 32 c4] 62) = w4 := ⟨_, rfl⟩
  have S4 := Lib.hid (show w3.heap.size < w4.heap.size by rw [← hw4]; simp)
  rw [hw4] at ba px
  have x0 := px.1
  have x1 := px.2
  have PX := Lib.hid px
  have D4 := Lib.hid (b3.trans ba)
  have B4 := Lib.hid (B2.out.trans D4.out)
  have K1c := Lib.hid (D4.out.cn K1b.out)
  have K3 := Lib.hid (ba.bsB k3)
  have K4 := Lib.hid (ba.bsB k4)
  clear b3 ba px k3 k4 K1b K2
  go_wp2_with fail
  clear hw4
  refine (xored_any (B4.out.tabs HT.out) K3.out (B4.out.bz HB.out) hn).mono ?_
  rintro e w5 ⟨A5, c5, rfl, k5, b5⟩
  rw [HXX.out] at k5
  have D5 := Lib.hid b5
  have B5 := Lib.hid (B4.out.trans b5)
  have K1d := Lib.hid (b5.cn K1c.out)
  have K4b := Lib.hid (b5.bsB K4.out)
  have K5 := Lib.hid (k5.bsL DX.out)
  have N5 := Lib.hid (show ∀ a, A5 = some a → w.heap.size < a.block from fun a ha => by have := k5.new a ha; have := B4.out.sz; have := L0.out; omega)
  clear x0 x1
  have x0 := (D5.out.cell (o := 0) S4.out).trans PX.out.1
  have x1 := (D5.out.cell (o := 1) S4.out).trans PX.out.2
  clear b5 k5 K1c K4 K3
  go_wp2_with fail
  refine (tagof_any (B5.out.tabs HT.out) K4b.out K5.out hn).mono ?_
  rintro e w6 ⟨g, ct, rfl, k6, g6, b6⟩
  rw [HTG.out] at k6
  have B6 := Lib.hid (B5.out.trans b6)
  have ROW := Lib.hid ((B6.out.row L0.out).trans R0.out)
  have K1e := Lib.hid (b6.cn K1d.out)
  have K5b := Lib.hid (b6.bz K5.out)
  have K6 := Lib.hid k6
  have G6 := Lib.hid g6
  have G0 := Lib.hid (show w.heap.size < g by have := B5.out.sz; have := L0.out; omega)
  have F1 := Lib.hid (show ∀ a, A1 = some a → 0 < n1 → a.block ≠ g from fun a ha h0 => by have := K1d.out.nm.blk h0 a ha; omega)
  have F5 := Lib.hid (show ∀ a, A5 = some a → 0 < nb' → a.block ≠ g from fun a ha h0 => by
    obtain ⟨bb, oo, e, hlt, -⟩ := K5.out.rd.cells h0
    rw [ha] at e; injection e with e; subst e
    show bb ≠ g
    omega)
  clear b6 k6 g6 x0 x1 K1d K5 K4b
  have y0 : w6.cell? ⟨w.heap.size, 0, none⟩ = some (.slice none 0 0) := cell_of_row w6 _ 0 _ _ _ ROW.out
  have y1 : w6.cell? ⟨w.heap.size, 1, none⟩ = some (.slice none 0 0) := cell_of_row w6 _ 1 _ _ _ ROW.out
  have y2 : w6.cell? ⟨w.heap.size, 2, none⟩ = some (.slice none 0 0) := cell_of_row w6 _ 2 _ _ _ ROW.out
  have z0 := frozen_of_row w6 _ 0 _ _ ROW.out
  have z1 := frozen_of_row w6 _ 1 _ _ ROW.out
  have z2 := frozen_of_row w6 _ 2 _ _ ROW.out
  go_wp2_with fail
  refine bodyPost_ret (v := .tuple #[.agg #[.slice A1 n1 c1, .slice A5 nb' c5, .slice (some ⟨g, 0, none⟩) 32 ct], .nilIface]) (results_pf Tryd.results8 _ _ _ w.heap.size _ rfl (load_lt (three_rowL ROW.out)) rfl) rfl ?_
  exact ⟨A1, n1, c1, A5, c5, g, ct, rfl, K1e.out.set3 (fun a ha _ => by have := N1.out a ha; omega) _ _ _, K5b.out.set3 (fun a ha _ => by have := N5.out a ha; omega) _ _ _, (K6.out.baseL (b' := w.heap.size) (by have := (B0.out.trans B5.out).sz; omega)).set3 (by have := G0.out; omega) _ _ _, F1.out, F5.out, fun a ha => Nat.le_of_lt (N1.out a ha), fun a ha => Nat.le_of_lt (N5.out a ha), by have := G0.out; omega, (B0.out.trans B6.out).set3 (Nat.le_refl _) _ _ _⟩
end
end Go.Proofs.YtjalncdllegfoaaDoor
/-
  What Open of package seal answers.
-/
namespace Go.Proofs.YtjalncdllegfoaaDoor
open Go.RowKit
set_option linter.unusedVariables false
theorem three_box (w : World) (x y z : Value) (t : TypeId) : (w.alloc (.cells #[x, y, z] t)).cell? ⟨w.heap.size, 0, none⟩ = some x ∧ (w.alloc (.cells #[x, y, z] t)).cell? ⟨w.heap.size, 1, none⟩ = some y ∧ (w.alloc (.cells #[x, y, z] t)).cell? ⟨w.heap.size, 2, none⟩ = some z := by
  refine ⟨?_, ?_, ?_⟩ <;> simp [World.cell?_alloc_at]
section
variable {w : World} {b : Nat} {d : Gd} {As Al Ab At : Option Addr} {ns cs nl cl nb' cb nt ct : Nat} {S R : Int} {bs ts : List Int}
set_option maxHeartbeats 4000000 in
set_option maxRecDepth 100000 in
theorem open_many (hn : 1048576 < nb') : Calls Tryd.prog 9 #[.pointer (some ⟨b, 0, none⟩), .slice As ns cs, .agg #[.slice Al nl cl, .slice Ab nb' cb, .slice At nt ct]] w (Err1 1 w) := by
  have B0 := Lib.hid (B8.alloc w (.cells #[.slice Al nl cl, .slice Ab nb' cb, .slice At nt ct] 38))
  have px := three_box w (.slice Al nl cl) (.slice Ab nb' cb) (.slice At nt ct) 38
  have e1 : decide (nb' ≤ 1048576) = false := by simp; omega
  obtain ⟨w0, hw0⟩ : ∃ w0, w.alloc (.cells #[.slice Al nl cl, .slice Ab nb' cb, .slice At nt ct] 38) = w0 := ⟨_, rfl⟩
  rw [hw0] at B0 px
  have x1 := px.2.1
  clear px
  go_enter Tryd.func9, Tryd.ntmps9
  go_wp2_with fail
  refine (takes_any b Ab nb' cb w0).mono ?_
  rintro e w1 ⟨rfl, rfl⟩
  rw [e1]
  go_wp2_with fail
  go_ret2
  exact ⟨rfl, B0.out⟩
set_option maxHeartbeats 4000000 in
set_option maxRecDepth 100000 in
theorem open_long (h : Gr0 w b d) (hn : nb' ≤ 1048576) (hs : Nm w As ns cs S) (ls : 64 < dl S) : Calls Tryd.prog 9 #[.pointer (some ⟨b, 0, none⟩), .slice As ns cs, .agg #[.slice Al nl cl, .slice Ab nb' cb, .slice At nt ct]] w (Err1 2 w) := by
  have B0 := Lib.hid (B8.alloc w (.cells #[.slice Al nl cl, .slice Ab nb' cb, .slice At nt ct] 38))
  have px := three_box w (.slice Al nl cl) (.slice Ab nb' cb) (.slice At nt ct) 38
  have e1 : decide (nb' ≤ 1048576) = true := by simp; omega
  obtain ⟨w0, hw0⟩ : ∃ w0, w.alloc (.cells #[.slice Al nl cl, .slice Ab nb' cb, .slice At nt ct] 38) = w0 := ⟨_, rfl⟩
  rw [hw0] at B0 px
  have x1 := px.2.1
  have HG := Lib.hid (B0.out.gr0 h)
  have HS := Lib.hid (B0.out.nm hs)
  have q := ne_errL 2
  clear px h hs
  go_enter Tryd.func9, Tryd.ntmps9
  go_wp2_with fail
  refine (takes_any b Ab nb' cb w0).mono ?_
  rintro e w1 ⟨rfl, rfl⟩
  rw [e1]
  clear hw0
  go_wp2_with fail
  refine (gscalars_any HG.out).mono ?_
  rintro e w1 ⟨bm, Am, cm, lowm, Bm, cBm, Sm, cSm, rfl, md, b1, -⟩
  have MD := Lib.hid md
  have B1 := Lib.hid (show B8 w0 w1 from b1)
  clear md b1
  go_wp2_with fail
  refine (reduce_long MD.out (B1.out.nm HS.out) ls).mono ?_
  rintro e w2 ⟨rfl, b2⟩
  have B2 := Lib.hid (B1.out.trans (show B8 w1 w2 from b2))
  clear b2
  go_wp2_with fail
  go_ret2
  exact ⟨rfl, B0.out.trans B2.out⟩
set_option maxHeartbeats 4000000 in
set_option maxRecDepth 100000 in
theorem open_no (h : Gr0 w b d) (hn : nb' ≤ 1048576) (hs : Nm w As ns cs S) (ls : dl S ≤ 64) (hl : Nm w Al nl cl R) (hx : ¬ El d.P d.Q R) : Calls Tryd.prog 9 #[.pointer (some ⟨b, 0, none⟩), .slice As ns cs, .agg #[.slice Al nl cl, .slice Ab nb' cb, .slice At nt ct]] w (Err1 8 w) := by
  have B0 := Lib.hid (B8.alloc w (.cells #[.slice Al nl cl, .slice Ab nb' cb, .slice At nt ct] 38))
  have px := three_box w (.slice Al nl cl) (.slice Ab nb' cb) (.slice At nt ct) 38
  have e1 : decide (nb' ≤ 1048576) = true := by simp; omega
  obtain ⟨w0, hw0⟩ : ∃ w0, w.alloc (.cells #[.slice Al nl cl, .slice Ab nb' cb, .slice At nt ct] 38) = w0 := ⟨_, rfl⟩
  have L0 := Lib.hid (show w.heap.size < w0.heap.size by rw [← hw0]; simp)
  rw [hw0] at B0 px
  have x1 := px.2.1
  have PX := Lib.hid px
  have HG := Lib.hid (B0.out.gr0 h)
  have HS := Lib.hid (B0.out.nm hs)
  have HL := Lib.hid (B0.out.nm hl)
  have HX := Lib.hid hx
  have q := ne_errL 8
  have q0 := ne_nil8
  clear px h hs hl hx
  go_enter Tryd.func9, Tryd.ntmps9
  go_wp2_with fail
  refine (takes_any b Ab nb' cb w0).mono ?_
  rintro e w1 ⟨rfl, rfl⟩
  rw [e1]
  clear hw0 x1
  go_wp2_with fail
  refine (gscalars_any HG.out).mono ?_
  rintro e w1 ⟨bm, Am, cm, lowm, Bm, cBm, Sm, cSm, rfl, md, b1, -⟩
  have MD := Lib.hid md
  have B1 := Lib.hid (show B8 w0 w1 from b1)
  clear md b1
  go_wp2_with fail
  refine (reduce_any MD.out (B1.out.nm HS.out) ls).mono ?_
  rintro e w2 ⟨A2, n2, c2, rfl, k2, b2, -⟩
  have B2 := Lib.hid (B1.out.trans (show B8 w1 w2 from b2))
  have x0 := (B2.out.cell (o := 0) L0.out).trans PX.out.1
  clear k2 b2
  go_wp2_with fail
  refine (gexp_no (B2.out.gr0 HG.out) (B2.out.nm HL.out) _ HX.out).mono ?_
  rintro e w3 ⟨rfl, b3⟩
  have B3 := Lib.hid (B2.out.trans (show B8 w2 w3 from b3))
  clear b3 x0
  go_wp2_with fail
  go_ret2
  exact ⟨rfl, B0.out.trans B3.out⟩
/-- What Open answers to a letter that is one: its bytes, or that it is another's. -/
def OpnA (P E R : Int) (bs ts : List Int) (n : Nat) (w : World) (e : Ending) (w' : World) : Prop :=
  (ts = slG P E R bs ∧ XoP (slX P E R bs) n w e w') ∨ (ts ≠ slG P E R bs ∧ Err1 15 w e w')
set_option maxHeartbeats 8000000 in
set_option maxRecDepth 100000 in
theorem open_ok (h : Gr0 w b d) (hT : Tabs w) (hn : nb' ≤ 1048576) (hs : Nm w As ns cs S) (ls : dl S ≤ 64) (hl : Nm w Al nl cl R) (hx : El d.P d.Q R) (hb : Bz w Ab nb' bs) (ht : Bz w At nt ts) :
    Calls Tryd.prog 9 #[.pointer (some ⟨b, 0, none⟩), .slice As ns cs, .agg #[.slice Al nl cl, .slice Ab nb' cb, .slice At nt ct]] w (OpnA d.P (gx d.P d.Q R S) R bs ts nb' w) := by
  obtain ⟨E, hE⟩ : ∃ E, gx d.P d.Q R S = E := ⟨_, rfl⟩
  obtain ⟨KH, hKH⟩ : ∃ KH, slH d.P E R = KH := ⟨_, rfl⟩
  obtain ⟨KT2, hKT⟩ : ∃ KT2, slT d.P E R = KT2 := ⟨_, rfl⟩
  obtain ⟨X, hX⟩ : ∃ X, slX d.P E R bs = X := ⟨_, rfl⟩
  obtain ⟨T, hTT⟩ : ∃ T, slG d.P E R bs = T := ⟨_, rfl⟩
  have HE := Lib.hid (show gx d.P d.Q R (S % d.Q) = E by rw [← hE]; exact gx_mod (by have := h.safe.q1; omega) _ _)
  have HXX := Lib.hid (show xorB bs (stream KH nb') = X by rw [← hX, ← hKH, ← hb.rd.len]; rfl)
  have HTG := Lib.hid (show mac KT2 bs = T by rw [← hTT, ← hKT]; rfl)
  have HKH := Lib.hid hKH
  have HKT := Lib.hid hKT
  rw [hE]
  have Q0 := Lib.hid (show 0 < d.Q by have := h.safe.q3; omega)
  have LQ := Lib.hid (show dl d.Q ≤ 64 by have := h.lq; omega)
  have GOAL := fun e w' => show OpnA d.P E R bs ts nb' w e w' ↔ ((ts = T ∧ XoP X nb' w e w') ∨ (ts ≠ T ∧ Err1 15 w e w')) by unfold OpnA; rw [hX, hTT]
  have GG := Lib.hid GOAL
  have B0 := Lib.hid (B8.alloc w (.cells #[.slice Al nl cl, .slice Ab nb' cb, .slice At nt ct] 38))
  have px := three_box w (.slice Al nl cl) (.slice Ab nb' cb) (.slice At nt ct) 38
  have e1 : decide (nb' ≤ 1048576) = true := by simp; omega
  obtain ⟨w0, hw0⟩ : ∃ w0, w.alloc (.cells #[.slice Al nl cl, .slice Ab nb' cb, .slice At nt ct] 38) = w0 := ⟨_, rfl⟩
  have L0 := Lib.hid (show w.heap.size < w0.heap.size by rw [← hw0]; simp)
  rw [hw0] at B0 px
  have x1 := px.2.1
  have PX := Lib.hid px
  have HG := Lib.hid (B0.out.gr0 h)
  have HT := Lib.hid (B0.out.tabs hT)
  have HS := Lib.hid (B0.out.nm hs)
  have HL := Lib.hid (B0.out.nm hl)
  have HB := Lib.hid (B0.out.bz hb)
  have HTs := Lib.hid (B0.out.bz ht)
  have HX := Lib.hid hx
  have q0 := ne_nil8
  clear px h hs hl hx hT hb ht GOAL hE hKH hKT hX hTT
  go_enter Tryd.func9, Tryd.ntmps9
  go_wp2_with fail
  refine (takes_any b Ab nb' cb w0).mono ?_
  rintro e w1 ⟨rfl, rfl⟩
  rw [e1]
  clear hw0 x1
  go_wp2_with fail
  refine (gscalars_any HG.out).mono ?_
  rintro e w1 ⟨bm, Am, cm, lowm, Bm, cBm, Sm, cSm, rfl, md, b1, -⟩
  have MD := Lib.hid md
  have B1 := Lib.hid (show B8 w0 w1 from b1)
  clear md b1
  go_wp2_with fail
  refine (reduce_any MD.out (B1.out.nm HS.out) ls).mono ?_
  rintro e w2 ⟨A2, n2, c2, rfl, k2, b2, -⟩
  have B2 := Lib.hid (B1.out.trans (show B8 w1 w2 from b2))
  have K2 := Lib.hid k2
  have L2 := Lib.hid (k2.d64 (Int.emod_lt_of_pos _ Q0.out) LQ.out)
  have x0 := (B2.out.cell (o := 0) L0.out).trans PX.out.1
  clear k2 b2 MD
  go_wp2_with fail
  refine (gx_exp (B2.out.gr0 HG.out) (B2.out.nm HL.out) K2.out.nm HX.out L2.out).mono ?_
  rintro e w3 ⟨A3, n3, c3, rfl, k3, b3, -⟩
  rw [HE.out] at k3
  have B3 := Lib.hid (B2.out.trans (show B8 w2 w3 from b3))
  have K3 := Lib.hid k3
  clear b3 x0 k3
  have x0 := (B3.out.cell (o := 0) L0.out).trans PX.out.1
  go_wp2_with fail
  refine (keysof_any (B3.out.gr0 HG.out) (B3.out.tabs HT.out) K3.out.nm (B3.out.nm HL.out)).mono ?_
  rintro e w4 ⟨A4, c4, A5, c5, rfl, k4, k5, b4⟩
  rw [HKH.out] at k4
  rw [HKT.out] at k5
  have ba := B8.alloc w4 (.cells #[.slice A4 32 c4, .slice A5 32 c5] 62)
  have py := two_box w4 (.slice A4 32 c4) (.slice A5 32 c5) 62
  obtain ⟨w5, hw5⟩ : ∃ w5, w4.alloc (.cells #[.slice A4 32 c4, .slice A5 32 c5] 62) = w5 := ⟨_, rfl⟩
  have S5 := Lib.hid (show w4.heap.size < w5.drew.heap.size by rw [← hw5]; simp)
  rw [hw5] at ba py
  have bd := ba.trans (B8.drew w5)
  have B5 := Lib.hid (B3.out.trans (b4.trans bd))
  have K4 := Lib.hid (bd.bsB k4)
  have K5 := Lib.hid (bd.bsB k5)
  have PY := Lib.hid (show w5.drew.cell? ⟨w4.heap.size, 0, none⟩ = some (.slice A4 32 c4) ∧ w5.drew.cell? ⟨w4.heap.size, 1, none⟩ = some (.slice A5 32 c5) from py)
  have q00 := PY.out.1
  have q01 := PY.out.2
  have q11 := (B5.out.cell (o := 1) L0.out).trans PX.out.2.1
  have q12 := (B5.out.cell (o := 2) L0.out).trans PX.out.2.2
  clear b4 ba py bd k4 k5 x0
  go_wp2_with fail
  clear hw5
  go_region_law (first
    | (go_simp; go_at_call 25; (with_reducible refine (beq_any (C6.out.bz (B5.out.bz HTs.out)) K6.out).mono ?_); rintro e u7 ⟨rfl, rfl⟩; obtain ⟨q, hq⟩ : ∃ q : Bool, decide (ts = T) = q := ⟨_, rfl⟩; rw [hq]; have HQ := Lib.hid hq; clear hq)
    | (go_simp; go_at_call 22; (with_reducible refine (tagof_any (B5.out.tabs HT.out) K5.out (B5.out.bz HB.out) hn).mono ?_); rintro e u6 ⟨g, ct6, rfl, k6, g6, b6⟩; rw [HTG.out] at k6; have C6 := Lib.hid b6; have K6 := Lib.hid (show Bz u6 (some ⟨g, 0, none⟩) 32 T from k6.bsL (by rw [← HTG.out]; exact sha_dig _)); have r00 := (C6.out.cell (o := 0) S5.out).trans PY.out.1; have r01 := (C6.out.cell (o := 1) S5.out).trans PY.out.2; have r11 := ((B5.out.trans C6.out).cell (o := 1) L0.out).trans PX.out.2.1; have r12 := ((B5.out.trans C6.out).cell (o := 2) L0.out).trans PX.out.2.2; clear k6 g6 b6 q00 q01 q11 q12))
  all_goals
    cases q with
    | true =>
      have HTE := Lib.hid (of_decide_eq_true HQ.out)
      go_wp2_with fail
      refine (xored_any (C6.out.tabs (B5.out.tabs HT.out)) (C6.out.bsB K4.out) (C6.out.bz (B5.out.bz HB.out)) hn).mono ?_
      rintro e w8 ⟨A8, c8, rfl, k8, b8⟩
      rw [HXX.out] at k8
      have K8 := Lib.hid k8
      have B8' := Lib.hid b8
      clear k8 b8
      go_wp2_with fail
      go_ret2
      exact (GG.out _ _).2 (.inl ⟨HTE.out, A8, c8, rfl, K8.out.baseL (b' := w.heap.size) (by have := (B0.out.trans (B5.out.trans C6.out)).sz; omega), B0.out.trans (B5.out.trans (C6.out.trans B8'.out))⟩)
    | false =>
      have HTE := Lib.hid (of_decide_eq_false HQ.out)
      go_wp2_with fail
      go_ret2
      exact (GG.out _ _).2 (.inr ⟨HTE.out, rfl, B0.out.trans (B5.out.trans C6.out)⟩)
end
end Go.Proofs.YtjalncdllegfoaaDoor
/-
  What was sealed to a secret's power: it is opened by that secret; with another tag it isn't.
-/
namespace Go.Proofs.YtjalncdllegfoaaDoor
open Go.RowKit
set_option linter.unusedVariables false
/-- The element that both agree on. -/
def shE (P Q G S R : Int) : Int := gx P Q (gx P Q G S) R
/-- What is hidden of bytes, and its tag. -/
def shX (P Q G S R : Int) (bs : List Int) : List Int := slX P (shE P Q G S R) (gx P Q G R) bs
def shT (P Q G S R : Int) (bs : List Int) : List Int := slG P (shE P Q G S R) (gx P Q G R) (shX P Q G S R bs)
theorem shX_len (P Q G S R : Int) (bs : List Int) : (shX P Q G S R bs).length = bs.length := slX_len _ _ _ _
theorem shT_len (P Q G S R : Int) (bs : List Int) : (shT P Q G S R bs).length = 32 := sha_len _
theorem shT_dig (P Q G S R : Int) (bs : List Int) : Dig 256 (shT P Q G S R bs) := sha_dig _
section
variable {w : World} {b : Nat} {d : Gd} {As Ak Al Ab At : Option Addr} {ns cs nk ck nl cl nb' cb nt ct : Nat} {S R : Int} {bs ts : List Int}
theorem close_back (h : Gr w b d) (hT : Tabs w) (hk : Nm w Ak nk ck (gx d.P d.Q d.G S)) (s0 : 0 ≤ S) (hb : Bz w Ab nb' bs) (hn : nb' ≤ 1048576) (hr : Nm w Al nl cl R) (lr : dl R ≤ 64) :
    Calls Tryd.prog 8 #[.pointer (some ⟨b, 0, none⟩), .slice Ak nk ck, .slice Ab nb' cb, .slice Al nl cl] w (LtrA (gx d.P d.Q d.G R) (shX d.P d.Q d.G S R bs) (shT d.P d.Q d.G S R bs) nb' w) :=
  close_ok h hT hk (gx_el h.safe.p2 h.safe.q1 h.el S) hb hn hr lr
theorem open_any (h : Gr w b d) (hT : Tabs w) (hs : Nm w As ns cs S) (ls : dl S ≤ 64) (r0 : 0 ≤ R) (hl : Nm w Al nl cl (gx d.P d.Q d.G R)) (hd : Dig 256 bs) (hn : bs.length = nb') (hn2 : nb' ≤ 1048576) (hb : Bz w Ab nb' (shX d.P d.Q d.G S R bs)) (ht : Bz w At nt ts) :
    Calls Tryd.prog 9 #[.pointer (some ⟨b, 0, none⟩), .slice As ns cs, .agg #[.slice Al nl cl, .slice Ab nb' cb, .slice At nt ct]] w (fun e w' => (ts = shT d.P d.Q d.G S R bs ∧ XoP bs nb' w e w') ∨ (ts ≠ shT d.P d.Q d.G S R bs ∧ Err1 15 w e w')) := by
  have e1 : gx d.P d.Q (gx d.P d.Q d.G R) S = shE d.P d.Q d.G S R := agree h.safe.p2 h.safe.q1 h.el hs.pos r0
  have e2 : slX d.P (shE d.P d.Q d.G S R) (gx d.P d.Q d.G R) (shX d.P d.Q d.G S R bs) = bs := slX_back hd
  refine (open_ok h.toGr0 hT hn2 hs ls hl (gx_el h.safe.p2 h.safe.q1 h.el R) hb ht).mono fun e w' hh => ?_
  rw [e1] at hh
  unfold OpnA at hh
  rw [e2] at hh
  exact hh
theorem open_yes (h : Gr w b d) (hT : Tabs w) (hs : Nm w As ns cs S) (ls : dl S ≤ 64) (r0 : 0 ≤ R) (hl : Nm w Al nl cl (gx d.P d.Q d.G R)) (hd : Dig 256 bs) (hn : bs.length = nb') (hn2 : nb' ≤ 1048576) (hb : Bz w Ab nb' (shX d.P d.Q d.G S R bs)) (ht : Bz w At nt (shT d.P d.Q d.G S R bs)) :
    Calls Tryd.prog 9 #[.pointer (some ⟨b, 0, none⟩), .slice As ns cs, .agg #[.slice Al nl cl, .slice Ab nb' cb, .slice At nt ct]] w (XoP bs nb' w) :=
  (open_any h hT hs ls r0 hl hd hn hn2 hb ht).mono fun e w' hh => by
    rcases hh with ⟨-, hh⟩ | ⟨hh, -⟩
    · exact hh
    · exact absurd rfl hh
theorem open_not (h : Gr w b d) (hT : Tabs w) (hs : Nm w As ns cs S) (ls : dl S ≤ 64) (r0 : 0 ≤ R) (hl : Nm w Al nl cl (gx d.P d.Q d.G R)) (hd : Dig 256 bs) (hn : bs.length = nb') (hn2 : nb' ≤ 1048576) (hb : Bz w Ab nb' (shX d.P d.Q d.G S R bs)) (ht : Bz w At nt ts) (hne : ts ≠ shT d.P d.Q d.G S R bs) :
    Calls Tryd.prog 9 #[.pointer (some ⟨b, 0, none⟩), .slice As ns cs, .agg #[.slice Al nl cl, .slice Ab nb' cb, .slice At nt ct]] w (Err1 15 w) :=
  (open_any h hT hs ls r0 hl hd hn hn2 hb ht).mono fun e w' hh => by
    rcases hh with ⟨hh, -⟩ | ⟨-, hh⟩
    · exact absurd hh hne
    · exact hh
end
/-- A byte more is another byte. -/
theorem wrap_more {x : Int} (h : 0 ≤ x ∧ x < 256) : IntKind.u8.wrap (x + 1) ≠ x := by
  rw [IntKind.wrap_u8]; omega
/-- Bytes of which one was turned are others. -/
theorem set_ne {xs : List Int} {j : Nat} {y : Int} (hj : j < xs.length) (h : y ≠ dig xs j) : xs.set j y ≠ xs := fun e => by
  have h1 : dig (xs.set j y) j = y := dig_set_same hj
  rw [e] at h1
  exact h h1.symm
theorem set_dig {xs : List Int} (h : Dig 256 xs) {j : Nat} {y : Int} (hy : 0 ≤ y ∧ y < 256) : Dig 256 (xs.set j y) := fun x hx => by
  rcases List.mem_or_eq_of_mem_set hx with g | rfl
  · exact h x g
  · exact hy
end Go.Proofs.YtjalncdllegfoaaDoor
