/-
  Several texts in one: Mac, Stm.
-/
import Derived.Test.YtjalncdllegfoaaDoorHsb
import Derived.Deep.CutBlock
import Derived.Deep.DeepCutAuto
import Derived.Lib.SlBuf
import Derived.Deep.RegionHeld3
/-
  What Mac answers.
-/
namespace Go.Proofs.YtjalncdllegfoaaDoor
open Go.RowKit
set_option linter.unusedVariables false
theorem below_al1 {w w' : World} {o : Obj} (h : Below (w.alloc o).heap.size (w.alloc o) w') : Below w.heap.size w w' :=
  ((Below.refl _ _).alloc (Nat.le_refl _) _).trans (h.mono (by simp))
theorem pts_one {w : World} {A1 : Option Addr} {n1 c1 : Nat} {xs : List Int} (h1 : Bs w A1 n1 c1 xs) :
    Pts (w.alloc (.cells #[.slice A1 n1 c1] 24)) (some ⟨w.heap.size, 0, none⟩) 1 1 [xs] := by
  obtain rfl := h1.rd.len
  refine ⟨rfl, Nat.le_refl _, fun _ => ⟨w.heap.size, 0, rfl, by simp, fun j hj => ?_⟩⟩
  obtain rfl : j = 0 := by omega
  exact ⟨A1, c1, xs, rfl, by simp [World.cell?_alloc_at], (h1.alloc _).bz⟩
theorem pts_two {w : World} {A1 A2 : Option Addr} {n1 c1 n2 c2 : Nat} {xs ys : List Int} (h1 : Bs w A1 n1 c1 xs) (h2 : Bz w A2 n2 ys) :
    Pts (w.alloc (.cells #[.slice A1 n1 c1, .slice A2 n2 c2] 24)) (some ⟨w.heap.size, 0, none⟩) 2 2 [xs, ys] := by
  obtain rfl := h1.rd.len
  obtain rfl := h2.rd.len
  refine ⟨rfl, Nat.le_refl _, fun _ => ⟨w.heap.size, 0, rfl, by simp, fun j hj => ?_⟩⟩
  rcases Nat.lt_or_ge j 1 with g | g
  · obtain rfl : j = 0 := by omega
    exact ⟨A1, c1, xs, rfl, by simp [World.cell?_alloc_at], (h1.alloc _).bz⟩
  · obtain rfl : j = 1 := by omega
    exact ⟨A2, c2, ys, rfl, by simp [World.cell?_alloc_at], h2.alloc _⟩
theorem concat_two {w : World} {A1 A2 : Option Addr} {n1 c1 n2 c2 : Nat} {xs ys : List Int} (h1 : Bs w A1 n1 c1 xs) (h2 : Bz w A2 n2 ys) (hl : n1 + n2 ≤ 1099511627776) :
    Calls Tryd.prog 67 #[.slice (some ⟨w.heap.size, 0, none⟩) 2 2] (w.alloc (.cells #[.slice A1 n1 c1, .slice A2 n2 c2] 24)) fun e w' =>
      ∃ A c, e = .returned (.slice A (n1 + n2) c) ∧ Bs w' A (n1 + n2) c (xs ++ ys) ∧ Below w.heap.size w w' := by
  have e1 := h1.rd.len
  have e2 := h2.rd.len
  refine (concat_any (pts_two h1 h2) (by simp; omega) (by omega)).mono fun e w' h => ?_
  obtain ⟨v, rfl, ho, hb⟩ := h
  have e3 : [xs, ys].flatten = xs ++ ys := by simp
  rw [e3] at ho
  obtain ⟨A, c, rfl, hbs⟩ := ho.bs (h1.dig_.append h2.dig_) (by rw [List.length_append]; omega)
  rw [List.length_append, e1, e2] at hbs ⊢
  exact ⟨A, c, rfl, hbs, ((Below.refl _ _).alloc (Nat.le_refl _) _).trans (hb.mono (by simp))⟩
theorem sha_bs {A : Option Addr} {n c : Nat} {l : List Int} {w : World} (hT : Tabs w) (hb : Bs w A n c l) :
    Calls Tryd.prog 62 #[.slice A n c] w fun e w' => ∃ A1 c1, e = .returned (.slice A1 32 c1) ∧ Bs w' A1 32 c1 (sha l) ∧ Own8 w' w.heap.size (.slice A1 32 c1) (sha l) ∧ Below w.heap.size w w' :=
  (sha_any hT hb).mono fun e w' h => by
    obtain ⟨v, rfl, ho, hb⟩ := h
    obtain ⟨A, c, rfl, hbs⟩ := ho.bs (sha_dig l) (by rw [sha_len]; omega)
    rw [sha_len] at hbs ho ⊢
    exact ⟨A, c, rfl, hbs, ho, hb⟩
theorem masked_bs (m : Int) (b : List Int) (hb : b.length = 64) (w : World) :
    Calls Tryd.prog 69 #[.agg (arrV .u8 b), .int .u8 m] w fun e w' => ∃ A1 c1, e = .returned (.slice A1 64 c1) ∧ Bs w' A1 64 c1 (mask m b) ∧ Below w.heap.size w w' :=
  (masked_any m b hb w).mono fun e w' h => by
    obtain ⟨v, rfl, ho, hbe⟩ := h
    obtain ⟨A, c, rfl, hbs⟩ := ho.bs (mask_dig m b) (by rw [mask_len]; omega)
    rw [mask_len, hb] at hbs ⊢
    exact ⟨A, c, rfl, hbs, hbe⟩
theorem key_copy {K : List Int} {n : Nat} (hK : K.length = n) (hn : n ≤ 64) : (List.replicate 64 (0 : Int)).take 0 ++ K ++ (List.replicate 64 0).drop (0 + n) = K ++ List.replicate (64 - n) 0 := by
  rw [List.take_zero, List.nil_append, Nat.zero_add, List.drop_replicate]
def KeyOf (key K : List Int) : Prop := K = if 64 < key.length then sha key else key
theorem KeyOf.le {key K : List Int} (h : KeyOf key K) : K.length ≤ 64 := by
  rw [h]; split
  · rw [sha_len]; omega
  · omega
theorem KeyOf.block {key K : List Int} (h : KeyOf key K) : keyB key = K ++ List.replicate (64 - K.length) 0 := by rw [h]; rfl
/-- The key as it is copied, wherever it lies. -/
def MaC (key : List Int) (w : World) (v : Value) (wx : World) : Prop :=
  ∃ w1 A1 n1 c1 K, w1 = wx ∧ v = .slice A1 n1 c1 ∧ Bs w1 A1 n1 c1 K ∧ KeyOf key K ∧ Below w.heap.size w w1
set_option maxHeartbeats 8000000 in
set_option maxRecDepth 100000 in
theorem mac_any {A A2 : Option Addr} {n c n2 c2 : Nat} {key b : List Int} {w : World} (hT : Tabs w) (hk : Bs w A n c key) (hb : Bz w A2 n2 b) (hn2 : n2 ≤ 1099511627000) :
    Calls Tryd.prog 43 #[.slice A n c, .slice A2 n2 c2] w (AnsOb (mac key b) w) := by
  have hkl := hk.rd.len
  have HKL := Lib.hid hkl
  clear hkl
  go_enter Tryd.func43, Tryd.ntmps43
  go_upto_if 9 with fail
  go_cut [0] (fun p wx => MaC key w p wx)
  case first =>
    rcases Nat.lt_or_ge 64 n with hlt | hge
    · have g1 : decide ((64 : Int) < (n : Int)) = true := by simp; omega
      have HO := Lib.hid (show KeyOf key (sha key) by unfold KeyOf; rw [if_pos (by rw [HKL.out]; exact hlt)])
      go_wp2_with fail
      refine (sha_bs hT hk).mono ?_
      rintro e w1 ⟨A1, c1, rfl, hbs1, -, hb1⟩
      go_wp2_with fail
      go_meet
      exact ⟨w1, A1, 32, c1, _, rfl, rfl, hbs1, HO.out, hb1⟩
    · have g1 : decide ((64 : Int) < (n : Int)) = false := by simp; omega
      have HO := Lib.hid (show KeyOf key key by unfold KeyOf; rw [if_neg (by rw [HKL.out]; omega)])
      go_wp2_with fail
      go_meet
      exact ⟨w, A, n, c, _, rfl, rfl, hk, HO.out, Below.refl _ _⟩
  case rest =>
    obtain ⟨w1, A1, n1, c1, K, rfl, rfl, hbs1, hko, hb1⟩ := hcut
    have hKl := hbs1.rd.len
    have hn1 : n1 ≤ 64 := by have := hko.le; omega
    obtain ⟨w2, hcp, hrow2, hg2⟩ := copy8 (Row.new w1 111 .u8 (List.replicate 64 0)) (hbs1.rd.alloc _) (c := c1) 0 64 64 hn1 (by simp; omega)
    rw [key_copy hKl hn1, show K ++ List.replicate (64 - n1) 0 = keyB key by rw [hko.block, hKl]] at hrow2
    obtain ⟨kb, hkb⟩ : ∃ kb, keyB key = kb := ⟨_, rfl⟩
    have hkbl : kb.length = 64 := by rw [← hkb, hko.block, List.length_append, List.length_replicate]; omega
    rw [hkb] at hrow2
    have b2 : Below w.heap.size w w2 := below_grown (hb1.alloc hb1.size _) hg2 (by simp; have := hb1.size; omega) hb1.size
    have T2 := hT.below b2
    have B2 := hb.below b2
    have hsz : (Tryd.prog.info? 111).map (·.size) = some (arrV .u8 kb).size := by rw [arrV_size, hkbl]; exact size55
    have HKB := Lib.hid hkb
    have HROW := Lib.hid (show w2.heap[w1.heap.size]? = some (.cells (arrV .u8 kb) 111 (0, 0)) from hrow2)
    have HR2 := Lib.hid hrow2
    have HB2 := Lib.hid b2
    have hs1 := hb1.size
    clear hT hk hb hbs1 hko hb1 hkb hKl hg2 b2 hrow2
    go_wp2_with (first | (refine Lib.wpList_copy_run _ (o := ⟨some 14, _, _, _, _, _⟩) rfl _ _ _ _ rfl _ _ rfl rfl (hcp _) ?_) | (refine wpList_load_row rfl 111 (.tmp 5) rfl w1.heap.size rfl _ (arrV .u8 kb) _ _ HROW.out Tryd.underlying111 rfl hsz ?_))
    refine (masked_bs 54 kb hkbl _).mono ?_
    rintro e w3 ⟨A3, c3, rfl, hbs3, hb3⟩
    have B3 := B2.below hb3
    have T3 := T2.below hb3
    have s2 := HB2.out.size
    have b3 := HB2.out.trans (hb3.mono s2)
    have hr3 := HR2.out.below hb3 (Row.lt HR2.out)
    have HR3 := Lib.hid hr3
    have HB3 := Lib.hid b3
    clear hcp hr3 b3 hb3 T2 B2
    go_wp2_with fail
    refine (concat_two hbs3 B3 (by omega)).mono ?_
    rintro e w4 ⟨A4, c4, rfl, hbs4, hb4⟩
    have T4 := T3.below hb4
    have b4 := HB3.out.trans (hb4.mono HB3.out.size)
    have hr4 := HR3.out.below hb4 (Row.lt HR3.out)
    clear T3 hb4
    go_wp2_with fail
    refine (sha_bs T4 hbs4).mono ?_
    rintro e w5 ⟨A5, c5, rfl, hbs5, -, hb5⟩
    have T5 := T4.below hb5
    have b5 := b4.trans (hb5.mono b4.size)
    have hr5 := hr4.below hb5 (Row.lt hr4)
    have HROW5 := Lib.hid (show w5.heap[w1.heap.size]? = some (.cells (arrV .u8 kb) 111 (0, 0)) from hr5)
    have HB5 := Lib.hid b5
    clear T4 b4 b5 hr4 hr5 hb5 hbs4
    go_wp2_with (refine wpList_load_row rfl 111 (.tmp 5) rfl w1.heap.size rfl _ (arrV .u8 kb) _ _ HROW5.out Tryd.underlying111 rfl hsz ?_)
    refine (masked_bs 92 kb hkbl _).mono ?_
    rintro e w6 ⟨A6, c6, rfl, hbs6, hb6⟩
    have hbs5' := hbs5.below hb6
    have T6 := T5.below hb6
    have b6 := HB5.out.trans (hb6.mono HB5.out.size)
    clear hb6 T5 hbs5
    go_wp2_with fail
    refine (concat_two hbs6 hbs5'.bz (by omega)).mono ?_
    rintro e w7 ⟨A7, c7, rfl, hbs7, hb7⟩
    have T7 := T6.below hb7
    have b7 := b6.trans (hb7.mono b6.size)
    clear hb7 T6 b6
    go_wp2_with fail
    refine (sha_bs T7 hbs7).mono ?_
    rintro e w8 ⟨A8, c8, rfl, hbs8, ho8, hb8⟩
    have b8 := b7.trans (hb8.mono b7.size)
    have ho9 := ho8.base b7.size
    have HO := Lib.hid ho9
    have HB8 := Lib.hid b8
    clear ho8 ho9 b8 hb8 b7 T7
    go_wp2_with fail
    go_ret
    refine ⟨_, rfl, ?_, HB8.out⟩
    unfold mac
    rw [HKB.out]
    exact HO.out
end Go.Proofs.YtjalncdllegfoaaDoor
/-
  What Stream answers.
-/
namespace Go.Proofs.YtjalncdllegfoaaDoor
open Go.RowKit
set_option linter.unusedVariables false
/-- ErrArg, as an error. -/
def argErr : Value := .iface 43 (.int .i64 1)
def AnsErr (w : World) (e : Ending) (w' : World) : Prop := e = .returned (.tuple #[.slice none 0 0, argErr]) ∧ w = w'
theorem stream_bad (A : Option Addr) (l c : Nat) (n : Int) (hn : n < 0 ∨ 1048576 < n) (w : World) :
    Calls Tryd.prog 42 #[.slice A l c, .int .i64 n] w (AnsErr w) := by
  rcases hn with h | h
  · go_enter Tryd.func42, Tryd.ntmps42
    go_wp2
    go_ret2
    exact ⟨rfl, rfl⟩
  · have h0 : ¬ n < 0 := by omega
    go_enter Tryd.func42, Tryd.ntmps42
    go_wp2
    go_ret2
    exact ⟨rfl, rfl⟩
theorem below_dr5 (w : World) : Below w.heap.size w w.drew := (Below.refl _ _).drew
/-- The state of noughts. -/
def Z8 : St := ⟨0, 0, 0, 0, 0, 0, 0, 0⟩
theorem storeNew (w : World) (s : St) : (storeCells ⟨w.heap.size, 0, none⟩ s.v.toList).run Tryd.prog (w.alloc (.cells #[.int .u32 0, .int .u32 0, .int .u32 0, .int .u32 0, .int .u32 0, .int .u32 0, .int .u32 0, .int .u32 0] 107)) = .ok () (w.alloc (.cells s.v 107)) :=
  run_storeCells_new w 107 _ s.v size48 rfl (arrV_one .u32 s.l)
theorem zeroRow (w : World) : Row (w.alloc (.cells #[.int .u32 0, .int .u32 0, .int .u32 0, .int .u32 0, .int .u32 0, .int .u32 0, .int .u32 0, .int .u32 0] 107)) w.heap.size 107 .u32 Z8.l := Row.new w 107 .u32 Z8.l
theorem Own8.drew1 {w : World} {base : Nat} {v : Value} {bs : List Int} (h : Own8 w base v bs) : Own8 w.drew base v bs := h
theorem Bs.drew {w : World} {A : Option Addr} {n c : Nat} {xs : List Int} (h : Bs w A n c xs) : Bs w.drew A n c xs := ⟨h.rd.drew, h.dig_, h.nc, h.c47, h.none_, h.plain⟩
theorem eight_bs (N : Int) (h0 : 0 ≤ N) (h1 : N < 18446744073709551616) (w : World) :
    Calls Tryd.prog 68 #[.int .u64 N] w fun e w' => ∃ A c, e = .returned (.slice A 8 c) ∧ Bs w' A 8 c (be8 N) ∧ Below w.heap.size w w' :=
  (eight_any N h0 h1 w).mono fun e w' h => by
    obtain ⟨v, rfl, ho, hb⟩ := h
    obtain ⟨A, c, rfl, hbs⟩ := ho.bs (be8_dig N) (by rw [be8_len]; omega)
    rw [be8_len] at hbs ⊢
    exact ⟨A, c, rfl, hbs, hb⟩
theorem framed_one {w : World} {A : Option Addr} {n c : Nat} {xs : List Int} (h : Bs w A n c xs) (hn : n ≤ 1099511620000) :
    Calls Tryd.prog 63 #[.slice (some ⟨w.heap.size, 0, none⟩) 1 1] (w.alloc (.cells #[.slice A n c] 24)) fun e w' =>
      ∃ A1 c1, e = .returned (.slice A1 (n + 8) c1) ∧ Bs w' A1 (n + 8) c1 (fr [xs]) ∧ Below w.heap.size w w' := by
  have hl : (fr [xs]).length = n + 8 := by rw [fr_one, List.length_append, be8_len, h.rd.len]; omega
  refine (framed_any (pts_one h) (by rw [hl]; omega) (by omega)).mono fun e w' hh => ?_
  obtain ⟨v, rfl, ho, hb⟩ := hh
  obtain ⟨A1, c1, rfl, hbs⟩ := ho.bs (fr_dig (fun ys hy => by rw [List.mem_singleton.1 hy]; exact h.dig_)) (by rw [hl]; omega)
  rw [hl] at hbs ⊢
  exact ⟨A1, c1, rfl, hbs, below_al1 hb⟩
/-- A piece: the rest of the beginning and the number, behind the state of the whole blocks. -/
theorem piece_math {F X : List Int} {m q k x L : Nat} (hF : F.length = m) (hq : m / 64 = q) (hk : 64 * q = k) (hx : X.length = x) (hL : k + (m - k + x) = L) :
    absb (absb H0 (F.take k) q) ((F.drop k ++ X) ++ pad L) ((m - k + x + (pad L).length) / 64) = shaS (F ++ X) := by
  subst hk
  have ht : (F.take (64 * q)).length = 64 * q := by rw [List.length_take]; omega
  have hl : (F ++ X).length = L := by rw [List.length_append]; omega
  have e1 := absb_append (s := H0) (m := (F.drop (64 * q) ++ X) ++ pad L) ht ((m - 64 * q + x + (pad L).length) / 64)
  rw [← List.append_assoc, ← List.append_assoc, List.take_append_drop] at e1
  unfold shaS
  rw [hl, ← e1]
  congr 1
  omega
theorem strm_snoc (key : List Int) (i : Nat) {F : List Int} (hF : fr [key] = F) : strm key (i + 1) = strm key i ++ wbs (shaS (F ++ fr [be8 (i : Int)])).l := by
  subst hF
  show strm key i ++ parts [key, be8 (i : Int)] = _
  rw [show ([key, be8 (i : Int)] : List (List Int)) = [key] ++ [be8 (i : Int)] from rfl]
  unfold parts
  rw [fr_append]; rfl
/-- What is known behind the beginning: the state. -/
def StC (s1 : St) (w1 : World) (p : Value) (wx : World) : Prop :=
  ∃ w2 g, w2 = wx ∧ p = .pointer (some ⟨g, 0, none⟩) ∧ w1.heap.size ≤ g ∧ Row w2 g 107 .u32 s1.l ∧ Below w1.heap.size w1 w2
def StmR (key : List Int) (n : Nat) (g : Nat) (s1 : St) (w1 w : World) (v i : Value) (wr : World) : Prop :=
  ∃ j : Nat, 32 * j < n + 32 ∧ i = .int .u64 j ∧ Own8 wr (g + 1) v ((strm key j).take n) ∧ Row wr g 107 .u32 s1.l ∧ Tabs wr ∧ Below w1.heap.size w1 wr
set_option maxHeartbeats 8000000 in
set_option maxRecDepth 100000 in
theorem stream_any {A : Option Addr} {l c : Nat} {key : List Int} {w : World} (hT : Tabs w) (hk : Bs w A l c key) (n : Nat) (hn : n ≤ 1048576) (hl : l ≤ 1099511620000) :
    Calls Tryd.prog 42 #[.slice A l c, .int .i64 n] w fun e w' => ∃ v, e = .returned (.tuple #[v, .nilIface]) ∧ Own8 w' w.heap.size v (stream key n) ∧ Below w.heap.size w w' := by
  have hkl := hk.rd.len
  have hfl : (fr [key]).length = l + 8 := by rw [fr_one, List.length_append, be8_len, hkl]; omega
  have t1 : decide ((n : Int) < 0) = false := by simp
  have t2 : decide ((1048576 : Int) < (n : Int)) = false := by simp; omega
  have hp := pts_one hk
  have HP := Lib.hid hp
  have HF := Lib.hid hfl
  have hbd : Dig 256 (fr [key]) := fr_dig (fun xs hx => by rw [List.mem_singleton.1 hx]; exact hk.dig_)
  have HBD := Lib.hid hbd
  clear hp hkl hfl hbd
  go_enter Tryd.func42, Tryd.ntmps42
  go_wp2_with fail
  refine (framed_any HP.out (by rw [HF.out]; omega) (by omega)).mono ?_
  rintro e w1 ⟨v1, rfl, ho1, hb1⟩
  obtain ⟨A1, c1, rfl, hbs1⟩ := ho1.bs HBD.out (by rw [HF.out]; omega)
  rw [HF.out] at hbs1 ⊢
  obtain ⟨q, hq⟩ : ∃ q, (l + 8) / 64 = q := ⟨_, rfl⟩
  obtain ⟨k, hk64⟩ : ∃ k, 64 * q = k := ⟨_, rfl⟩
  obtain ⟨m, hm⟩ : ∃ m, l + 8 = m := ⟨_, rfl⟩
  rw [hm] at hq hbs1 ⊢
  have HQ := Lib.hid hq
  have HK := Lib.hid hk64
  have HM := Lib.hid hm
  have hb01 := below_al1 hb1
  have T1 := hT.below hb01
  have HB01 := Lib.hid hb01
  clear hq hk64 hm ho1 hT hk hb1 hb01
  go_wp2_with fail
  refine (whole_k _ _ _ _ (by have := HM.out; omega) HQ.out HK.out).mono ?_
  rintro e w2 ⟨rfl, rfl⟩
  obtain ⟨b1, o1, rfl, -, -⟩ := hbs1.rd.cells (by have := HM.out; omega)
  obtain ⟨A2, hcut, hr2⟩ := hbs1.cut (k := k) (by have := HQ.out; have := HK.out; omega)
  have hrd : Rd .u8 w1 (some ⟨b1, o1, none⟩) k ((fr [key]).take k) := hbs1.rd.take (by have := HQ.out; have := HK.out; omega)
  have hnc1 := hbs1.nc
  obtain ⟨t, hg⟩ := T1.start
  have hgr : Row w1 0 t .u32 H0.l := hg
  have HGR := Lib.hid hgr
  have HRD := Lib.hid hrd
  have HR2 := Lib.hid hr2
  have HCUT := Lib.hid hcut
  have kc1 : k ≤ c1 := by have := HQ.out; have := HK.out; omega
  have kc1i : (k : Int) ≤ (c1 : Int) := by omega
  have km : k ≤ m := by have := HQ.out; have := HK.out; omega
  obtain ⟨s1, hs1⟩ : ∃ s1, absb H0 ((fr [key]).take k) q = s1 := ⟨_, rfl⟩
  have HS1 := Lib.hid hs1
  have hok1 : s1.ok := by rw [← hs1]; exact absb_ok H0_ok _ _
  have z3 := St.v_size s1
  have hk40 : k ≤ 1099511627776 := by have := HM.out; omega
  clear hbs1 hcut hr2 hrd hg hgr hs1
  go_upto_region 5 with fail
  go_cut [8] (fun p wx => StC s1 w1 p wx)
  case first =>
    obtain ⟨l0, l1, l2, l3, l4, l5, l6, l7⟩ := cells8 HGR.out
    have lt0 := T1.lt0
    have lt1 : 0 ≠ w1.heap.size := by omega
    obtain ⟨n0, n1, n2, n3, n4, n5, n6, n7⟩ := cells8 (HGR.out.drew.alloc (.cells #[.int .u32 0, .int .u32 0, .int .u32 0, .int .u32 0, .int .u32 0, .int .u32 0, .int .u32 0, .int .u32 0] 107))
    go_region_with (go_at_call 65; first
      | (refine (absorbed_k HK.out HS1.out T1.drew H0_ok HRD.out.drew (HBD.out.take _) kc1 (Nat.le_trans hk40 (by decide))).mono ?_; rintro e w2 ⟨rfl, hb2⟩; have hst := storeNew w2 s1; have HB2 := Lib.hid hb2; clear hb2)
      | (refine (absorbed_k HK.out HS1.out (T1.drew.alloc _) H0_ok (HRD.out.drew.alloc _) (HBD.out.take _) kc1 (Nat.le_trans hk40 (by decide))).mono ?_; rintro e w2 ⟨rfl, hb2⟩; have hrz : Row w2 w1.heap.size 107 .u32 Z8.l := (zeroRow w1.drew).below hb2 (Row.lt (zeroRow w1.drew)); have hst := store8 hrz s1; have HRZ := Lib.hid hrz; have HB2 := Lib.hid hb2; clear hb2 hrz))
    · have b2 := (below_dr5 w1).trans (HB2.out.mono (Nat.le_refl _))
      go_wp2_with fail
      go_meet
      exact ⟨_, w2.heap.size, rfl, rfl, b2.size, Row.new w2 107 .u32 s1.l, b2.alloc b2.size _⟩
    all_goals
      have b2 : Below w1.heap.size w1 w2 := ((below_dr5 w1).alloc (Nat.le_refl _) _).trans (HB2.out.mono (by simp))
      go_wp2_with fail
      go_meet
      exact ⟨_, w1.heap.size, rfl, rfl, Nat.le_refl _, HRZ.out.setRow s1.l, below_setRow b2 (Nat.le_refl _) s1.v⟩
  case rest =>
    obtain ⟨wx, g, rfl, rfl, hgl, hrow, hbx⟩ := hcut
    have hmk := run_make8c n (C := (n : Int)) rfl (by omega)
    have Tx := T1.below hbx
    have b0x := HB01.out.trans (hbx.mono HB01.out.size)
    have hgx : g + 1 ≤ wx.heap.size := Row.lt hrow
    have hroom := Own8.room wx n (base := g + 1) hgx (by omega)
    obtain ⟨Z, hZ⟩ : ∃ Z, (List.replicate n 0).map (Value.int .u8) = Z := ⟨_, rfl⟩
    rw [hZ] at hroom
    have hmkx := hmk wx
    rw [hZ] at hmkx
    have BX := Lib.hid (b0x.alloc b0x.size (.cells Z.toArray 5))
    have TX := Lib.hid (Tx.alloc (.cells Z.toArray 5))
    have HROOM := Lib.hid hroom
    have HROW := Lib.hid (hrow.alloc (.cells Z.toArray 5))
    have HBG := Lib.hid (hbx.alloc hbx.size (.cells Z.toArray 5))
    have s0x := b0x.size
    clear hroom hmk hZ Tx hrow hbx b0x
    go_wp2_with fail
    clear hmkx
    go_loopw [9, 10] (fun v i wr => StmR key n g s1 w1 w v i wr) (fun _ i _ => n + 32 - 32 * (intOf i).toNat)
    case atStart => exact ⟨0, by omega, rfl, by rw [show (strm key 0).take n = [] by simp [strm]]; exact HROOM.out, HROW.out, TX.out, HBG.out⟩
    case round =>
      clear BX TX HROOM HROW HBG
      obtain ⟨j, hj, rfl, ho, hrow, hT, hb⟩ := hrel
      obtain ⟨AV, cV, rfl, hrV, hcV, haV⟩ := ho.rd
      have hlen : ((strm key j).take n).length = min n (32 * j) := by rw [List.length_take, strm_len]
      rcases Nat.lt_or_ge (32 * j) n with hlt | hge
      · rw [Nat.min_eq_right (by omega)] at hlen
        rw [hlen] at hrV hcV ho ⊢
        obtain ⟨ln, hln⟩ : ∃ ln, 32 * j = ln := ⟨_, rfl⟩
        rw [hln] at hlen hrV hcV ho hlt ⊢
        have hT1 := hb.size
        have hgs : g < wr.heap.size := Row.lt hrow
        have hfk : (fr [key]).length = m := by rw [HF.out]; exact HM.out
        have tail : ∃ A3, Cut (some ⟨b1, o1, none⟩) c1 k A3 ∧ Bs wr A3 (m - k) (c1 - k) ((fr [key]).drop k) := by
          refine ⟨A2, HCUT.out, HR2.out.below hb, HBD.out.drop _, by omega, by have := HM.out; omega, fun hA => ?_, fun a ha => ?_⟩
          · rcases HCUT.out with ⟨h, _⟩ | ⟨b, o, _, _, h⟩ | ⟨b, o, _, _, h⟩
            · cases h
            · rw [hA] at h; cases h
            · rw [hA] at h; cases h
          · rcases HCUT.out with ⟨h, _⟩ | ⟨b, o, _, _, h⟩ | ⟨b, o, _, _, h⟩
            · cases h
            · rw [ha] at h; injection h with h; exact ⟨b, o, h⟩
            · rw [ha] at h; injection h with h; exact ⟨b, o + k, h⟩
        obtain ⟨A3, hcut, hbs3⟩ := tail
        obtain ⟨r, hr⟩ : ∃ r, k + (m - k + (8 + 8)) = r := ⟨_, rfl⟩
        have hr16 : (fr [be8 (j : Int)]).length = 8 + 8 := by rw [fr_one, List.length_append, be8_len, be8_len]
        have hpm := piece_math (X := fr [be8 (j : Int)]) hfk HQ.out HK.out hr16 hr
        rw [HS1.out] at hpm
        have hsn := strm_snoc key j (F := fr [key]) rfl
        rw [← hpm] at hsn
        have HSN := Lib.hid hsn
        have HLN := Lib.hid hln
        have HLEN := Lib.hid hlen
        have HO := Lib.hid ho
        have HROW := Lib.hid hrow
        have HT := Lib.hid hT
        have HB := Lib.hid hb
        have HRE := Lib.hid hr
        have HBS3 := Lib.hid hbs3
        have hmk40 : m - k ≤ 1099511620100 := by have := HM.out; omega
        have hji : (j : Int) < 18446744073709551616 := by omega
        have hlni : (ln : Int) < (n : Int) := by omega
        obtain ⟨l0, l1, l2, l3, l4, l5, l6, l7⟩ := cells8 hrow
        have KM := Lib.hid km
        have KC := Lib.hid kc1
        have NC := Lib.hid hnc1
        have kmi : (k : Int) ≤ (m : Int) := by omega
        have hkp : k % 64 = 0 := by have := HK.out; omega
        have HKP := Lib.hid hkp
        clear hsn hln hlen ho hrow hT hb hr hbs3 hpm hr16 hrV hcV haV km kc1 kc1i hnc1 hkp hfk hj
        rcases hcut with ⟨h, -⟩ | ⟨b, o, h1, h2, h3⟩ | ⟨b, o, h1, h2, h3⟩
        · cases h
        · injection h1 with h1; injection h1 with h1 h1'; subst h1 h1' h3
          have hz : c1 - k = 0 := by omega
          rw [hz] at HBS3
          clear hz
          subst h2
          go_wp2_with fail
          go_region_held3 (fun w' => w'.cell? ⟨g, 0, none⟩ = some (.int .u32 s1.a) ∧ w'.cell? ⟨g, 1, none⟩ = some (.int .u32 s1.b) ∧ w'.cell? ⟨g, 2, none⟩ = some (.int .u32 s1.c) ∧ w'.cell? ⟨g, 3, none⟩ = some (.int .u32 s1.d) ∧ w'.cell? ⟨g, 4, none⟩ = some (.int .u32 s1.e) ∧ w'.cell? ⟨g, 5, none⟩ = some (.int .u32 s1.f) ∧ w'.cell? ⟨g, 6, none⟩ = some (.int .u32 s1.g) ∧ w'.cell? ⟨g, 7, none⟩ = some (.int .u32 s1.h)) (first | exact ⟨l0, l1, l2, l3, l4, l5, l6, l7⟩ | exact k1 | exact k2 | exact k3 | exact k4 | exact k5 | exact k6 | go_keep | assumption)
            (first
            | (go_at_call 68; (with_reducible refine (eight_bs (j : Int) (by omega) hji _).mono ?_); rintro e v1 ⟨A5, c5, rfl, hbs5, hb5⟩; have r5 := HROW.out.drew.below hb5 (Row.lt HROW.out.drew); have k1 := cells8 r5; have k2 := cells8 (r5.alloc (.cells #[.slice A5 8 c5] 24)); have R5 := Lib.hid r5; have BS5 := Lib.hid hbs5; have B5 := Lib.hid hb5; clear r5 hbs5 hb5)
            | (go_at_call 63; (with_reducible refine (framed_one BS5.out (by omega)).mono ?_); rintro e v2 ⟨A6, c6, rfl, hbs6, hb6⟩; have r6 := R5.out.below hb6 (Row.lt R5.out); have b6 := (B5.out.trans (hb6.mono B5.out.size)); have BS6 := Lib.hid hbs6; have BT6 := Lib.hid (HBS3.out.drew.below b6); have k3 := cells8 r6; have k4 := cells8 (r6.alloc (.cells #[.slice (some ⟨b1, o1, none⟩) (m - c1) 0, .slice A6 (8 + 8) c6] 24)); have R6 := Lib.hid r6; have B6 := Lib.hid b6; clear hbs6 r6 b6 hb6)
            | (go_at_call 67; (with_reducible refine (concat_two BT6.out BS6.out.bz (by omega)).mono ?_); rintro e v3 ⟨A8, c8, rfl, hbs8, hb8⟩; have r8 := R6.out.below hb8 (Row.lt R6.out); have b8 := B6.out.trans (hb8.mono B6.out.size); have k5 := cells8 r8; have BS8 := Lib.hid hbs8; have B8 := Lib.hid b8; have R8 := Lib.hid r8; clear hbs8 b8 r8 hb8)
            | (go_at_call 66; refine (digest_any (HT.out.drew.below B8.out) hok1 BS8.out c1 HKP.out hk40).mono ?_; rintro e v4 ⟨v, rfl, ho9, hb9⟩; have k6 := cells8 (R8.out.below hb9 (Row.lt R8.out)); have HO9 := Lib.hid ho9; have HB9 := Lib.hid hb9; clear ho9 hb9))
          have hb4 := HB.out.drew.trans ((B8.out.trans (HB9.out.mono B8.out.size)).mono HB.out.drew.size)
          have hr4 := R8.out.below HB9.out (Row.lt R8.out)
          have ht4 := (HT.out.drew.below B8.out).below HB9.out
          have ho4 := (HO.out.drew1.below B8.out).below HB9.out
          have ho9 := HO9.out
          rw [HRE.out] at ho9
          obtain ⟨pc, hpc⟩ : ∃ pc, wbs (absb s1 ((fr [key]).drop c1 ++ fr [be8 (j : Int)] ++ pad r) ((m - c1 + (8 + 8) + (pad r).length) / 64)).l = pc := ⟨_, rfl⟩
          rw [hpc] at ho9
          have hpl : pc.length = 32 := by rw [← hpc, wbs_len]; rfl
          have HPC := Lib.hid hpc
          obtain ⟨A9, c9, rfl, hr9, hc9, -⟩ := ho9.rd
          rw [hpl] at hr9 hc9 ⊢
          obtain ⟨b9, o9, rfl, -, -⟩ := hr9.cells (by omega)
          have HB4 := Lib.hid hb4
          have HR4 := Lib.hid hr4
          have HT4 := Lib.hid ht4
          have HO4 := Lib.hid ho4
          have HR9 := Lib.hid hr9
          have HPL := Lib.hid hpl
          clear k1 k2 k3 k4 k5 k6 l0 l1 l2 l3 l4 l5 l6 l7 hb4 hr4 ht4 ho4 ho9 hpc hr9 hpl
          obtain ⟨x, hx⟩ : ∃ x, ln + x = n := ⟨n - ln, by omega⟩
          have HX := Lib.hid hx
          obtain ⟨y, hy⟩ : ∃ y, min 32 x = y := ⟨_, rfl⟩
          have HY := Lib.hid hy
          have hy32 : y ≤ 32 := by omega
          have hyx : y ≤ x := by omega
          have HRX := Lib.hid (HR9.out.take (m := y) hy32)
          obtain ⟨Lj, hLj⟩ : ∃ Lj, (strm key j).take n = Lj := ⟨_, rfl⟩
          rw [hLj] at HO4 HLEN
          have HLJ := Lib.hid hLj
          have s4 := HB4.out.size
          have s5 := HB01.out.size
          have s6 : g + 1 ≤ v4.heap.size := Row.lt HR4.out
          have g2 : (y : Int) ≤ (c9 : Int) := by omega
          have hj1 : (j : Int) ≤ 1048576 := by have := HLN.out; omega
          have e1 : (n : Int) - (ln : Int) = (x : Int) := by omega
          have e2 : min (32 : Int) (x : Int) = (y : Int) := by omega
          clear hji hmk40 hk40 hl kmi z3 hx hy hLj
          go_wp2_with (at_builtin; refine wpList_cat8 _ rfl _ _ 24 rfl (g + 1) 5 .u8 Tryd.underlying24 info8u _ _ Lj rfl HO4.out _ _ _ (pc.take y) rfl HRX.out (by rw [HLEN.out]; omega) (by omega) ?_)
          rintro v5 w5 h5 hg5
          have b5 := own_below HB4.out HO4.out hg5 (by omega) (by omega)
          have r5 := HR4.out.grown hg5 (fun e => by have := (HO4.out.lt g e.symm).1; omega)
          have H5 := Lib.hid h5
          have R5' := Lib.hid r5
          have B5' := Lib.hid b5
          clear h5 r5 b5 hg5 e1 e2 g2
          go_wp2_with fail
          go_roundw
          case rel =>
            have hlj := HLN.out
            refine ⟨j + 1, by have := HX.out; omega, by go_num, ?_, R5'.out, T1.below B5'.out, B5'.out⟩
            have e3 : (strm key (j + 1)).take n = Lj ++ pc.take y := by
              rw [HSN.out, HPC.out, ← HLJ.out]
              have e4 : (strm key j).take n = strm key j := List.take_of_length_le (by rw [strm_len]; omega)
              rw [e4, List.take_append, strm_len, hlj, List.take_of_length_le (by rw [strm_len]; omega), show n - ln = x by have := HX.out; omega]
              congr 1
              rw [← HY.out, ← List.take_take]
              exact (List.take_of_length_le (by rw [List.length_take, HPL.out]; omega)).symm
            rw [e3]
            exact Own8.app (m := y) rfl (by rw [List.length_take, HPL.out]; omega) (by simpa using H5.out)
          case measure => simp [intOf]; have := HLN.out; omega
        · injection h1 with h1; injection h1 with h1 h1'; subst h1 h1' h3
          go_wp2_with fail
          go_region_held3 (fun w' => w'.cell? ⟨g, 0, none⟩ = some (.int .u32 s1.a) ∧ w'.cell? ⟨g, 1, none⟩ = some (.int .u32 s1.b) ∧ w'.cell? ⟨g, 2, none⟩ = some (.int .u32 s1.c) ∧ w'.cell? ⟨g, 3, none⟩ = some (.int .u32 s1.d) ∧ w'.cell? ⟨g, 4, none⟩ = some (.int .u32 s1.e) ∧ w'.cell? ⟨g, 5, none⟩ = some (.int .u32 s1.f) ∧ w'.cell? ⟨g, 6, none⟩ = some (.int .u32 s1.g) ∧ w'.cell? ⟨g, 7, none⟩ = some (.int .u32 s1.h)) (first | exact ⟨l0, l1, l2, l3, l4, l5, l6, l7⟩ | exact k1 | exact k2 | exact k3 | exact k4 | exact k5 | exact k6 | go_keep | assumption)
            (first
            | (go_at_call 68; (with_reducible refine (eight_bs (j : Int) (by omega) hji _).mono ?_); rintro e v1 ⟨A5, c5, rfl, hbs5, hb5⟩; have r5 := HROW.out.drew.below hb5 (Row.lt HROW.out.drew); have k1 := cells8 r5; have k2 := cells8 (r5.alloc (.cells #[.slice A5 8 c5] 24)); have R5 := Lib.hid r5; have BS5 := Lib.hid hbs5; have B5 := Lib.hid hb5; clear r5 hbs5 hb5)
            | (go_at_call 63; (with_reducible refine (framed_one BS5.out (by omega)).mono ?_); rintro e v2 ⟨A6, c6, rfl, hbs6, hb6⟩; have r6 := R5.out.below hb6 (Row.lt R5.out); have b6 := (B5.out.trans (hb6.mono B5.out.size)); have BS6 := Lib.hid hbs6; have BT6 := Lib.hid (HBS3.out.drew.below b6); have k3 := cells8 r6; have k4 := cells8 (r6.alloc (.cells #[.slice (some ⟨b1, o1 + k, none⟩) (m - k) (c1 - k), .slice A6 (8 + 8) c6] 24)); have R6 := Lib.hid r6; have B6 := Lib.hid b6; clear hbs6 r6 b6 hb6)
            | (go_at_call 67; (with_reducible refine (concat_two BT6.out BS6.out.bz (by omega)).mono ?_); rintro e v3 ⟨A8, c8, rfl, hbs8, hb8⟩; have r8 := R6.out.below hb8 (Row.lt R6.out); have b8 := B6.out.trans (hb8.mono B6.out.size); have k5 := cells8 r8; have BS8 := Lib.hid hbs8; have B8 := Lib.hid b8; have R8 := Lib.hid r8; clear hbs8 b8 r8 hb8)
            | (go_at_call 66; refine (digest_any (HT.out.drew.below B8.out) hok1 BS8.out k HKP.out hk40).mono ?_; rintro e v4 ⟨v, rfl, ho9, hb9⟩; have k6 := cells8 (R8.out.below hb9 (Row.lt R8.out)); have HO9 := Lib.hid ho9; have HB9 := Lib.hid hb9; clear ho9 hb9))
          have hb4 := HB.out.drew.trans ((B8.out.trans (HB9.out.mono B8.out.size)).mono HB.out.drew.size)
          have hr4 := R8.out.below HB9.out (Row.lt R8.out)
          have ht4 := (HT.out.drew.below B8.out).below HB9.out
          have ho4 := (HO.out.drew1.below B8.out).below HB9.out
          have ho9 := HO9.out
          rw [HRE.out] at ho9
          obtain ⟨pc, hpc⟩ : ∃ pc, wbs (absb s1 ((fr [key]).drop k ++ fr [be8 (j : Int)] ++ pad r) ((m - k + (8 + 8) + (pad r).length) / 64)).l = pc := ⟨_, rfl⟩
          rw [hpc] at ho9
          have hpl : pc.length = 32 := by rw [← hpc, wbs_len]; rfl
          have HPC := Lib.hid hpc
          obtain ⟨A9, c9, rfl, hr9, hc9, -⟩ := ho9.rd
          rw [hpl] at hr9 hc9 ⊢
          obtain ⟨b9, o9, rfl, -, -⟩ := hr9.cells (by omega)
          have HB4 := Lib.hid hb4
          have HR4 := Lib.hid hr4
          have HT4 := Lib.hid ht4
          have HO4 := Lib.hid ho4
          have HR9 := Lib.hid hr9
          have HPL := Lib.hid hpl
          clear k1 k2 k3 k4 k5 k6 l0 l1 l2 l3 l4 l5 l6 l7 hb4 hr4 ht4 ho4 ho9 hpc hr9 hpl
          obtain ⟨x, hx⟩ : ∃ x, ln + x = n := ⟨n - ln, by omega⟩
          have HX := Lib.hid hx
          obtain ⟨y, hy⟩ : ∃ y, min 32 x = y := ⟨_, rfl⟩
          have HY := Lib.hid hy
          have hy32 : y ≤ 32 := by omega
          have hyx : y ≤ x := by omega
          have HRX := Lib.hid (HR9.out.take (m := y) hy32)
          obtain ⟨Lj, hLj⟩ : ∃ Lj, (strm key j).take n = Lj := ⟨_, rfl⟩
          rw [hLj] at HO4 HLEN
          have HLJ := Lib.hid hLj
          have s4 := HB4.out.size
          have s5 := HB01.out.size
          have s6 : g + 1 ≤ v4.heap.size := Row.lt HR4.out
          have g2 : (y : Int) ≤ (c9 : Int) := by omega
          have hj1 : (j : Int) ≤ 1048576 := by have := HLN.out; omega
          have e1 : (n : Int) - (ln : Int) = (x : Int) := by omega
          have e2 : min (32 : Int) (x : Int) = (y : Int) := by omega
          clear hji hmk40 hk40 hl kmi z3 hx hy hLj
          go_wp2_with (at_builtin; refine wpList_cat8 _ rfl _ _ 24 rfl (g + 1) 5 .u8 Tryd.underlying24 info8u _ _ Lj rfl HO4.out _ _ _ (pc.take y) rfl HRX.out (by rw [HLEN.out]; omega) (by omega) ?_)
          rintro v5 w5 h5 hg5
          have b5 := own_below HB4.out HO4.out hg5 (by omega) (by omega)
          have r5 := HR4.out.grown hg5 (fun e => by have := (HO4.out.lt g e.symm).1; omega)
          have H5 := Lib.hid h5
          have R5' := Lib.hid r5
          have B5' := Lib.hid b5
          clear h5 r5 b5 hg5 e1 e2 g2
          go_wp2_with fail
          go_roundw
          case rel =>
            have hlj := HLN.out
            refine ⟨j + 1, by have := HX.out; omega, by go_num, ?_, R5'.out, T1.below B5'.out, B5'.out⟩
            have e3 : (strm key (j + 1)).take n = Lj ++ pc.take y := by
              rw [HSN.out, HPC.out, ← HLJ.out]
              have e4 : (strm key j).take n = strm key j := List.take_of_length_le (by rw [strm_len]; omega)
              rw [e4, List.take_append, strm_len, hlj, List.take_of_length_le (by rw [strm_len]; omega), show n - ln = x by have := HX.out; omega]
              congr 1
              rw [← HY.out, ← List.take_take]
              exact (List.take_of_length_le (by rw [List.length_take, HPL.out]; omega)).symm
            rw [e3]
            exact Own8.app (m := y) rfl (by rw [List.length_take, HPL.out]; omega) (by simpa using H5.out)
          case measure => simp [intOf]; have := HLN.out; omega
      · rw [Nat.min_eq_left hge] at hlen
        have hst := stream_of key (m := j) (n := n) hge
        rw [hlen] at ho ⊢
        rw [hst] at ho
        have hb0 := HB01.out.trans (hb.mono HB01.out.size)
        clear hst hlen hrV hcV haV hrow hT
        go_wp2_with fail
        go_ret2
        exact ⟨_, rfl, ho.base (by have := HB01.out.size; omega), hb0⟩
end Go.Proofs.YtjalncdllegfoaaDoor
