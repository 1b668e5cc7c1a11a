/-
  What Mac answers.
-/
import Derived.Test.YtnfncaaclpddkaaDoorCnc
import Derived.Deep.CutBlock
import Derived.Deep.DeepCutAuto
import Derived.Lib.SlBuf
namespace Go.Proofs.YtnfncaaclpddkaaDoor
open Go.RowKit
set_option linter.unusedVariables false
theorem below_al1 {w w' : World} {o : Obj} (h : Below (w.alloc o).heap.size (w.alloc o) w') : Below w.heap.size w w' :=
  ((Below.refl _ _).alloc (Nat.le_refl _) _).trans (h.mono (by simp))
theorem pts_one {w : World} {A1 : Option Addr} {n1 c1 : Nat} {xs : List Int} (h1 : Bs w A1 n1 c1 xs) :
    Pts (w.alloc (.cells #[.slice A1 n1 c1] 22)) (some ⟨w.heap.size, 0, none⟩) 1 1 [xs] := by
  obtain rfl := h1.rd.len
  refine ⟨rfl, Nat.le_refl _, fun _ => ⟨w.heap.size, 0, rfl, by simp, fun j hj => ?_⟩⟩
  obtain rfl : j = 0 := by omega
  exact ⟨A1, c1, xs, rfl, by simp [World.cell?_alloc_at], (h1.alloc _).bz⟩
theorem pts_two {w : World} {A1 A2 : Option Addr} {n1 c1 n2 c2 : Nat} {xs ys : List Int} (h1 : Bs w A1 n1 c1 xs) (h2 : Bz w A2 n2 ys) :
    Pts (w.alloc (.cells #[.slice A1 n1 c1, .slice A2 n2 c2] 22)) (some ⟨w.heap.size, 0, none⟩) 2 2 [xs, ys] := by
  obtain rfl := h1.rd.len
  obtain rfl := h2.rd.len
  refine ⟨rfl, Nat.le_refl _, fun _ => ⟨w.heap.size, 0, rfl, by simp, fun j hj => ?_⟩⟩
  rcases Nat.lt_or_ge j 1 with g | g
  · obtain rfl : j = 0 := by omega
    exact ⟨A1, c1, xs, rfl, by simp [World.cell?_alloc_at], (h1.alloc _).bz⟩
  · obtain rfl : j = 1 := by omega
    exact ⟨A2, c2, ys, rfl, by simp [World.cell?_alloc_at], h2.alloc _⟩
theorem concat_two {w : World} {A1 A2 : Option Addr} {n1 c1 n2 c2 : Nat} {xs ys : List Int} (h1 : Bs w A1 n1 c1 xs) (h2 : Bz w A2 n2 ys) (hl : n1 + n2 ≤ 1099511627776) :
    Calls Tryd.prog 26 #[.slice (some ⟨w.heap.size, 0, none⟩) 2 2] (w.alloc (.cells #[.slice A1 n1 c1, .slice A2 n2 c2] 22)) fun e w' =>
      ∃ A c, e = .returned (.slice A (n1 + n2) c) ∧ Bs w' A (n1 + n2) c (xs ++ ys) ∧ Below w.heap.size w w' := by
  have e1 := h1.rd.len
  have e2 := h2.rd.len
  refine (concat_any (pts_two h1 h2) (by simp; omega) (by omega)).mono fun e w' h => ?_
  obtain ⟨v, rfl, ho, hb⟩ := h
  have e3 : [xs, ys].flatten = xs ++ ys := by simp
  rw [e3] at ho
  obtain ⟨A, c, rfl, hbs⟩ := ho.bs (h1.dig_.append h2.dig_) (by rw [List.length_append]; omega)
  rw [List.length_append, e1, e2] at hbs ⊢
  exact ⟨A, c, rfl, hbs, ((Below.refl _ _).alloc (Nat.le_refl _) _).trans (hb.mono (by simp))⟩
theorem sha_bs {A : Option Addr} {n c : Nat} {l : List Int} {w : World} (hT : Tabs w) (hb : Bs w A n c l) :
    Calls Tryd.prog 9 #[.slice A n c] w fun e w' => ∃ A1 c1, e = .returned (.slice A1 32 c1) ∧ Bs w' A1 32 c1 (sha l) ∧ Own8 w' w.heap.size (.slice A1 32 c1) (sha l) ∧ Below w.heap.size w w' :=
  (sha_any hT hb).mono fun e w' h => by
    obtain ⟨v, rfl, ho, hb⟩ := h
    obtain ⟨A, c, rfl, hbs⟩ := ho.bs (sha_dig l) (by rw [sha_len]; omega)
    rw [sha_len] at hbs ho ⊢
    exact ⟨A, c, rfl, hbs, ho, hb⟩
theorem masked_bs (m : Int) (b : List Int) (hb : b.length = 64) (w : World) :
    Calls Tryd.prog 27 #[.agg (arrV .u8 b), .int .u8 m] w fun e w' => ∃ A1 c1, e = .returned (.slice A1 64 c1) ∧ Bs w' A1 64 c1 (mask m b) ∧ Below w.heap.size w w' :=
  (masked_any m b hb w).mono fun e w' h => by
    obtain ⟨v, rfl, ho, hbe⟩ := h
    obtain ⟨A, c, rfl, hbs⟩ := ho.bs (mask_dig m b) (by rw [mask_len]; omega)
    rw [mask_len, hb] at hbs ⊢
    exact ⟨A, c, rfl, hbs, hbe⟩
theorem key_copy {K : List Int} {n : Nat} (hK : K.length = n) (hn : n ≤ 64) : (List.replicate 64 (0 : Int)).take 0 ++ K ++ (List.replicate 64 0).drop (0 + n) = K ++ List.replicate (64 - n) 0 := by
  rw [List.take_zero, List.nil_append, Nat.zero_add, List.drop_replicate]
def KeyOf (key K : List Int) : Prop := K = if 64 < key.length then sha key else key
theorem KeyOf.le {key K : List Int} (h : KeyOf key K) : K.length ≤ 64 := by
  rw [h]; split
  · rw [sha_len]; omega
  · omega
theorem KeyOf.block {key K : List Int} (h : KeyOf key K) : keyB key = K ++ List.replicate (64 - K.length) 0 := by rw [h]; rfl
/-- The key as it is copied, wherever it lies. -/
def MaC (key : List Int) (w : World) (v : Value) (wx : World) : Prop :=
  ∃ w1 A1 n1 c1 K, w1 = wx ∧ v = .slice A1 n1 c1 ∧ Bs w1 A1 n1 c1 K ∧ KeyOf key K ∧ Below w.heap.size w w1
set_option maxHeartbeats 8000000 in
set_option maxRecDepth 100000 in
theorem mac_any {A A2 : Option Addr} {n c n2 c2 : Nat} {key b : List Int} {w : World} (hT : Tabs w) (hk : Bs w A n c key) (hb : Bz w A2 n2 b) (hn2 : n2 ≤ 1099511627000) :
    Calls Tryd.prog 14 #[.slice A n c, .slice A2 n2 c2] w (AnsO (mac key b) w) := by
  have hkl := hk.rd.len
  have HKL := Lib.hid hkl
  clear hkl
  go_enter Tryd.func14, Tryd.ntmps14
  go_upto_if 9 with fail
  go_cut [0] (fun p wx => MaC key w p wx)
  case first =>
    rcases Nat.lt_or_ge 64 n with hlt | hge
    · have g1 : decide ((64 : Int) < (n : Int)) = true := by simp; omega
      have HO := Lib.hid (show KeyOf key (sha key) by unfold KeyOf; rw [if_pos (by rw [HKL.out]; exact hlt)])
      go_wp2_with fail
      refine (sha_bs hT hk).mono ?_
      rintro e w1 ⟨A1, c1, rfl, hbs1, -, hb1⟩
      go_wp2_with fail
      go_meet
      exact ⟨w1, A1, 32, c1, _, rfl, rfl, hbs1, HO.out, hb1⟩
    · have g1 : decide ((64 : Int) < (n : Int)) = false := by simp; omega
      have HO := Lib.hid (show KeyOf key key by unfold KeyOf; rw [if_neg (by rw [HKL.out]; omega)])
      go_wp2_with fail
      go_meet
      exact ⟨w, A, n, c, _, rfl, rfl, hk, HO.out, Below.refl _ _⟩
  case rest =>
    obtain ⟨w1, A1, n1, c1, K, rfl, rfl, hbs1, hko, hb1⟩ := hcut
    have hKl := hbs1.rd.len
    have hn1 : n1 ≤ 64 := by have := hko.le; omega
    obtain ⟨w2, hcp, hrow2, hg2⟩ := copy8 (Row.new w1 55 .u8 (List.replicate 64 0)) (hbs1.rd.alloc _) (c := c1) 0 64 64 hn1 (by simp; omega)
    rw [key_copy hKl hn1, show K ++ List.replicate (64 - n1) 0 = keyB key by rw [hko.block, hKl]] at hrow2
    obtain ⟨kb, hkb⟩ : ∃ kb, keyB key = kb := ⟨_, rfl⟩
    have hkbl : kb.length = 64 := by rw [← hkb, hko.block, List.length_append, List.length_replicate]; omega
    rw [hkb] at hrow2
    have b2 : Below w.heap.size w w2 := below_grown (hb1.alloc hb1.size _) hg2 (by simp; have := hb1.size; omega) hb1.size
    have T2 := hT.below b2
    have B2 := hb.below b2
    have hsz : (Tryd.prog.info? 55).map (·.size) = some (arrV .u8 kb).size := by rw [arrV_size, hkbl]; exact size55
    have HKB := Lib.hid hkb
    have HROW := Lib.hid (show w2.heap[w1.heap.size]? = some (.cells (arrV .u8 kb) 55 (0, 0)) from hrow2)
    have HR2 := Lib.hid hrow2
    have HB2 := Lib.hid b2
    have hs1 := hb1.size
    clear hT hk hb hbs1 hko hb1 hkb hKl hg2 b2 hrow2
    go_wp2_with (first | (refine Lib.wpList_copy_run _ (o := ⟨some 14, _, _, _, _, _⟩) rfl _ _ _ _ rfl _ _ rfl rfl (hcp _) ?_) | (refine wpList_load_row rfl 55 (.tmp 5) rfl w1.heap.size rfl _ (arrV .u8 kb) _ _ HROW.out Tryd.underlying55 rfl hsz ?_))
    refine (masked_bs 54 kb hkbl _).mono ?_
    rintro e w3 ⟨A3, c3, rfl, hbs3, hb3⟩
    have B3 := B2.below hb3
    have T3 := T2.below hb3
    have s2 := HB2.out.size
    have b3 := HB2.out.trans (hb3.mono s2)
    have hr3 := HR2.out.below hb3 (Row.lt HR2.out)
    have HR3 := Lib.hid hr3
    have HB3 := Lib.hid b3
    clear hcp hr3 b3 hb3 T2 B2
    go_wp2_with fail
    refine (concat_two hbs3 B3 (by omega)).mono ?_
    rintro e w4 ⟨A4, c4, rfl, hbs4, hb4⟩
    have T4 := T3.below hb4
    have b4 := HB3.out.trans (hb4.mono HB3.out.size)
    have hr4 := HR3.out.below hb4 (Row.lt HR3.out)
    clear T3 hb4
    go_wp2_with fail
    refine (sha_bs T4 hbs4).mono ?_
    rintro e w5 ⟨A5, c5, rfl, hbs5, -, hb5⟩
    have T5 := T4.below hb5
    have b5 := b4.trans (hb5.mono b4.size)
    have hr5 := hr4.below hb5 (Row.lt hr4)
    have HROW5 := Lib.hid (show w5.heap[w1.heap.size]? = some (.cells (arrV .u8 kb) 55 (0, 0)) from hr5)
    have HB5 := Lib.hid b5
    clear T4 b4 b5 hr4 hr5 hb5 hbs4
    go_wp2_with (refine wpList_load_row rfl 55 (.tmp 5) rfl w1.heap.size rfl _ (arrV .u8 kb) _ _ HROW5.out Tryd.underlying55 rfl hsz ?_)
    refine (masked_bs 92 kb hkbl _).mono ?_
    rintro e w6 ⟨A6, c6, rfl, hbs6, hb6⟩
    have hbs5' := hbs5.below hb6
    have T6 := T5.below hb6
    have b6 := HB5.out.trans (hb6.mono HB5.out.size)
    clear hb6 T5 hbs5
    go_wp2_with fail
    refine (concat_two hbs6 hbs5'.bz (by omega)).mono ?_
    rintro e w7 ⟨A7, c7, rfl, hbs7, hb7⟩
    have T7 := T6.below hb7
    have b7 := b6.trans (hb7.mono b6.size)
    clear hb7 T6 b6
    go_wp2_with fail
    refine (sha_bs T7 hbs7).mono ?_
    rintro e w8 ⟨A8, c8, rfl, hbs8, ho8, hb8⟩
    have b8 := b7.trans (hb8.mono b7.size)
    have ho9 := ho8.base b7.size
    have HO := Lib.hid ho9
    have HB8 := Lib.hid b8
    clear ho8 ho9 b8 hb8 b7 T7
    go_wp2_with fail
    go_ret
    refine ⟨_, rfl, ?_, HB8.out⟩
    unfold mac
    rw [HKB.out]
    exact HO.out
end Go.Proofs.YtnfncaaclpddkaaDoor
