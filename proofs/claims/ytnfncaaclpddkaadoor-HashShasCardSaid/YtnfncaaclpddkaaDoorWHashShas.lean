/-
  HashShas, walked: it answers true, whatever comes in.
-/
import Derived.Test.YtnfncaaclpddkaaDoorFit1
import Derived.Test.YtnfncaaclpddkaaDoorMdt
import Derived.Test.YtnfncaaclpddkaaDoorShd
namespace Go.Proofs.YtnfncaaclpddkaaDoor
open Go.RowKit
set_option linter.unusedVariables false
theorem Rd.bw {kd : IntKind} {w w' : World} {A : Option Addr} {n : Nat} {xs : List Int} (h : Rd kd w A n xs) (hb : Bw w w') : Rd kd w' A n xs := h.below hb
theorem dsha_b {W : World} {AK AH : Option Addr} {cK cH : Nat} {A : Option Addr} {n c : Nat} {l R : List Int} (hR : sha l = R) (hK : Rd .u32 W AK 64 KT) (hH : Rd .u32 W AH 8 H0.l) (hb : Bs W A n c l) (hn : n ≤ 1000000) :
    Calls Tryd.prog 11 #[.agg #[.slice AK 64 cK, .slice AH 8 cH], .slice A n c] W (AnsB R 32 W) := by
  subst hR
  exact (dsha_any hK hH hb hn).mono fun _ _ hh => hh.b (sha_len l) (sha_dig l) (by omega)
set_option maxHeartbeats 8000000 in
set_option maxRecDepth 100000 in
theorem hashShas_walk {a : Option Addr} {na ca : Nat} {zs : List Int} {w : World} (ha : IsRow .u8 1 w a na ca zs) (sa : ∀ x, a = some x → x.spot = none) (hT : Tabs w) :
    Calls Tryd.prog 3 #[.slice a na ca] w fun e w' => e = .returned (.bool true) ∧ Below w.heap.size w w' := by
  have hna := ha.nc
  have za := ha.none_len
  obtain ⟨k, hk⟩ : ∃ k, min na 3000 = k := ⟨_, rfl⟩
  have bx := ha.bs_cut sa (m := 3000) (by omega)
  rw [hk] at bx
  obtain ⟨x, hx⟩ : ∃ x, (zs.take na).take k = x := ⟨_, rfl⟩
  rw [hx] at bx
  have k3 : k ≤ 3000 := by omega
  have HK := Lib.hid hk
  have NA := Lib.hid (show na ≤ 140737488351232 by omega)
  have CA := Lib.hid hna.1
  have ZA := Lib.hid za
  have BX := Lib.hid bx
  clear ha hna hk hx bx za sa
  go_enter Tryd.func3, Tryd.ntmps3
  go_wp2_with fail
  refine (up_any hT).mono ?_
  rintro e w1 ⟨rfl, b1⟩
  have b1 : Bw w w1 := b1
  have HT := Lib.hid (hT.bw b1)
  have HX := Lib.hid (BX.out.bw b1)
  clear hT BX
  go_wp2_with fail
  refine (cut_lit rfl HK.out NA.out CA.out ZA.out _).mono ?_
  rintro e w2 ⟨rfl, rfl⟩
  clear HK NA CA ZA
  have k3i : (k : Int) ≤ 3000 := by omega
  have HO0 := Lib.hid (own_none_at w1 5 .u8 (base := w1.heap.size) (q := w1.heap.size) rfl (Nat.le_refl _))
  have HX0 := Lib.hid (HX.out.bw (Bw.alloc w1 (.cells #[] 5)))
  go_wp2_with (at_builtin; refine wpList_cat8 _ rfl (.tmp 10) (.tmp 11) 22 rfl w1.heap.size 5 .u8 Tryd.underlying22 info8u _ 0 [] rfl HO0.out _ _ _ x rfl HX0.out.rd (by omega) (by simp) ?_)
  rintro v3 w3 h3 g3
  have b3 := own_below ((Below.refl w1.heap.size w1).alloc (Nat.le_refl _) _) HO0.out g3 (by simp) (Nat.le_refl _)
  have b3 : Bw w1 w3 := b3
  have o3 : Own8 w3 w1.heap.size v3 x := Own8.app (xs := []) rfl HX.out.rd.len (by simpa using h3)
  obtain ⟨A3, c3, rfl, bs3⟩ := o3.bs HX.out.dig_ (by rw [HX.out.rd.len]; omega)
  rw [HX.out.rd.len] at bs3 ⊢
  have X3 := Lib.hid (HX.out.bw b3)
  have T3 := Lib.hid (HT.out.bw b3)
  have O3 := Lib.hid bs3
  have B03 := Lib.hid (b1.trans b3)
  obtain ⟨R, hR⟩ : ∃ R, sha x = R := ⟨_, rfl⟩
  have HR := Lib.hid hR
  clear h3 g3 b3 o3 bs3 HX HT HO0 HX0 b1 hR
  go_wp2_with fail
  refine (sha_r HR.out T3.out O3.out).mono ?_
  rintro e w4 ⟨A4, c4, rfl, bs4, -, b4⟩
  have X4 := Lib.hid (X3.out.bw b4)
  have O4 := Lib.hid (O3.out.bw b4)
  have B04 := Lib.hid (B03.out.trans b4)
  have S4 := Lib.hid bs4
  clear X3 T3 O3 B03 bs4 b4
  go_wp2_with fail
  refine (made_walk _).mono ?_
  rintro e w5 ⟨AK, cK, AH, cH, rfl, hK, hH, b5⟩
  have b5 : Bw w4 w5 := b5
  have X5 := Lib.hid (X4.out.bw b5)
  have O5 := Lib.hid (O4.out.bw b5)
  have S5 := Lib.hid (S4.out.bw b5)
  have B05 := Lib.hid (B04.out.trans b5)
  have K5 := Lib.hid hK
  have H5 := Lib.hid hH
  clear X4 O4 S4 B04 hK hH b5
  go_upto_region 6 with fail
  generalize hw6 : w5.alloc (.cells #[.slice AK 64 cK, .slice AH 8 cH] 28) = w6
  have b6 : Bw w5 w6 := by rw [← hw6]; exact Bw.alloc _ _
  have c60 : w6.cell? ⟨w5.heap.size, 0, none⟩ = some (.slice AK 64 cK) := by rw [← hw6, cell_of_row _ _ 0 _ _ _ (heap_alloc_new w5 _)]; rfl
  have c61 : w6.cell? ⟨w5.heap.size, 1, none⟩ = some (.slice AH 8 cH) := by rw [← hw6, cell_of_row _ _ 1 _ _ _ (heap_alloc_new w5 _)]; rfl
  have X6 := Lib.hid (X5.out.bw b6)
  have O6 := Lib.hid (O5.out.bw b6)
  have S6 := Lib.hid (S5.out.bw b6)
  have K6 := Lib.hid (K5.out.bw b6)
  have H6 := Lib.hid (H5.out.bw b6)
  have B06 := Lib.hid (B05.out.trans b6)
  have k6 : k ≤ 1000000 := by omega
  clear X5 O5 S5 K5 H5 B05 hw6 b6
  have hW := Bw.drew w6
  have sq := str_eql
  have d1 := conv_b (S6.out.bw hW)
  have d2 := conv_l S6.out
  have d3 := conv_b (O6.out.bw hW)
  have d4 := conv_l O6.out
  have d5 := conv_b (X6.out.bw hW)
  have d6 := conv_l X6.out
  go_region_with (first
    | (go_at_call 11; (with_reducible refine (dsha_b HR.out (K6.out.bw hW) (H6.out.bw hW) (X6.out.bw hW) k6).mono ?_); rintro e wN ⟨AN, cN, rfl, hbN, -, hN⟩; have hW := hW.trans hN; have cN0 := conv_b hbN; have cN1 := conv_l hbN; clear hbN hN))
  all_goals
    go_wp2_with fail
    go_ret
    exact ⟨rfl, B06.out.trans hW⟩
end Go.Proofs.YtnfncaaclpddkaaDoor
