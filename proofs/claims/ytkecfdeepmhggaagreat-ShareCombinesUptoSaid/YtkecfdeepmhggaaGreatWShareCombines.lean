/-
  ShareCombines answers true: Weight and Combine answer what the document says.
-/
import Derived.Test.YtkecfdeepmhggaaGreatWShareChecks
import Derived.Test.YtkecfdeepmhggaaGreatA9
import Derived.Test.YtkecfdeepmhggaaGreatRfn
namespace Go.Proofs.YtkecfdeepmhggaaGreat
open Go.RowKit
set_option linter.unusedVariables false
theorem infoI9a : (Tryz.prog.info? 3).map (fun i => (i.zero, i.size, i.bytes)) = some (some (.int .i64 0), 1, 8) := by kernel_rfl
theorem kint_at9 (w : World) (x : Int) : kInt.At w x := trivial
theorem kint_bl9 {x : Int} {b : Nat} {P : Prop} (h : kInt.Bl x b) : P := False.elim h
theorem numv_cn9 {c N : Int} {w w' : World} {e : Ending} (h : NumV9 c N w e w') : ∃ B m cap, e = .returned (.tuple #[.slice B m cap, erv9 c]) ∧ Cn w' B m cap (if c = 0 then N else 0) ∧ Below w.heap.size w w' := by
  obtain ⟨B, m, cap, he, h0, h1, hb⟩ := h
  refine ⟨B, m, cap, he, ?_, hb⟩
  by_cases g : c = 0
  · rw [if_pos g]; exact h0 g
  · obtain ⟨rfl, rfl, rfl⟩ := h1 g
    rw [if_neg g]; exact Cn.nil _
/-- A share's value, as a number's slice. -/
def shN (s : Shr) : Nsl := ⟨s.A, s.n, s.c, s.N⟩
/-- The places and the first values, so far. -/
def CbR (S : Nat → Shr) (n : Nat) (w : World) (v1 v2 i : Value) (wr : World) : Prop :=
  ∃ (t : Nat) (c : Nat → Nat), t ≤ n ∧ i = .int .i64 t ∧ Lst kInt 3 1 c wr w.heap.size v1 t (fun j => (S j).I) ∧ Lst kNm 39 2 c wr w.heap.size v2 (min t 6) (fun j => shN (S j)) ∧ (∀ u, u < t → 6 ≤ u → dl (S u).N ≤ 6) ∧ Col wr c ∧ Old9 w c ∧ Below w.heap.size w wr
set_option maxHeartbeats 16000000 in
set_option maxRecDepth 100000 in
theorem shareCombines_walk {w : World} (x : Int) (hx : -9223372036854775808 ≤ x ∧ x ≤ 9223372036854775807) {A : Option Addr} {n c : Nat} {S : Nat → Shr} (hl : Shs w A n c S) (hS : ∀ i, i < n → (S i).n ≤ 1000000000000) (y : Int) (hy : -9223372036854775808 ≤ y ∧ y ≤ 9223372036854775807) :
    Calls Tryz.prog 5 #[.int .i64 x, .slice A n c, .int .i64 y] w (AnsV (.bool true) w) := by
  have HX := Lib.hid hx
  have HY := Lib.hid hy
  have HL := Lib.hid hl
  have HS := Lib.hid hS
  have n60 := hl.c60
  clear hx hy hl hS
  go_enter Tryz.func5, Tryz.ntmps5
  go_wp2_with fail
  refine (up9_any _).mono ?_
  rintro e w2 ⟨rfl, b2⟩
  have B2 := Lib.hid b2
  clear b2
  go_wp2_with fail
  refine (known9_any x HX.out w2).mono ?_
  rintro e w3 ⟨b, d, b', r, rfl, gr, rg, eP, eQ, eG, b3⟩
  have B3 := Lib.hid (B2.out.trans (b3.mono B2.out.size))
  have GR := Lib.hid gr
  have RG := Lib.hid rg
  have EQ := Lib.hid eQ
  have q1 := gp_eq9 b
  have q2 : ∀ w : World, (binOp .neq 24 (.pointer (some ⟨b, 0, none⟩)) (.pointer none)).run Tryz.prog w = .ok (.bool true) w := fun _ => rfl
  clear b3 gr rg eP eQ eG
  obtain ⟨s, hs⟩ : ∃ s : Bool, s = true ↔ ((10 < n ∧ n ≤ 255) ∨ 260 < n) := by
    by_cases q : (10 < n ∧ n ≤ 255) ∨ 260 < n
    · exact ⟨true, fun _ => q, fun _ => rfl⟩
    · exact ⟨false, fun k => (by cases k), fun k => absurd k q⟩
  have HSS := Lib.hid hs
  clear hs
  go_upto_region 3 with fail
  go_cut [46] from 30 to 46 (fun v wx => v = .bool s ∧ w3 = wx)
  case first =>
    rcases Nat.lt_or_ge 10 n with g1 | g1
    · have d1 : decide ((10 : Int) < (n : Int)) = true := by simp; omega
      rcases Nat.lt_or_ge 255 n with g2 | g2
      · have d2 : decide ((n : Int) ≤ 255) = false := by simp; omega
        rcases Nat.lt_or_ge 260 n with g3 | g3
        · have d3 : decide ((260 : Int) < (n : Int)) = true := by simp; omega
          go_wp2_with fail
          go_meet
          exact ⟨by rw [HSS.out.2 (.inr g3)], rfl⟩
        · have d3 : decide ((260 : Int) < (n : Int)) = false := by simp; omega
          go_wp2_with fail
          go_meet
          have hf : s = false := Bool.eq_false_iff.2 fun h => by have := HSS.out.1 h; omega
          exact ⟨by rw [hf], rfl⟩
      · have d2 : decide ((n : Int) ≤ 255) = true := by simp; omega
        go_wp2_with fail
        go_meet
        exact ⟨by rw [HSS.out.2 (.inl ⟨g1, g2⟩)], rfl⟩
    · have d1 : decide ((10 : Int) < (n : Int)) = false := by simp; omega
      have d3 : decide ((260 : Int) < (n : Int)) = false := by simp; omega
      go_wp2_with fail
      go_meet
      have hf : s = false := Bool.eq_false_iff.2 fun h => by have := HSS.out.1 h; omega
      exact ⟨by rw [hf], rfl⟩
  case rest =>
  obtain ⟨rfl, rfl⟩ := hcut
  have BB3 := Lib.hid (show Below w.heap.size w w3 from B3.out)
  cases s with
  | true =>
    go_wp2_with fail
    go_ret
    exact ⟨rfl, BB3.out⟩
  | false =>
  have n260 : n ≤ 260 := by
    have h : ¬ ((10 < n ∧ n ≤ 255) ∨ 260 < n) := fun h => by have := HSS.out.2 h; cases this
    omega
  have HL3 := Lib.hid (HL.out.below BB3.out)
  clear HSS q1 q2
  go_wp2_with fail
  go_loopw [10, 11, 12] (fun v1 v2 i wr => CbR S n w3 v1 v2 i wr) (fun _ _ i _ => n - (intOf i).toNat)
  case atStart => exact ⟨0, fun _ => 0, Nat.zero_le _, rfl, Lst.nil _ _ _ _ _ _ _, Lst.nil _ _ _ _ _ _ _, fun u hu => absurd hu (Nat.not_lt_zero u), Col.none _, fun b _ => rfl, Below.refl _ _⟩
  case round =>
    obtain ⟨t, c0, ht, rfl, hl1, hl2, hv, hcol, hold, hbw⟩ := hrel
    have L1 := Lib.hid hl1
    have L2 := Lib.hid hl2
    have HV := Lib.hid hv
    have COL := Lib.hid hcol
    have OLD := Lib.hid hold
    have BW := Lib.hid hbw
    clear hl1 hl2 hv hcol hold hbw
    rcases Nat.lt_or_ge t n with hlt | hge
    · have c1 : (t : Int) < (n : Int) := by omega
      obtain ⟨bA, oA, rfl, lA, hcA⟩ := HL3.out.ex (by omega)
      have x1 := (BW.out.cell (p := ⟨bA, oA + t * 2, none⟩) lA).trans (hcA t hlt).1
      have X2 := Lib.hid (hcA t hlt).2
      have HLA := Lib.hid lA
      clear hcA lA
      have bx := below_al wr (.cells #[.int .i64 (S t).I] 3)
      have WX := Lib.hid (BW.out.trans (bx.mono BW.out.size))
      have szA := WX.out.size
      have CA1 := Lib.hid (COL.out.below bx.size)
      have M1 := Lib.hid (L1.out.below bx)
      have M2 := Lib.hid (L2.out.below bx)
      have U1 := Lib.hid (show (wr.alloc (.cells #[.int .i64 (S t).I] 3)).cell? ⟨wr.heap.size, 0, none⟩ = some (kInt.v (S t).I) from one_at9a wr _ _)
      have U2 := Lib.hid (show kInt.At (wr.alloc (.cells #[.int .i64 (S t).I] 3)) (S t).I from kint_at9 _ _)
      have U3 := Lib.hid (show ∀ b, kInt.Bl (S t).I b → c0 b = 0 from fun b hb => kint_bl9 hb)
      have NT := Lib.hid (HL3.out.at_ t hlt)
      clear bx
      go_wp2_with (at_builtin; refine wpList_lst rfl (.tmp 58) (.tmp 64) 46 rfl w3.heap.size 3 8 (.int .i64 0) Tryz.underlying46 infoI9a rfl 1 c0 (by decide) CA1.out u10 t 1 (fun j => (S j).I) (S t).I rfl M1.out wr.heap.size rfl U1.out U2.out U3.out (by unfold maxLen; omega) (by omega) szA ?_)
      rintro v7 w7 c7 n1 hg sc cl7
      have R1 := Lib.hid (n1.congr9 (snoc_self9 (fun j => (S j).I) t))
      have N2 := Lib.hid (M2.out.other hg M1.out.row (by decide) (by decide) sc)
      have OLD7 := Lib.hid (OLD.out.same sc szA)
      have COL7 := Lib.hid cl7
      have W7 := Lib.hid (WX.out.grown hg szA (fun g e => (M1.out.l.lt e).1))
      have x2 := (W7.out.cell (p := ⟨bA, oA + t * 2 + 1, none⟩) HLA.out).trans X2.out
      have NT7 := Lib.hid (NT.out.2.below W7.out)
      clear n1 hg sc cl7 M1 M2 U1 U2 U3 CA1 szA x1
      rcases Nat.lt_or_ge t 6 with h6 | h6
      · have d6 : decide ((t : Int) < 6) = true := by simp; omega
        have e6 : min t 6 = t := by omega
        have e7 : min (t + 1) 6 = t + 1 := by omega
        have bx := below_al w7 (.cells #[.slice (S t).A (S t).n (S t).c] 39)
        have WXB := Lib.hid (W7.out.trans (bx.mono W7.out.size))
        have szB := WXB.out.size
        have CB1 := Lib.hid (COL7.out.below bx.size)
        have P1 := Lib.hid (R1.out.below bx)
        have P2 := Lib.hid (show Lst kNm 39 2 c7 (w7.alloc (.cells #[.slice (S t).A (S t).n (S t).c] 39)) w3.heap.size u11 t (fun j => shN (S j)) from by have := N2.out.below bx; rw [e6] at this; exact this)
        have U1 := Lib.hid (show (w7.alloc (.cells #[.slice (S t).A (S t).n (S t).c] 39)).cell? ⟨w7.heap.size, 0, none⟩ = some (kNm.v (shN (S t))) from one_at9a w7 _ _)
        have U2 := Lib.hid (show kNm.At (w7.alloc (.cells #[.slice (S t).A (S t).n (S t).c] 39)) (shN (S t)) from NT7.out.below bx)
        have U3 := Lib.hid (show ∀ b, kNm.Bl (shN (S t)) b → c7 b = 0 from fun b hb => OLD7.out b (Nm.blt NT.out.2 hb))
        clear bx
        go_wp2_with (at_builtin; refine wpList_lst rfl (.tmp 68) (.tmp 74) 22 rfl w3.heap.size 39 24 (.slice none 0 0) Tryz.underlying22 infoN9a rfl 2 c7 (by decide) CB1.out u11 t 1 (fun j => shN (S j)) (shN (S t)) rfl P2.out w7.heap.size rfl U1.out U2.out U3.out (by unfold maxLen; omega) (by omega) szB ?_)
        rintro v8 w8 c8 n2 hg sc cl8
        have R2 := Lib.hid (n2.congr9 (snoc_self9 (fun j => shN (S j)) t))
        have E1 := Lib.hid (P1.out.other hg P2.out.row (by decide) (by decide) sc)
        have OLD8 := Lib.hid (OLD7.out.same sc szB)
        have COL8 := Lib.hid cl8
        have W8 := Lib.hid (WXB.out.grown hg szB (fun g e => (P2.out.l.lt e).1))
        have E7 := Lib.hid e7
        clear n2 hg sc cl8 P1 P2 U1 U2 U3 CB1 szB e6 e7
        go_wp2_with fail
        go_roundw
        case rel => exact ⟨t + 1, c8, by omega, by go_num, E1.out, by rw [E7.out]; exact R2.out, fun u hu h => by omega, COL8.out, OLD8.out, W8.out⟩
        case measure => simp [intOf]; omega
      · have d6 : decide ((t : Int) < 6) = false := by simp; omega
        have e7 := Lib.hid (show min (t + 1) 6 = min t 6 by omega)
        go_wp2_with fail
        refine (rlimbs9 NT7.out).mono ?_
        rintro e wX ⟨rfl, rfl⟩
        rcases Nat.lt_or_ge 6 (dl (S t).N) with g6 | g6
        · have d7 : decide ((6 : Int) < (dl (S t).N : Int)) = true := by simp; omega
          go_wp2_with fail
          go_ret
          exact ⟨rfl, BB3.out.trans (W7.out.mono BB3.out.size)⟩
        · have d7 : decide ((6 : Int) < (dl (S t).N : Int)) = false := by simp; omega
          have G6 := Lib.hid g6
          clear g6
          go_wp2_with fail
          go_roundw
          case rel => exact ⟨t + 1, c7, by omega, by go_num, R1.out, by rw [e7.out]; exact N2.out, fun u hu h => by
            rcases Nat.lt_or_ge u t with q0 | q0
            · exact HV.out u q0 h
            · obtain rfl : u = t := by omega
              exact G6.out, COL7.out, OLD7.out, W7.out⟩
          case measure => simp [intOf]; omega
    · obtain rfl : t = n := by omega
      have c1 : decide ((t : Int) < (t : Int)) = false := by simp
      obtain ⟨Ai, ci, rfl, his⟩ := L1.out.l.ils n60 (fun _ _ => rfl) (fun u hu => (HL3.out.at_ u hu).1)
      obtain ⟨Av, cv, rfl, -, hns⟩ := L2.out.l.nsl (by omega)
      have IS := Lib.hid his
      have NV := Lib.hid hns
      have LC := Lib.hid (HL3.out.below BW.out)
      have BBw := Lib.hid (BB3.out.trans (BW.out.mono BB3.out.size))
      have GRw := Lib.hid (GR.out.below BW.out)
      have RGw := Lib.hid (RG.out.below BW.out)
      obtain ⟨C1, hC1⟩ : ∃ C, wgC d.Q (fun j => (S j).I) t y = C := ⟨_, rfl⟩
      obtain ⟨C2, hC2⟩ : ∃ C, cbC d.Q S t = C := ⟨_, rfl⟩
      have K1 := Lib.hid hC1
      have K2 := Lib.hid hC2
      have RN1 := Lib.hid (show C1 = 0 ∨ (1 ≤ C1 ∧ C1 ≤ 15) from hC1 ▸ wgC_rng)
      have RN2 := Lib.hid (show C2 = 0 ∨ (1 ≤ C2 ∧ C2 ≤ 15) from hC2 ▸ cbC_rng)
      have QQ := Lib.hid (show 2 ≤ d.Q from by have := GR.out.q255; omega)
      obtain ⟨V1, hV1⟩ : ∃ V, (if C1 = 0 then wgN d.Q (fun j => (S j).I) y t else 0) = V := ⟨_, rfl⟩
      obtain ⟨V2, hV2⟩ : ∃ V, (if C2 = 0 then cbN d.Q (fun i => (S i).I) (fun i => (S i).N) t t else 0) = V := ⟨_, rfl⟩
      have KV1 := Lib.hid hV1
      have KV2 := Lib.hid hV2
      have VR := Lib.hid (show (0 ≤ V1 ∧ V1 ≤ d.Q) ∧ (0 ≤ V2 ∧ V2 ≤ d.Q) from by
        have q := QQ.out
        have h1 := wgN_rng (x := fun j => (S j).I) (y := y) q t
        have h2 := cbN_rng9 (x := fun i => (S i).I) (v := fun i => (S i).N) (n := t) (show 1 ≤ d.Q by omega) t
        rw [← hV1, ← hV2]
        refine ⟨?_, ?_⟩ <;> split <;> omega)
      clear L1 L2 HV COL OLD his hns hC1 hC2 hV1 hV2 HL3 HL
      go_wp2_with fail
      clear c1
      refine (light9_any NV.out).mono ?_
      rintro e w4 ⟨⟨l1, rfl, -⟩, rfl⟩
      cases l1 with
      | false =>
        go_wp2_with fail
        go_ret
        exact ⟨rfl, BBw.out⟩
      | true =>
      go_wp2_with fail
      refine (pwgt_any GRw.out IS.out y HY.out).mono ?_
      rintro e w5 h5
      have h5v := numv_cn9 (NumE.v h5)
      rw [K1.out, KV1.out] at h5v
      obtain ⟨D5, m5, k5, rfl, h5a, b5⟩ := h5v
      have H5 := Lib.hid h5a
      have B5 := Lib.hid b5
      clear h5 h5a b5
      go_wp2_with fail
      refine (pcomb_any (GRw.out.below B5.out) (LC.out.below B5.out) (by omega)).mono ?_
      rintro e w6 h6
      have h6v := numv_cn9 (NumE.v h6)
      rw [K2.out, KV2.out] at h6v
      obtain ⟨D6, m6, k6, rfl, h6a, b6⟩ := h6v
      have H6 := Lib.hid h6a
      have B56 := Lib.hid b6
      have B6 := Lib.hid (B5.out.trans (b6.mono B5.out.size))
      clear h6 h6a b6
      go_wp2_with fail
      have k7 := rweight_any (RGw.out.below B6.out) (IS.out.below B6.out) y
      rw [EQ.out] at k7
      refine k7.mono ?_
      rintro e w7 ⟨D7, m7, c7, rfl, h7, b7⟩
      rw [K1.out, KV1.out] at h7
      rw [K1.out]
      have H7 := Lib.hid h7
      have B57 := Lib.hid (B56.out.trans (b7.mono B56.out.size))
      have B67 := Lib.hid b7
      have B7 := Lib.hid (B6.out.trans (b7.mono B6.out.size))
      clear h7 b7 k7
      go_wp2_with fail
      have k8 := rcombine_any (RGw.out.below B7.out) (LC.out.below B7.out) (by omega) HS.out
      rw [EQ.out] at k8
      refine k8.mono ?_
      rintro e w8 ⟨D8, m8, c8, rfl, h8, b8⟩
      rw [K2.out, KV2.out] at h8
      rw [K2.out]
      have B58 := Lib.hid (B57.out.trans (b8.mono B57.out.size))
      have B68 := Lib.hid (B67.out.trans (b8.mono B67.out.size))
      have B8 := Lib.hid (B7.out.trans (b8.mono B7.out.size))
      have H7' := Lib.hid (H7.out.below b8)
      have H8 := Lib.hid h8
      have LL7 := Lib.hid (show m7 ≤ 100000 from by
        have h1 := H7'.out.len_
        have h2 := RG.out.q3 (w' := w8) H7'.out (by rw [EQ.out]; exact VR.out.1.2)
        omega)
      have LL8 := Lib.hid (show m8 ≤ 100000 from by
        have h1 := H8.out.len_
        have h2 := RG.out.q3 (w' := w8) H8.out (by rw [EQ.out]; exact VR.out.2.2)
        omega)
      clear h8 b8 k8 H7
      go_wp2_with fail
      refine (to_new9 H7'.out LL7.out).mono ?_
      rintro e w9 ⟨D9, m9, c9, rfl, h9, -, b9⟩
      have H9 := Lib.hid h9
      have B9 := Lib.hid (B8.out.trans (b9.mono B8.out.size))
      have H5' := Lib.hid (H5.out.below (B58.out.trans (b9.mono B58.out.size)))
      have H6' := Lib.hid (H6.out.below (B68.out.trans (b9.mono B68.out.size)))
      have H8' := Lib.hid (H8.out.below b9)
      clear h9 b9 H5 H6 H8
      go_wp2_with fail
      refine (same9 H5'.out H9.out rfl).mono ?_
      rintro e wS ⟨rfl, qq, rfl⟩
      obtain ⟨wG, hwG⟩ : ∃ wG, wG = w9.drewN qq := ⟨_, rfl⟩
      have B9G := Lib.hid (show Below w9.heap.size w9 wG from by rw [hwG]; exact below_drewN (Below.refl _ _) _)
      rw [← hwG]
      clear hwG
      have BG := Lib.hid (B9.out.trans (B9G.out.mono B9.out.size))
      have H8g := Lib.hid (H8'.out.below B9G.out)
      clear H8' H5' H9
      go_wp2_with fail
      refine (to_new9 H8g.out LL8.out).mono ?_
      rintro e wH ⟨DH, mH, cH, rfl, hH, -, bH⟩
      have HH := Lib.hid hH
      have BH := Lib.hid (BG.out.trans (bH.mono BG.out.size))
      have H6h := Lib.hid (H6'.out.below (B9G.out.trans (bH.mono B9G.out.size)))
      have BF := Lib.hid (BBw.out.trans (BH.out.mono BBw.out.size))
      clear hH bH
      go_wp2_with fail
      refine (same9 H6h.out HH.out rfl).mono ?_
      rintro e wS ⟨rfl, q2, rfl⟩
      have BS := Lib.hid (below_drewN BF.out q2)
      have EC1 := Lib.hid (fun W => code9_any RN1.out W)
      have EC2 := Lib.hid (fun W => code9_any RN2.out W)
      clear RN1 RN2
      go_wp2_with fail
      refine (EC1.out _).mono ?_
      rintro e wX ⟨rfl, rfl⟩
      go_wp2_with fail
      refine (EC2.out _).mono ?_
      rintro e wX ⟨rfl, rfl⟩
      go_wp2_with fail
      go_ret
      exact ⟨by simp, BS.out⟩
end Go.Proofs.YtkecfdeepmhggaaGreat
