/-
  HashParts, walked: it answers true, whatever comes in.
-/
import Derived.Test.YtnfncaaclpddkaaDoorPrt
import Derived.Test.YtnfncaaclpddkaaDoorRpa
import Derived.Test.YtnfncaaclpddkaaDoorRmc
namespace Go.Proofs.YtnfncaaclpddkaaDoor
open Go.RowKit
set_option linter.unusedVariables false
section
variable {W : World} {A A2 AK AH : Option Addr} {n c n2 c2 cK cH : Nat} {l k R : List Int} {L : List (List Int)}
theorem rparts_r (hR : parts L = R) (hK : Rd .u32 W AK 64 KT) (hH : Rd .u32 W AH 8 H0.l) (hp : Pts W A n c L) (hl : (fr L).length ≤ 1000000) (hn : n ≤ 1000) (hd : ∀ xs ∈ L, Dig 256 xs) :
    Calls Tryd.prog 13 #[.agg #[.slice AK 64 cK, .slice AH 8 cH], .slice A n c] W (AnsB R 32 W) := by
  subst hR
  exact (rparts_any hK hH hp hl (by omega) hd).mono fun _ _ h => AnsO.b (parts_len L) (parts_dig L) (by omega) h
theorem rmac_r (hR : mac k l = R) (hK : Rd .u32 W AK 64 KT) (hH : Rd .u32 W AH 8 H0.l) (hk : Bs W A n c k) (h : Bz W A2 n2 l) (hn : n ≤ 1000) (hn2 : n2 ≤ 100000) :
    Calls Tryd.prog 15 #[.agg #[.slice AK 64 cK, .slice AH 8 cH], .slice A n c, .slice A2 n2 c2] W (AnsB R 32 W) := by
  subst hR
  exact (rmac_any hK hH hk h hn hn2).mono fun _ _ h => AnsO.b (mac_len k l) (mac_dig k l) (by omega) h
end
theorem Rd.bw {kd : IntKind} {w w' : World} {A : Option Addr} {n : Nat} {xs : List Int} (h : Rd kd w A n xs) (hb : Bw w w') : Rd kd w' A n xs := h.below hb
theorem Pts.bw {w w' : World} {A : Option Addr} {n c : Nat} {L : List (List Int)} (h : Pts w A n c L) (hb : Bw w w') : Pts w' A n c L := h.below hb
/-- The parts collected so far. -/
def PcR (L : List (List Int)) (W1 : World) (v i : Value) (wr : World) : Prop := ∃ k : Nat, k ≤ L.length ∧ i = .int .i64 k ∧ OwP W1 wr v (L.take k) k
set_option maxHeartbeats 8000000 in
set_option maxRecDepth 100000 in
theorem hashParts_walk {A : Option Addr} {n c : Nat} {a : Option Addr} {na ca : Nat} {zs : List Int} {w : World} (hp : Pin w A n c) (ha : IsRow .u8 1 w a na ca zs) (sa : ∀ x, a = some x → x.spot = none) (hT : Tabs w) :
    Calls Tryd.prog 4 #[.slice A n c, .slice a na ca] w fun e w' => e = .returned (.bool true) ∧ Below w.heap.size w w' := by
  obtain ⟨q, hq⟩ : ∃ q, min n 20 = q := ⟨_, rfl⟩
  obtain ⟨L, hL⟩ := hp.cut (k := q) (by omega)
  have hna := ha.nc
  have za := ha.none_len
  obtain ⟨k, hk⟩ : ∃ k, min na 300 = k := ⟨_, rfl⟩
  have bx := ha.bs_cut sa (m := 300) (by omega)
  rw [hk] at bx
  obtain ⟨x, hx⟩ : ∃ x, (zs.take na).take k = x := ⟨_, rfl⟩
  rw [hx] at bx
  have k3 : k ≤ 300 := by omega
  have q20 : q ≤ 20 := by omega
  have HK := Lib.hid hk
  have NA := Lib.hid (show na ≤ 140737488351232 by omega)
  have CA := Lib.hid hna.1
  have ZA := Lib.hid za
  have BX := Lib.hid bx
  have HP := Lib.hid hp.nc
  have HPN := Lib.hid hp.none_
  have HQ := Lib.hid hq
  have HLL := Lib.hid hL.len
  have HD := Lib.hid (fun xs hx => (hL.small xs hx).1 : ∀ xs ∈ L, Dig 256 xs)
  have HSM := Lib.hid (fun xs hx => (hL.small xs hx).2 : ∀ xs ∈ L, xs.length ≤ 300)
  have HFR := Lib.hid (show (fr L).length ≤ 1000000 by
    have := fr_bound (L := L) fun xs hx => (hL.small xs hx).2
    rw [hL.len] at this; omega)
  have HPC := Lib.hid hL
  clear ha hna hk hx bx za sa hp hq hL
  go_enter Tryd.func4, Tryd.ntmps4
  go_wp2_with fail
  refine (up_any hT).mono ?_
  rintro e w1 ⟨rfl, b1⟩
  have b1 : Bw w w1 := b1
  have HT := Lib.hid (hT.bw b1)
  have HX := Lib.hid (BX.out.bw b1)
  have PC := Lib.hid (HPC.out.below b1)
  have B01 := Lib.hid b1
  clear hT BX HPC b1
  go_upto_if 13 with fail
  go_cut [0] (fun v wx => v = .slice A q c ∧ w1 = wx)
  case first =>
    --<CUT
    have hnc := HP.out
    have e := HQ.out
    rcases Nat.lt_or_ge 20 n with hlt | hge
    · have g1 : decide ((20 : Int) < (n : Int)) = true := by simp; omega
      have g2 : (20 : Int) ≤ (c : Int) := by omega
      have HE := Lib.hid (show 20 = q by omega)
      cases A with
      | none => have := HPN.out rfl; omega
      | some aa =>
        clear e
        go_wp2_with fail
        go_meet
        exact ⟨by rw [← HE.out], rfl⟩
    · have g1 : decide ((20 : Int) < (n : Int)) = false := by simp; omega
      have HE := Lib.hid (show n = q by omega)
      clear e
      go_wp2_with fail
      go_meet
      exact ⟨by rw [← HE.out], rfl⟩
    --CUT>
  case rest =>
    obtain ⟨rfl, rfl⟩ := hcut
    clear HPN HP HQ
    go_wp2_with fail
    go_loopw [6, 7] (fun v i wr => PcR L w1 v i wr) (fun _ i _ => q - (intOf i).toNat)
    case atStart => exact ⟨0, Nat.zero_le _, rfl, OwP.nil _⟩
    case round =>
      obtain ⟨j, hj, rfl, ho⟩ := hrel
      rw [HLL.out] at hj
      have hB := ho.2.1
      have HO := Lib.hid ho
      rcases Nat.lt_or_ge j q with hlt | hge
      · --<L1
        obtain ⟨b, off, rfl, hbl, hc⟩ := PC.out.cells (by omega)
        obtain ⟨Aj, nj, cj, xs, hx, hcell, g1, g2, g3, g4, hbs⟩ := hc j hlt
        obtain ⟨m, hm⟩ : ∃ m, xs.length = m := ⟨_, rfl⟩
        rw [hm] at g4 hbs
        have hcell := (Below.cell hB (p := ⟨b, off + j, none⟩) hbl).trans hcell
        have hji : (j : Int) < (q : Int) := by omega
        have HSN := Lib.hid (show L.take (j + 1) = L.take j ++ [xs] by
          obtain ⟨h1, h2⟩ := List.getElem?_eq_some_iff.1 hx
          rw [List.take_succ_eq_append_getElem h1, h2])
        have HM := Lib.hid hm
        have HBS := Lib.hid hbs
        have G1 := Lib.hid g1
        have G2 := Lib.hid g2
        have G3 := Lib.hid g3
        have G4 := Lib.hid g4
        clear hc hx hm hbs ho hB g1 g2 g3 g4
        go_wp2_with fail
        refine (cut_lit rfl G4.out G1.out G2.out G3.out _).mono ?_
        rintro e w2 ⟨rfl, rfl⟩
        clear hcell
        go_wp2_with (at_builtin; refine wpList_prt rfl (.tmp 22) (.tmp 28) rfl w1 _ j (L.take j) rfl (HO.out.bw (Bw.alloc _ _)) wr.heap.size Aj m cj xs rfl (cell_one _ _ _) HBS.out HM.out (by omega) ?_)
        rintro v3 w3 h3
        have H3 := Lib.hid h3
        clear h3
        go_wp2_with fail
        go_roundw
        case rel => exact ⟨j + 1, by rw [HLL.out]; omega, by go_num, by rw [HSN.out]; exact H3.out⟩
        case measure => simp [intOf]; omega
        --L1>
      · obtain rfl : j = q := by omega
        rw [← HLL.out, List.take_length, HLL.out] at ho
        obtain ⟨A2, c2, rfl, pts⟩ := ho.pts
        obtain ⟨w4, rfl⟩ : ∃ w4, w4 = wr := ⟨_, rfl⟩
        have hji : decide ((j : Int) < (j : Int)) = false := by simp
        have X4 := Lib.hid (HX.out.bw hB)
        have T4 := Lib.hid (HT.out.bw hB)
        have B04 := Lib.hid (B01.out.trans hB)
        have P4 := Lib.hid pts
        clear HX HT B01 HO ho hB pts PC
        go_wp2_with fail
        refine (cut_lit rfl HK.out NA.out CA.out ZA.out _).mono ?_
        rintro e w5 ⟨rfl, rfl⟩
        clear HK NA CA ZA
        go_wp2_with fail
        refine (made_walk _).mono ?_
        rintro e w5 ⟨AK, cK, AH, cH, rfl, hK, hH, b5⟩
        have b5 : Bw w4 w5 := b5
        have X5 := Lib.hid (X4.out.bw b5)
        have T5 := Lib.hid (T4.out.bw b5)
        have P5 := Lib.hid (P4.out.bw b5)
        have B05 := Lib.hid (B04.out.trans b5)
        have K5 := Lib.hid hK
        have H5 := Lib.hid hH
        clear X4 T4 P4 B04 hK hH b5
        go_upto_region 11 with fail
        generalize hw6 : w5.alloc (.cells #[.slice AK 64 cK, .slice AH 8 cH] 28) = w6
        have b6 : Bw w5 w6 := by rw [← hw6]; exact Bw.alloc _ _
        have c60 : ∀ W', Bw w6 W' → W'.cell? ⟨w5.heap.size, 0, none⟩ = some (.slice AK 64 cK) := fun W' hb => by
          rw [Below.cell hb (p := ⟨w5.heap.size, 0, none⟩) (by rw [← hw6]; simp), ← hw6, cell_of_row _ _ 0 _ _ _ (heap_alloc_new w5 _)]; rfl
        have c61 : ∀ W', Bw w6 W' → W'.cell? ⟨w5.heap.size, 1, none⟩ = some (.slice AH 8 cH) := fun W' hb => by
          rw [Below.cell hb (p := ⟨w5.heap.size, 1, none⟩) (by rw [← hw6]; simp), ← hw6, cell_of_row _ _ 1 _ _ _ (heap_alloc_new w5 _)]; rfl
        have X6 := Lib.hid (X5.out.bw b6)
        have T6 := Lib.hid (T5.out.bw b6)
        have P6 := Lib.hid (P5.out.bw b6)
        have K6 := Lib.hid (K5.out.bw b6)
        have H6 := Lib.hid (H5.out.bw b6)
        have B06 := Lib.hid (B05.out.trans b6)
        have C60 := Lib.hid c60
        have C61 := Lib.hid c61
        clear X5 T5 P5 K5 H5 B05 hw6 b6
        obtain ⟨R, hR⟩ : ∃ R, parts L = R := ⟨_, rfl⟩
        have HR := Lib.hid hR
        have l1 : j ≤ 1000 := by omega
        have sn := str_neq
        clear hR
        go_cut [40] (fun v wx => v = .bool false ∧ Bw w6 wx)
        case first =>
          --<R11
          have hW := Bw.drew w6
          go_region_with (first
            | (go_at_call 12; (with_reducible refine (parts_p HR.out (T6.out.bw hW) (P6.out.bw hW) HFR.out l1 HD.out).mono ?_); rintro e wN ⟨AN, cN, rfl, hbN, -, hN⟩; have hW := hW.trans hN; have cN0 := conv_b hbN; have cN1 := conv_l hbN; (try have h2 := Bw.trans hP hN); have hP := hN; clear hbN hN)
            | (go_at_call 13; (with_reducible refine (rparts_r HR.out (K6.out.bw hW) (H6.out.bw hW) (P6.out.bw hW) HFR.out l1 HD.out).mono ?_); rintro e wN ⟨AN, cN, rfl, hbN, -, hN⟩; have hW := hW.trans hN; have cN0 := conv_b hbN; have cN1 := conv_l hbN; (try have h2 := Bw.trans hP hN); have hP := hN; clear hbN hN))
          all_goals
            go_wp2_with fail
            go_meet
            exact ⟨rfl, hW⟩
          --R11>
        case rest =>
          obtain ⟨rfl, hW⟩ := hcut
          obtain ⟨w12, rfl⟩ : ∃ w12, w12 = wc := ⟨_, rfl⟩
          have X12 := Lib.hid (X6.out.bw hW)
          have T12 := Lib.hid (T6.out.bw hW)
          have P12 := Lib.hid (P6.out.bw hW)
          have K12 := Lib.hid (K6.out.bw hW)
          have H12 := Lib.hid (H6.out.bw hW)
          have B012 := Lib.hid (B06.out.trans hW)
          have D60 := Lib.hid fun W' (hb : Bw w12 W') => C60.out W' (hW.trans hb)
          have D61 := Lib.hid fun W' (hb : Bw w12 W') => C61.out W' (hW.trans hb)
          clear X6 T6 P6 K6 H6 B06 c60 c61 C60 C61 HR hW
          go_wp2_with fail
          go_loopw [9] (fun i wr => LpR j w12 i wr) (fun i _ => j - (intOf i).toNat)
          case atStart => exact ⟨0, Nat.zero_le _, rfl, Bw.refl _⟩
          case round =>
            clear hji
            obtain ⟨i, hi, rfl, hB⟩ := hrel
            rcases Nat.lt_or_ge i j with hlt | hge
            · --<L2
              have hij : (i : Int) < (j : Int) := by omega
              have i20 : i ≤ 20 := by omega
              obtain ⟨b, off, rfl, hbl, hc⟩ := (P12.out.bw hB).cells (by omega)
              obtain ⟨Aj, cj, xs, hx, hcell, hbs⟩ := hc i hlt
              obtain ⟨m, hm⟩ : ∃ m, xs.length = m := ⟨_, rfl⟩
              rw [hm] at hcell hbs
              have m300 : m ≤ 100000 := by
                have := HSM.out xs (List.mem_of_getElem? hx)
                omega
              have c62 : ∀ W', Bw wr W' → W'.cell? ⟨b, off + i, none⟩ = some (.slice Aj m cj) := fun W' hb => (Below.cell hb (p := ⟨b, off + i, none⟩) hbl).trans hcell
              have c60 : ∀ W', Bw wr W' → W'.cell? ⟨w5.heap.size, 0, none⟩ = some (.slice AK 64 cK) := fun W' hb => D60.out W' (hB.trans hb)
              have c61 : ∀ W', Bw wr W' → W'.cell? ⟨w5.heap.size, 1, none⟩ = some (.slice AH 8 cH) := fun W' hb => D61.out W' (hB.trans hb)
              have XW := Lib.hid (X12.out.bw hB)
              have TW := Lib.hid (T12.out.bw hB)
              have KW := Lib.hid (K12.out.bw hB)
              have HW := Lib.hid (H12.out.bw hB)
              have BJ := Lib.hid hbs
              have HB := Lib.hid hB
              obtain ⟨R, hR⟩ : ∃ R, mac x xs = R := ⟨_, rfl⟩
              have HR := Lib.hid hR
              have m6 : m ≤ 1000000 := by omega
              have k6 : k ≤ 1000 := by omega
              have sn := str_neq
              clear hc hx hm hcell hbs hB hR X12 T12 P12 K12 H12 D60 D61
              go_upto_region 16 with fail
              go_cut [62] from 41 to 62 (fun v wx => v = .bool false ∧ Bw wr wx)
              case first =>
                --<R16
                have hW := Bw.drew wr
                go_region_with (first
                  | (go_at_call 14; (with_reducible refine (mac_z HR.out (TW.out.bw hW) (XW.out.bw hW) (BJ.out.bw hW) m6).mono ?_); rintro e wN ⟨AN, cN, rfl, hbN, -, hN⟩; have hW := hW.trans hN; have cN0 := conv_b hbN; have cN1 := conv_l hbN; (try have h2 := Bw.trans hP hN); have hP := hN; clear hbN hN)
                  | (go_at_call 15; (with_reducible refine (rmac_r HR.out (KW.out.bw hW) (HW.out.bw hW) (XW.out.bw hW) (BJ.out.bw hW) k6 m300).mono ?_); rintro e wN ⟨AN, cN, rfl, hbN, -, hN⟩; have hW := hW.trans hN; have cN0 := conv_b hbN; have cN1 := conv_l hbN; (try have h2 := Bw.trans hP hN); have hP := hN; clear hbN hN))
                all_goals
                  go_wp2_with fail
                  go_meet
                  exact ⟨rfl, hW⟩
                --R16>
              case rest =>
                obtain ⟨rfl, hW⟩ := hcut
                clear c60 c61 c62
                go_wp2_with fail
                go_roundw
                case rel => exact ⟨i + 1, by omega, by go_num, HB.out.trans hW⟩
                case measure => simp [intOf]; omega
              --L2>
            · obtain rfl : i = j := by omega
              have hij : decide ((i : Int) < (i : Int)) = false := by simp
              go_wp2_with fail
              go_ret
              exact ⟨rfl, B012.out.trans hB⟩
end Go.Proofs.YtnfncaaclpddkaaDoor
