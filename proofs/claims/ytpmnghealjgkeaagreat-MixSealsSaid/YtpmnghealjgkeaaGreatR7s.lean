/-
  The document's layer 7: what Seal answers.
-/
import Derived.Test.YtpmnghealjgkeaaGreatR7w
namespace Go.Proofs.YtpmnghealjgkeaaGreat
open Go.RowKit
set_option linter.unusedVariables false
def SlcR (P Q : Int) (M : Nat → Nsl) (n : Nat) (w : World) (i : Value) (wr : World) : Prop := ∃ k : Nat, k ≤ n ∧ i = .int .i64 k ∧ (∀ j, j < k → El P Q (M j).N) ∧ Below w.heap.size w wr
set_option maxHeartbeats 32000000 in
set_option maxRecDepth 100000 in
theorem rseal7_any {w : World} {b k : Nat} {r : Rgd} {Ak A Ar : Option Addr} {nk ck n c nr cr : Nat} {K : Int} {M : Nat → Nsl} {R : Nat → Nsl} (h : Rg7 w b r k) (hk : Nm w Ak nk ck K) (lk : Li nk K) (hl : Ns w A n c M) (hL : LiN M n) (hr : Ns w Ar nr cr R) (hR : LiN R nr) :
    Calls Tryz.prog 18 #[.pointer (some ⟨b, 0, none⟩), .slice Ak nk ck, .slice A n c, .slice Ar nr cr] w (DetP (sealC r.P r.Q K M n R nr) (fun i => sealN r.P r.Q r.G K (M i).N (R i).N) n w) := by
  have HRG := Lib.hid h
  have HK := Lib.hid hk
  have LK := Lib.hid lk
  have HL := Lib.hid hl
  have HLI := Lib.hid hL
  have HS := Lib.hid hr
  have HSL := Lib.hid hR
  have h60 := hl.c60
  have r60 := hr.c60
  have nk3 : nk ≤ 1000 := by have := lk.1; omega
  clear h hk lk hl hL hr hR
  go_enter Tryz.func18, Tryz.ntmps18
  go_wp2_with fail
  refine (fits7_any n nr h60 r60 w).mono ?_
  rintro e w1 ⟨⟨s1, rfl, hs1⟩, rfl⟩
  have S1 := Lib.hid hs1
  clear hs1
  cases s1
  · have E := Lib.hid (show sealC r.P r.Q K M n R nr = 1 from fitC_arg (fun g => by have := S1.out.2 g; cases this))
    go_wp2_with fail
    go_ret2
    exact .inr ⟨by rw [E.out]; decide, by rw [E.out]; rfl, Below.refl _ _⟩
  have FT := Lib.hid (S1.out.1 rfl)
  obtain rfl : n = nr := FT.out.2.2
  have FT1 := Lib.hid FT.out.1
  have FT2 := Lib.hid FT.out.2.1
  have FTT := Lib.hid (show Nonempty (PLift (1 ≤ n ∧ n ≤ 32 ∧ n = n)) from ⟨⟨FT.out.1, FT.out.2.1, rfl⟩⟩)
  clear FT S1
  go_wp2_with fail
  refine (longs7_any HS.out).mono ?_
  rintro e w1 ⟨⟨s2, rfl, hs2⟩, rfl⟩
  have S2 := Lib.hid hs2
  clear hs2
  cases s2
  case true =>
    have E := Lib.hid (show sealC r.P r.Q K M n R n = 2 from fitC_long ⟨FT1.out, FT2.out, rfl⟩ (S2.out.1 rfl))
    go_wp2_with fail
    go_ret2
    exact .inr ⟨by rw [E.out]; decide, by rw [E.out]; rfl, Below.refl _ _⟩
  have NL := Lib.hid (show ¬ LgS R n from fun g => by have := S2.out.2 g; cases this)
  clear S2
  go_wp2_with fail
  refine (of_nm7 HK.out nk3).mono ?_
  rintro e w2 ⟨BK, mk, dk, rfl, kk, b2, -⟩
  have KK := Lib.hid kk
  have B2 := Lib.hid b2
  clear kk b2
  obtain ⟨s3, hs3⟩ := el_bool r.P r.Q K
  have S3 := Lib.hid hs3
  clear hs3
  go_wp2_with fail
  refine (is7_any (HRG.out.below B2.out) LK.out KK.out (by rw [KK.out.len_]; exact li_dr LK.out HK.out) s3 S3.out).mono ?_
  rintro e w3 ⟨rfl, b3⟩
  have KK3 := Lib.hid (KK.out.below b3)
  have B3 := Lib.hid (B2.out.trans (b3.mono B2.out.size))
  clear b3 KK B2
  cases s3
  · have E := Lib.hid (show sealC r.P r.Q K M n R n = 8 from fitC_no ⟨FT1.out, FT2.out, rfl⟩ NL.out (fun g => by have := S3.out.2 g.1; cases this))
    go_wp2_with fail
    go_ret2
    exact .inr ⟨by rw [E.out]; decide, by rw [E.out]; rfl, B3.out⟩
  have EK := Lib.hid (S3.out.1 rfl)
  clear S3
  go_wp2_with fail
  obtain ⟨wx, rfl⟩ : ∃ wx, wx = w3 := ⟨_, rfl⟩
  go_loopw [13] (fun i wr => SlcR r.P r.Q M n wx i wr) (fun i _ => n - (intOf i).toNat)
  case atStart => exact ⟨0, Nat.zero_le _, rfl, fun j h => absurd h (Nat.not_lt_zero j), Below.refl _ _⟩
  case round =>
  obtain ⟨q, hq, rfl, hz, hbl0⟩ := hrel
  have HZ := Lib.hid hz
  have HB0 := Lib.hid hbl0
  have B3' := Lib.hid (B3.out.trans (hbl0.mono B3.out.size))
  clear hz hbl0
  rcases Nat.lt_or_ge q n with hlt0 | hge0
  · have hkn : (q : Int) < (n : Int) := by omega
    obtain ⟨b9, off9, eA, hb9, hc9⟩ := (HL.out.below B3'.out).ex (by omega)
    subst eA
    have x9 := hc9 q hlt0
    have p9 := (HL.out.below B3'.out).at_ q hlt0
    have l9 := HLI.out q hlt0
    obtain ⟨s9, hs9⟩ : ∃ s, M q = s := ⟨_, rfl⟩
    have HSQ := Lib.hid hs9
    rw [hs9] at x9 p9 l9
    obtain ⟨A9, n9, c9, X9⟩ := s9
    simp only at x9 p9 l9
    have m9 : n9 ≤ 1000 := by have := l9.1; omega
    have P9 := Lib.hid p9
    have L9 := Lib.hid l9
    obtain ⟨s5, hs5⟩ := el_bool r.P r.Q X9
    have S5 := Lib.hid hs5
    clear hc9 p9 l9 hs9 hs5
    go_wp2_with fail
    refine (of_nm7 P9.out m9).mono ?_
    rintro e u1 ⟨C9, d9, e9, rfl, k9, b9', -⟩
    have K9 := Lib.hid k9
    have G9 := Lib.hid (B3'.out.trans (b9'.mono B3'.out.size))
    have H9 := Lib.hid (HB0.out.trans (b9'.mono HB0.out.size))
    clear k9 b9' x9
    go_wp2_with fail
    refine (is7_any (HRG.out.below G9.out) L9.out K9.out (by rw [K9.out.len_]; exact li_dr L9.out P9.out) s5 S5.out).mono ?_
    rintro e u2 ⟨rfl, b8⟩
    have G8 := Lib.hid (G9.out.trans (b8.mono G9.out.size))
    have H8 := Lib.hid (H9.out.trans (b8.mono H9.out.size))
    clear b8 K9 G9 H9
    cases s5
    · have E := Lib.hid (show sealC r.P r.Q K M n R n = 8 from fitC_no ⟨FT1.out, FT2.out, rfl⟩ NL.out (fun g => by have h := g.2 q hlt0; rw [HSQ.out] at h; have := S5.out.2 h; cases this))
      go_wp2_with fail
      go_ret2
      exact .inr ⟨by rw [E.out]; decide, by rw [E.out]; rfl, G8.out⟩
    · go_wp2_with fail
      go_roundw
      case rel =>
        refine ⟨q + 1, by omega, by go_num, fun j hj => ?_, H8.out⟩
        rcases Nat.lt_or_ge j q with g | g
        · exact HZ.out j g
        · obtain rfl : j = q := by omega
          rw [HSQ.out]; exact S5.out.1 (by trivial)
      case measure => simp [intOf]; omega
  obtain rfl : q = n := by omega
  have hkn0 : decide ((q : Int) < (q : Int)) = false := by simp
  have EL := Lib.hid (show ElS r.P r.Q M q from HZ.out)
  have E := Lib.hid (show sealC r.P r.Q K M q R q = 0 from fitC_ok ⟨FT1.out, FT2.out, rfl⟩ NL.out ⟨EK.out, EL.out⟩)
  have KK4 := Lib.hid (KK3.out.below HB0.out)
  have B4 := B3'
  obtain ⟨w4, rfl⟩ : ∃ w4, w4 = wr := ⟨_, rfl⟩
  obtain ⟨n, rfl⟩ : ∃ n, n = q := ⟨_, rfl⟩
  clear HZ HB0 B3 B3' hge0 hq KK3
  have n32 : n ≤ 32 := FT2.out
  have n1 : 1 ≤ n := FT1.out
  have RG := Lib.hid (HRG.out.below B4.out)
  have LB := Lib.hid (HL.out.below B4.out)
  have SB := Lib.hid (HS.out.below B4.out)
  obtain ⟨b0, off, eA, hb0, hcell⟩ := LB.out.ex (by omega)
  subst eA
  obtain ⟨b1, off1, eR, hb1, rcell⟩ := SB.out.ex (by omega)
  subst eR
  have CL := Lib.hid hcell
  have CR := Lib.hid rcell
  have p0 := Lib.hid (show 0 < r.P by have := HRG.out.safe.p2; omega)
  have q0 := Lib.hid (show 0 < r.Q by have := HRG.out.safe.q1; omega)
  have lP := Lib.hid (show dr r.P ≤ 300 by have h1 := HRG.out.p.len_; have h2 := HRG.out.lp; omega)
  have lg : r.nG ≤ 300 := by rw [HRG.out.g.len_]; exact el_len HRG.out.el lP.out
  have lkk : mk ≤ 300 := by rw [KK4.out.len_]; exact el_len EK.out lP.out
  clear hcell rcell
  go_wp2_with fail
  clear hkn0
  obtain ⟨wb, rfl⟩ : ∃ wb, wb = w4 := ⟨_, rfl⟩
  go_loopw [15, 16] (fun v i wr => DlR (fun i => sealN r.P r.Q r.G K (M i).N (R i).N) n wb v i wr) (fun _ i _ => n - (intOf i).toNat)
  case atStart => exact ⟨0, fun _ => ⟨none, 0, 0, 0⟩, Nat.zero_le _, rfl, Owc.nil _ _ _ _ _, fun p hp => absurd hp (by omega), fun p hp => absurd hp (Nat.not_lt_zero p), Below.refl _ _⟩
  case round =>
    obtain ⟨j, S', hj, rfl, hown, hcn, hT, hbl⟩ := hrel
    have HO := Lib.hid hown
    have HC := Lib.hid hcn
    have HT := Lib.hid hT
    have HBL := Lib.hid hbl
    clear hown hcn hT hbl
    rcases Nat.lt_or_ge j n with hlt | hge
    · --<L
      have hkn : (j : Int) < (n : Int) := by omega
      have y0 := CL.out j hlt
      have z0 := CR.out j hlt
      have p1 := LB.out.at_ j hlt
      have pr := SB.out.at_ j hlt
      have l1 := HLI.out j hlt
      have lr := HSL.out j hlt
      have er : dl (R j).N ≤ 64 := Nat.not_lt.1 fun g => NL.out ⟨j, hlt, g⟩
      have ee := EL.out j hlt
      obtain ⟨s, hs⟩ : ∃ s, M j = s := ⟨_, rfl⟩
      have HSJ := Lib.hid hs
      rw [hs] at y0 p1 l1 ee
      obtain ⟨A1, n1', c1, X1⟩ := s
      obtain ⟨sr, hsr⟩ : ∃ s, R j = s := ⟨_, rfl⟩
      have HRJ := Lib.hid hsr
      rw [hsr] at z0 pr lr er
      obtain ⟨A4, n4, c4, X4⟩ := sr
      simp only at y0 p1 l1 ee z0 pr lr er
      have m1 : n1' ≤ 1000 := by have := l1.1; omega
      have m4 : n4 ≤ 1000 := by have := lr.1; omega
      have E1 := Lib.hid (show El r.P r.Q X1 from ee)
      have D4 := Lib.hid (sh_len lr er pr.pos)
      have P1 := Lib.hid p1
      have P4 := Lib.hid pr
      have Y0 := Lib.hid y0
      have zr := (HBL.out.cell (p := ⟨b1, off1 + j, none⟩) hb1).trans z0
      clear p1 pr l1 lr er ee hs hsr y0 z0
      go_wp2_with fail
      refine (of_nm7 (P4.out.below HBL.out) m4).mono ?_
      rintro e u1 ⟨B1, d1, e1, rfl, k1, b1', -⟩
      have G1 := Lib.hid (HBL.out.trans (b1'.mono HBL.out.size))
      have q1 : d1 ≤ 300 := by rw [k1.len_]; exact D4.out
      have z1 := Lib.hid b1'.size
      have O1 := Lib.hid (HO.out.below b1')
      have K1 := Lib.hid k1
      clear k1 b1' zr
      have bd := below_dr u1
      have GD := Lib.hid (G1.out.trans (bd.mono G1.out.size))
      have KD := Lib.hid (K1.out.below bd)
      have OD := Lib.hid (O1.out.below bd)
      have zd := Lib.hid (Nat.le_trans z1.out bd.size)
      have x0 := (GD.out.cell (p := ⟨b0, off + j, none⟩) hb0).trans Y0.out
      have xg := (RG.out.below GD.out).toRg.c2
      clear bd
      go_wp2_with fail
      go_region_law (first
        | (go_simp; go_at_call 54; first
          | ((with_reducible refine (rgx_any (RG.out.below GF.out).toRg RG.out.lp RG.out.lq p0.out q0.out (KK4.out.below GF.out) KF.out lkk (Nat.le_trans q1 (by decide))).mono ?_); rintro e v3 ⟨C3, f3, g3, rfl, k4, b4⟩; have GG := Lib.hid (GF.out.trans (b4.mono GF.out.size)); have KC := Lib.hid k4; have KA2 := Lib.hid (KA1.out.below b4); have KB2 := Lib.hid (KB.out.below b4); have OG := Lib.hid (OF.out.below b4); have zg := Lib.hid (Nat.le_trans zf.out b4.size); have qc : f3 ≤ 300 := (by rw [k4.len_]; exact el_len (gx_el HRG.out.safe.p2 HRG.out.safe.q1 EK.out X4) lP.out); clear k4 b4)
          | ((with_reducible refine (rgx_any (RG.out.below GD.out).toRg RG.out.lp RG.out.lq p0.out q0.out (RG.out.below GD.out).g KD.out lg (Nat.le_trans q1 (by decide))).mono ?_); rintro e v1 ⟨C1, f1, g1, rfl, k2, b2⟩; have GE := Lib.hid (GD.out.trans (b2.mono GD.out.size)); have x1 := (GE.out.cell (p := ⟨b0, off + j, none⟩) hb0).trans Y0.out; have KA := Lib.hid k2; have KE := Lib.hid (KD.out.below b2); have OE := Lib.hid (OD.out.below b2); have ze := Lib.hid (Nat.le_trans zd.out b2.size); have qa : f1 ≤ 300 := (by rw [k2.len_]; exact el_len (gx_el HRG.out.safe.p2 HRG.out.safe.q1 HRG.out.el X4) lP.out); clear k2 b2))
        | (go_simp; go_at_call 51; (with_reducible refine (of_nm7 (P1.out.below GE.out) m1).mono ?_); rintro e v2 ⟨C2, f2, g2, rfl, k3, b3, -⟩; have GF := Lib.hid (GE.out.trans (b3.mono GE.out.size)); have KB := Lib.hid k3; have KA1 := Lib.hid (KA.out.below b3); have KF := Lib.hid (KE.out.below b3); have OF := Lib.hid (OE.out.below b3); have zf := Lib.hid (Nat.le_trans ze.out b3.size); have qb : f2 ≤ 300 := (by rw [k3.len_]; exact el_len E1.out lP.out); clear k3 b3)
        | (go_simp; go_at_call 55; (with_reducible refine (rgm_any (RG.out.below GG.out).toRg RG.out.lp p0.out KB2.out KC.out qb qc).mono ?_); rintro e v4 ⟨C4, f4, g4, rfl, k5, b5⟩; have GH := Lib.hid (GG.out.trans (b5.mono GG.out.size)); have KM := Lib.hid k5; have KA3 := Lib.hid (KA2.out.below b5); have OH := Lib.hid (OG.out.below b5); have zh := Lib.hid (Nat.le_trans zg.out b5.size); have qd : f4 ≤ 300 := (by rw [k5.len_]; exact el_len (E1.out.mul HRG.out.safe.p2 HRG.out.safe.q1 (gx_el HRG.out.safe.p2 HRG.out.safe.q1 EK.out X4)) lP.out); clear k5 b5)
        | (go_simp; go_at_call 56; (with_reducible refine (rone_any _).mono ?_); rintro e v5 ⟨C5, f5, g5, rfl, k6, b6⟩; have GI := Lib.hid (GH.out.trans (b6.mono GH.out.size)); have KO := Lib.hid k6; have KA4 := Lib.hid (KA3.out.below b6); have KM1 := Lib.hid (KM.out.below b6); have OI := Lib.hid (OH.out.below b6); have zi := Lib.hid (Nat.le_trans zh.out b6.size); have qe : f5 ≤ 100000 := (by have h1 := k6.len_; have h2 : dr 1 = 1 := (by unfold dr; rw [dgD_one (by decide) (by decide)]; rfl); omega); clear k6 b6)
        | (go_simp; go_at_call 53; (with_reducible refine (told7_any KA4.out KM1.out KO.out (Nat.le_trans qa (by decide)) (Nat.le_trans qd (by decide)) qe).mono ?_); rintro e v8 ⟨⟨D1, h1, i1, D2, h2, i2, D3, h3, i3, j1, j2, j3⟩, rfl, t4, t5, t6, w4, w5, w6, b9⟩; have T4 := Lib.hid t4; have T5 := Lib.hid t5; have T6 := Lib.hid t6; have GL := Lib.hid (GI.out.trans (b9.mono GI.out.size)); have U1 := Lib.hid (tri_cell v8 61 ⟨D1, h1, i1, D2, h2, i2, D3, h3, i3, gx r.P r.Q r.G X4, X1 * gx r.P r.Q K X4 % r.P, 1⟩); have U2 := Lib.hid (tri_nm (w := v8) (o := .cells #[.slice D1 h1 i1, .slice D2 h2 i2, .slice D3 h3 i3] 61) ⟨D1, h1, i1, D2, h2, i2, D3, h3, i3, gx r.P r.Q r.G X4, X1 * gx r.P r.Q K X4 % r.P, 1⟩ t4.nm t5.nm t6.nm); have U3 := Lib.hid (tri_far HO.out zi.out ⟨D1, h1, i1, D2, h2, i2, D3, h3, i3, gx r.P r.Q r.G X4, X1 * gx r.P r.Q K X4 % r.P, 1⟩ w4 w5 w6); have O5 := Lib.hid ((OI.out.below b9).below (below_al v8 (.cells #[.slice D1 h1 i1, .slice D2 h2 i2, .slice D3 h3 i3] 61))); have hb5 : wb.heap.size ≤ (v8.alloc (.cells #[.slice D1 h1 i1, .slice D2 h2 i2, .slice D3 h3 i3] 61)).heap.size := (Nat.le_trans GL.out.size (by simp)); clear t4 t5 t6 w4 w5 w6 b9)
        | (refine step_owc rfl (.tmp 60) (.tmp 82) 25 rfl wb.heap.size 61 3 72 (.agg #[.slice none 0 0, .slice none 0 0, .slice none 0 0]) Tryz.underlying25 info_pair rfl (by decide) u15 j 1 1 S' (tri ⟨D1, h1, i1, D2, h2, i2, D3, h3, i3, gx r.P r.Q r.G X4, X1 * gx r.P r.Q K X4 % r.P, 1⟩) rfl O5.out v8.heap.size rfl U1.out U2.out U3.out (by decide) (by unfold maxLen; omega) (by omega) hb5 ?_; intro vz wz hownz hgz; have HOZ := Lib.hid hownz; have HGZ := Lib.hid hgz; clear hownz hgz))
      all_goals
        have G5 := Lib.hid ((GL.out.trans ((below_al v8 (.cells #[.slice D1 h1 i1, .slice D2 h2 i2, .slice D3 h3 i3] 61)).mono GL.out.size)).grown HGZ.out hb5 (fun b e => (HO.out.lt e).1))
        have NX := Lib.hid (DlR.next (w := wb) (n := n) (T := fun i => sealN r.P r.Q r.G K (M i).N (R i).N) (s := ⟨D1, h1, i1, D2, h2, i2, D3, h3, i3, gx r.P r.Q r.G X4, X1 * gx r.P r.Q K X4 % r.P, 1⟩) HC.out HT.out T4.out.len_ T5.out.len_ T6.out.len_ (by show _ = sealN r.P r.Q r.G K (M j).N (R j).N; rw [HSJ.out, HRJ.out]; rfl))
        clear hb5 qa qb qc qd qe
        go_wp2_with fail
        go_roundw
        case rel => exact ⟨j + 1, _, by omega, by go_num, HOZ.out, NX.out.1, NX.out.2, G5.out⟩
        case measure => simp [intOf]; omega
      --L>
    · obtain rfl : j = n := by omega
      have hkn : decide ((j : Int) < (j : Int)) = false := by simp
      obtain ⟨A1, c1, rfl, S1, f1, f2, f3, f4⟩ := DlR.det HO.out h60 HC.out HT.out HBL.out
      have F1 := Lib.hid f1
      have F2 := Lib.hid f2
      have F3 := Lib.hid f3
      have F4 := Lib.hid (B4.out.trans (f4.mono B4.out.size))
      clear f1 f2 f3 f4
      go_wp2_with fail
      go_ret2
      exact .inl ⟨E.out, A1, c1, S1, rfl, F1.out, F2.out, F3.out, F4.out⟩
end Go.Proofs.YtpmnghealjgkeaaGreat
