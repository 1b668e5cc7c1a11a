/-
  The document's layer 7: what Strip answers.
-/
import Derived.Test.YtpmnghealjgkeaaGreatR7w
namespace Go.Proofs.YtpmnghealjgkeaaGreat
open Go.RowKit
set_option linter.unusedVariables false
set_option maxHeartbeats 32000000 in
set_option maxRecDepth 100000 in
theorem rstrip7_any {w : World} {b k : Nat} {r : Rgd} {Ax Ak A Ar : Option Addr} {nx cx nk ck n c nr cr : Nat} {x K : Int} {S : Nat → Stp} {R : Nat → Nsl} (h : Rg7 w b r k) (hx : Nm w Ax nx cx x) (lx : Li nx x) (hk : Nm w Ak nk ck K) (lk : Li nk K) (hl : Ch w A n c S) (hL : ∀ i, i < n → LiS (S i)) (hr : Ns w Ar nr cr R) (hR : LiN R nr) :
    Calls Tryz.prog 27 #[.pointer (some ⟨b, 0, none⟩), .slice Ax nx cx, .slice Ak nk ck, .slice A n c, .slice Ar nr cr] w (DetP (stripC r.P r.Q x K S n R nr) (fun i => stripN r.P r.Q r.G x K (Trp.of (S i)) (R i).N) n w) := by
  have HRG := Lib.hid h
  have HK := Lib.hid hk
  have HX := Lib.hid hx
  have LX := Lib.hid lx
  have nx3 : nx ≤ 1000 := by have := lx.1; omega
  have LK := Lib.hid lk
  have HL := Lib.hid hl
  have HLI := Lib.hid hL
  have HS := Lib.hid hr
  have HSL := Lib.hid hR
  have h60 := hl.c60
  have r60 := hr.c60
  have nk3 : nk ≤ 1000 := by have := lk.1; omega
  clear h hk lk hl hL hr hR hx lx
  go_enter Tryz.func27, Tryz.ntmps27
  go_wp2_with fail
  refine (fits7_any n nr h60 r60 w).mono ?_
  rintro e w1 ⟨⟨s1, rfl, hs1⟩, rfl⟩
  have S1 := Lib.hid hs1
  clear hs1
  cases s1
  · have E := Lib.hid (show stripC r.P r.Q x K S n R nr = 1 from fitC_arg (fun g => by have := S1.out.2 g; cases this))
    go_wp2_with fail
    go_ret2
    exact .inr ⟨by rw [E.out]; decide, by rw [E.out]; rfl, Below.refl _ _⟩
  have FT := Lib.hid (S1.out.1 rfl)
  obtain rfl : n = nr := FT.out.2.2
  have FT1 := Lib.hid FT.out.1
  have FT2 := Lib.hid FT.out.2.1
  have FTT := Lib.hid (show Nonempty (PLift (1 ≤ n ∧ n ≤ 32 ∧ n = n)) from ⟨⟨FT.out.1, FT.out.2.1, rfl⟩⟩)
  clear FT S1
  go_wp2_with fail
  refine (long7_any HX.out).mono ?_
  rintro e w1 ⟨rfl, rfl⟩
  rcases Nat.lt_or_ge 64 (dl x) with gx0 | gx0
  · have e0 : decide (64 < dl x) = true := by simp; omega
    have E := Lib.hid (show stripC r.P r.Q x K S n R n = 2 from fitC_long ⟨FT1.out, FT2.out, rfl⟩ (.inl gx0))
    go_wp2_with fail
    go_ret2
    exact .inr ⟨by rw [E.out]; decide, by rw [E.out]; rfl, Below.refl _ _⟩
  have e0 : decide (64 < dl x) = false := by simp; omega
  go_wp2_with fail
  clear e0
  refine (longs7_any HS.out).mono ?_
  rintro e w1 ⟨⟨s2, rfl, hs2⟩, rfl⟩
  have S2 := Lib.hid hs2
  clear hs2
  cases s2
  case true =>
    have E := Lib.hid (show stripC r.P r.Q x K S n R n = 2 from fitC_long ⟨FT1.out, FT2.out, rfl⟩ (.inr (S2.out.1 rfl)))
    go_wp2_with fail
    go_ret2
    exact .inr ⟨by rw [E.out]; decide, by rw [E.out]; rfl, Below.refl _ _⟩
  have NLR := Lib.hid (show ¬ LgS R n from fun g => by have := S2.out.2 g; cases this)
  have NL := Lib.hid (show ¬ (64 < dl x ∨ LgS R n) from fun g => g.elim (fun g => by omega) NLR.out)
  have DX := Lib.hid (sh_len LX.out gx0 HX.out.pos)
  clear S2 gx0
  go_wp2_with fail
  refine (of_nm7 HK.out nk3).mono ?_
  rintro e w2 ⟨BK, mk, dk, rfl, kk, b2, -⟩
  have KK := Lib.hid kk
  have B2 := Lib.hid b2
  clear kk b2
  obtain ⟨s3, hs3⟩ := el_bool r.P r.Q K
  have S3 := Lib.hid hs3
  clear hs3
  go_wp2_with fail
  refine (is7_any (HRG.out.below B2.out) LK.out KK.out (by rw [KK.out.len_]; exact li_dr LK.out HK.out) s3 S3.out).mono ?_
  rintro e w3 ⟨rfl, b3⟩
  have KK3 := Lib.hid (KK.out.below b3)
  have B3 := Lib.hid (B2.out.trans (b3.mono B2.out.size))
  clear b3 KK B2
  cases s3
  · have E := Lib.hid (show stripC r.P r.Q x K S n R n = 8 from fitC_no ⟨FT1.out, FT2.out, rfl⟩ NL.out (fun g => by have := S3.out.2 g.1; cases this))
    go_wp2_with fail
    go_ret2
    exact .inr ⟨by rw [E.out]; decide, by rw [E.out]; rfl, B3.out⟩
  have EK := Lib.hid (S3.out.1 rfl)
  clear S3
  go_wp2_with fail
  refine (odd7_any (HRG.out.below B3.out) (HL.out.below B3.out) HLI.out).mono ?_
  rintro e w4 ⟨⟨s4, rfl, hs4⟩, b4⟩
  have S4 := Lib.hid hs4
  have KK4 := Lib.hid (KK3.out.below b4)
  have B4 := Lib.hid (B3.out.trans (b4.mono B3.out.size))
  clear hs4 b4 KK3 B3
  cases s4
  case true =>
    have E := Lib.hid (show stripC r.P r.Q x K S n R n = 8 from fitC_no ⟨FT1.out, FT2.out, rfl⟩ NL.out (fun g => (S4.out.1 rfl) g.2))
    go_wp2_with fail
    go_ret2
    exact .inr ⟨by rw [E.out]; decide, by rw [E.out]; rfl, B4.out⟩
  have EL := Lib.hid (show ElL r.P r.Q S n from Classical.byContradiction fun g => by have := S4.out.2 g; cases this)
  have E := Lib.hid (show stripC r.P r.Q x K S n R n = 0 from fitC_ok ⟨FT1.out, FT2.out, rfl⟩ NL.out ⟨EK.out, EL.out⟩)
  clear S4
  have n32 : n ≤ 32 := FT2.out
  have n1 : 1 ≤ n := FT1.out
  have RG := Lib.hid (HRG.out.below B4.out)
  have LB := Lib.hid (HL.out.below B4.out)
  have SB := Lib.hid (HS.out.below B4.out)
  obtain ⟨b0, off, eA, hb0, hcell⟩ := LB.out.ex (by omega)
  subst eA
  obtain ⟨b1, off1, eR, hb1, rcell⟩ := SB.out.ex (by omega)
  subst eR
  have CL := Lib.hid hcell
  have CR := Lib.hid rcell
  have p0 := Lib.hid (show 0 < r.P by have := HRG.out.safe.p2; omega)
  have q0 := Lib.hid (show 0 < r.Q by have := HRG.out.safe.q1; omega)
  have lP := Lib.hid (show dr r.P ≤ 300 by have h1 := HRG.out.p.len_; have h2 := HRG.out.lp; omega)
  have lg : r.nG ≤ 300 := by rw [HRG.out.g.len_]; exact el_len HRG.out.el lP.out
  have lkk : mk ≤ 300 := by rw [KK4.out.len_]; exact el_len EK.out lP.out
  clear hcell rcell
  go_wp2_with fail
  obtain ⟨wb, rfl⟩ : ∃ wb, wb = w4 := ⟨_, rfl⟩
  go_loopw [15, 16] (fun v i wr => DlR (fun i => stripN r.P r.Q r.G x K (Trp.of (S i)) (R i).N) n wb v i wr) (fun _ i _ => n - (intOf i).toNat)
  case atStart => exact ⟨0, fun _ => ⟨none, 0, 0, 0⟩, Nat.zero_le _, rfl, Owc.nil _ _ _ _ _, fun p hp => absurd hp (by omega), fun p hp => absurd hp (Nat.not_lt_zero p), Below.refl _ _⟩
  case round =>
    obtain ⟨j, S', hj, rfl, hown, hcn, hT, hbl⟩ := hrel
    have HO := Lib.hid hown
    have HC := Lib.hid hcn
    have HT := Lib.hid hT
    have HBL := Lib.hid hbl
    clear hown hcn hT hbl
    rcases Nat.lt_or_ge j n with hlt | hge
    · --<L
      have hkn : (j : Int) < (n : Int) := by omega
      obtain ⟨y0, y1, y2⟩ := CL.out j hlt
      have z0 := CR.out j hlt
      obtain ⟨p1, p2, p3⟩ := LB.out.at_ j hlt
      have pr := SB.out.at_ j hlt
      obtain ⟨l1, l2, l3⟩ := HLI.out j hlt
      have lr := HSL.out j hlt
      have er : dl (R j).N ≤ 64 := Nat.not_lt.1 fun g => NLR.out ⟨j, hlt, g⟩
      have ee := EL.out j hlt
      obtain ⟨s, hs⟩ : ∃ s, S j = s := ⟨_, rfl⟩
      have HSJ := Lib.hid hs
      rw [hs] at y0 y1 y2 p1 p2 p3 l1 l2 l3 ee
      obtain ⟨A1, n1', c1, A2, n2, c2, A3, n3, c3, X1, X2, X3⟩ := s
      obtain ⟨sr, hsr⟩ : ∃ s, R j = s := ⟨_, rfl⟩
      have HRJ := Lib.hid hsr
      rw [hsr] at z0 pr lr er
      obtain ⟨A4, n4, c4, X4⟩ := sr
      simp only at y0 y1 y2 p1 p2 p3 l1 l2 l3 z0 pr lr er
      have m1 : n1' ≤ 1000 := by have := l1.1; omega
      have m2 : n2 ≤ 1000 := by have := l2.1; omega
      have m3 : n3 ≤ 1000 := by have := l3.1; omega
      have m4 : n4 ≤ 1000 := by have := lr.1; omega
      have E1 := Lib.hid (show El r.P r.Q X1 from ee.a)
      have E2 := Lib.hid (show El r.P r.Q X2 from ee.b)
      have E3 := Lib.hid (show El r.P r.Q X3 from ee.c)
      have D4 := Lib.hid (sh_len lr er pr.pos)
      have P1 := Lib.hid p1
      have P2 := Lib.hid p2
      have P3 := Lib.hid p3
      have P4 := Lib.hid pr
      have Y0 := Lib.hid y0
      have Y1 := Lib.hid y1
      have Y2 := Lib.hid y2
      have x0 := (HBL.out.cell (p := ⟨b0, off + j * 3, none⟩) hb0).trans Y0.out
      have ZR := Lib.hid z0
      clear p1 p2 p3 pr l1 l2 l3 lr er ee hs hsr y0 y1 y2 z0
      go_wp2_with fail
      refine (of_nm7 (P1.out.below HBL.out) m1).mono ?_
      rintro e u0 ⟨B0, d0, e0, rfl, k0, b0', -⟩
      have G0 := Lib.hid (HBL.out.trans (b0'.mono HBL.out.size))
      have qa0 : d0 ≤ 300 := by rw [k0.len_]; exact el_len E1.out lP.out
      have z0 := Lib.hid b0'.size
      have O0 := Lib.hid (HO.out.below b0')
      have KA0 := Lib.hid k0
      have zr := (G0.out.cell (p := ⟨b1, off1 + j, none⟩) hb1).trans ZR.out
      clear k0 b0' x0
      go_wp2_with fail
      refine (of_nm7 (P4.out.below G0.out) m4).mono ?_
      rintro e u1 ⟨B1, d1, e1, rfl, k1, b1', -⟩
      have G1 := Lib.hid (G0.out.trans (b1'.mono G0.out.size))
      have q1 : d1 ≤ 300 := by rw [k1.len_]; exact D4.out
      have z1 := Lib.hid (Nat.le_trans z0.out b1'.size)
      have O1 := Lib.hid (O0.out.below b1')
      have KA1 := Lib.hid (KA0.out.below b1')
      have K1 := Lib.hid k1
      have x1 := (G1.out.cell (p := ⟨b0, off + j * 3 + 1, none⟩) hb0).trans Y1.out
      clear k1 b1' zr
      go_wp2_with fail
      refine (of_nm7 (P2.out.below G1.out) m2).mono ?_
      rintro e v1 ⟨C1, f1, g1, rfl, k2, b2, -⟩
      have G2 := Lib.hid (G1.out.trans (b2.mono G1.out.size))
      have q2 : f1 ≤ 300 := by rw [k2.len_]; exact el_len E2.out lP.out
      have z2 := Lib.hid (Nat.le_trans z1.out b2.size)
      have O2 := Lib.hid (O1.out.below b2)
      have KA2 := Lib.hid (KA1.out.below b2)
      have KV2 := Lib.hid (K1.out.below b2)
      have KB2 := Lib.hid k2
      clear k2 b2 x1
      go_wp2_with fail
      refine (of_nm7 (HX.out.below (B4.out.trans (G2.out.mono B4.out.size))) nx3).mono ?_
      rintro e v2 ⟨C2, f2, g2, rfl, k3, b3, -⟩
      have G3 := Lib.hid (G2.out.trans (b3.mono G2.out.size))
      have q3 : f2 ≤ 300 := by rw [k3.len_]; exact DX.out
      have z3 := Lib.hid (Nat.le_trans z2.out b3.size)
      have O3 := Lib.hid (O2.out.below b3)
      have KA3 := Lib.hid (KA2.out.below b3)
      have KV3 := Lib.hid (KV2.out.below b3)
      have KB3 := Lib.hid (KB2.out.below b3)
      have KX3 := Lib.hid k3
      clear k3 b3
      go_wp2_with fail
      refine (rgx_any (RG.out.below G3.out).toRg RG.out.lp RG.out.lq p0.out q0.out KA3.out KX3.out qa0 (Nat.le_trans q3 (by decide))).mono ?_
      rintro e v3 ⟨C3, f3, g3, rfl, k4, b4⟩
      have G4 := Lib.hid (G3.out.trans (b4.mono G3.out.size))
      have EX := Lib.hid (gx_el HRG.out.safe.p2 HRG.out.safe.q1 E1.out x)
      have q4 : f3 ≤ 300 := by rw [k4.len_]; exact el_len EX.out lP.out
      have z4 := Lib.hid (Nat.le_trans z3.out b4.size)
      have O4 := Lib.hid (O3.out.below b4)
      have KA4 := Lib.hid (KA3.out.below b4)
      have KV4 := Lib.hid (KV3.out.below b4)
      have KB4 := Lib.hid (KB3.out.below b4)
      have KE4 := Lib.hid k4
      clear k4 b4
      go_wp2_with fail
      refine (rgi_any (RG.out.below G4.out).toRg RG.out.lp RG.out.lq p0.out HRG.out.safe.q1 KE4.out q4).mono ?_
      rintro e v4 ⟨C4, f4, g4, rfl, k5, b5⟩
      have G5 := Lib.hid (G4.out.trans (b5.mono G4.out.size))
      have EI := Lib.hid (EX.out.iv HRG.out.safe.p2 HRG.out.safe.q1)
      have q5 : f4 ≤ 300 := by rw [k5.len_]; exact el_len EI.out lP.out
      have z5 := Lib.hid (Nat.le_trans z4.out b5.size)
      have O5' := Lib.hid (O4.out.below b5)
      have KA5 := Lib.hid (KA4.out.below b5)
      have KV5 := Lib.hid (KV4.out.below b5)
      have KB5 := Lib.hid (KB4.out.below b5)
      have KI5 := Lib.hid k5
      clear k5 b5
      go_wp2_with fail
      refine (rgm_any (RG.out.below G5.out).toRg RG.out.lp p0.out KB5.out KI5.out q2 q5).mono ?_
      rintro e v5 ⟨C5, f5, g5, rfl, k6, b6⟩
      have G6 := Lib.hid (G5.out.trans (b6.mono G5.out.size))
      have EB := Lib.hid (E2.out.mul HRG.out.safe.p2 HRG.out.safe.q1 EI.out)
      have q6 : f5 ≤ 300 := by rw [k6.len_]; exact el_len EB.out lP.out
      have z6 := Lib.hid (Nat.le_trans z5.out b6.size)
      have O6 := Lib.hid (O5'.out.below b6)
      have KA6 := Lib.hid (KA5.out.below b6)
      have KV6 := Lib.hid (KV5.out.below b6)
      have KB6 := Lib.hid k6
      clear k6 b6
      go_wp2_with fail
      refine (rgx_any (RG.out.below G6.out).toRg RG.out.lp RG.out.lq p0.out q0.out (KK4.out.below G6.out) KV6.out lkk (Nat.le_trans q1 (by decide))).mono ?_
      rintro e v6 ⟨C6, f6, g6, rfl, k7, b7⟩
      have G7 := Lib.hid (G6.out.trans (b7.mono G6.out.size))
      have EN := Lib.hid (gx_el HRG.out.safe.p2 HRG.out.safe.q1 EK.out X4)
      have q7 : f6 ≤ 300 := by rw [k7.len_]; exact el_len EN.out lP.out
      have z7 := Lib.hid (Nat.le_trans z6.out b7.size)
      have O7 := Lib.hid (O6.out.below b7)
      have KA7 := Lib.hid (KA6.out.below b7)
      have KV7 := Lib.hid (KV6.out.below b7)
      have KB7 := Lib.hid (KB6.out.below b7)
      have KN7 := Lib.hid k7
      clear k7 b7
      go_wp2_with fail
      refine (rgm_any (RG.out.below G7.out).toRg RG.out.lp p0.out KB7.out KN7.out q6 q7).mono ?_
      rintro e v7 ⟨C7, f7, g7, rfl, k8, b8⟩
      have G8 := Lib.hid (G7.out.trans (b8.mono G7.out.size))
      have EBB := Lib.hid (EB.out.mul HRG.out.safe.p2 HRG.out.safe.q1 EN.out)
      have q8 : f7 ≤ 300 := by rw [k8.len_]; exact el_len EBB.out lP.out
      have z8 := Lib.hid (Nat.le_trans z7.out b8.size)
      have O8 := Lib.hid (O7.out.below b8)
      have KA8 := Lib.hid (KA7.out.below b8)
      have KV8 := Lib.hid (KV7.out.below b8)
      have KB8 := Lib.hid k8
      clear k8 b8
      have bd := below_dr v7
      have GD := Lib.hid (G8.out.trans (bd.mono G8.out.size))
      have KAd := Lib.hid (KA8.out.below bd)
      have KVd := Lib.hid (KV8.out.below bd)
      have KBd := Lib.hid (KB8.out.below bd)
      have OD := Lib.hid (O8.out.below bd)
      have zd := Lib.hid (Nat.le_trans z8.out bd.size)
      have x2 := (GD.out.cell (p := ⟨b0, off + j * 3 + 2, none⟩) hb0).trans Y2.out
      have xg := (RG.out.below GD.out).toRg.c2
      clear bd
      go_wp2_with fail
      go_region_law (first
        | (go_simp; go_at_call 51; (with_reducible refine (of_nm7 (P3.out.below GD.out) m3).mono ?_); rintro e t1 ⟨H1, i1, l1, rfl, k2, b2, -⟩; have GE := Lib.hid (GD.out.trans (b2.mono GD.out.size)); have xg1 := (RG.out.below GE.out).toRg.c2; have KC := Lib.hid k2; have KAe := Lib.hid (KAd.out.below b2); have KVe := Lib.hid (KVd.out.below b2); have KBe := Lib.hid (KBd.out.below b2); have OE := Lib.hid (OD.out.below b2); have ze := Lib.hid (Nat.le_trans zd.out b2.size); have qa : i1 ≤ 300 := (by rw [k2.len_]; exact el_len E3.out lP.out); clear k2 b2)
        | (go_simp; go_at_call 54; (with_reducible refine (rgx_any (RG.out.below GE.out).toRg RG.out.lp RG.out.lq p0.out q0.out (RG.out.below GE.out).g KVe.out lg (Nat.le_trans q1 (by decide))).mono ?_); rintro e t2 ⟨H2, i2, l2, rfl, k3, b3⟩; have GF := Lib.hid (GE.out.trans (b3.mono GE.out.size)); have KG := Lib.hid k3; have KCf := Lib.hid (KC.out.below b3); have KAf := Lib.hid (KAe.out.below b3); have KBf := Lib.hid (KBe.out.below b3); have OF := Lib.hid (OE.out.below b3); have zf := Lib.hid (Nat.le_trans ze.out b3.size); have qb : i2 ≤ 300 := (by rw [k3.len_]; exact el_len (gx_el HRG.out.safe.p2 HRG.out.safe.q1 HRG.out.el X4) lP.out); clear k3 b3)
        | (go_simp; go_at_call 55; (with_reducible refine (rgm_any (RG.out.below GF.out).toRg RG.out.lp p0.out KCf.out KG.out qa qb).mono ?_); rintro e t3 ⟨H3, i3, l3, rfl, k4, b4⟩; have GG := Lib.hid (GF.out.trans (b4.mono GF.out.size)); have KCg := Lib.hid k4; have KAg := Lib.hid (KAf.out.below b4); have KBg := Lib.hid (KBf.out.below b4); have OG := Lib.hid (OF.out.below b4); have zg := Lib.hid (Nat.le_trans zf.out b4.size); have qc : i3 ≤ 300 := (by rw [k4.len_]; exact el_len (E3.out.mul HRG.out.safe.p2 HRG.out.safe.q1 (gx_el HRG.out.safe.p2 HRG.out.safe.q1 HRG.out.el X4)) lP.out); clear k4 b4))
      all_goals
        clear x2 xg
        go_wp2_with fail
        refine (told7_any KAg.out KBg.out KCg.out (by omega) (by omega) (by omega)).mono ?_
        rintro e v8 ⟨⟨D1, h1, i1', D2, h2, i2', D3, h3, i3', j1, j2, j3⟩, rfl, t4, t5, t6, w4, w5, w6, b9⟩
        have T4 := Lib.hid t4
        have T5 := Lib.hid t5
        have T6 := Lib.hid t6
        have GL := Lib.hid (GG.out.trans (b9.mono GG.out.size))
        obtain ⟨YB, hYB⟩ : ∃ YB, X2 * iv r.P r.Q (gx r.P r.Q X1 x) % r.P * gx r.P r.Q K X4 % r.P = YB := ⟨_, rfl⟩
        have HYB := Lib.hid hYB
        rw [hYB] at t5 T5
        have U1 := Lib.hid (tri_cell v8 61 ⟨D1, h1, i1', D2, h2, i2', D3, h3, i3', X1, YB, X3 * gx r.P r.Q r.G X4 % r.P⟩)
        have U2 := Lib.hid (tri_nm (w := v8) (o := .cells #[.slice D1 h1 i1', .slice D2 h2 i2', .slice D3 h3 i3'] 61) ⟨D1, h1, i1', D2, h2, i2', D3, h3, i3', X1, YB, X3 * gx r.P r.Q r.G X4 % r.P⟩ t4.nm t5.nm t6.nm)
        have U3 := Lib.hid (tri_far HO.out zg.out ⟨D1, h1, i1', D2, h2, i2', D3, h3, i3', X1, YB, X3 * gx r.P r.Q r.G X4 % r.P⟩ w4 w5 w6)
        have O5 := Lib.hid ((OG.out.below b9).below (below_al v8 (.cells #[.slice D1 h1 i1', .slice D2 h2 i2', .slice D3 h3 i3'] 61)))
        have hb5 : wb.heap.size ≤ (v8.alloc (.cells #[.slice D1 h1 i1', .slice D2 h2 i2', .slice D3 h3 i3'] 61)).heap.size := Nat.le_trans GL.out.size (by simp)
        clear t4 t5 t6 w4 w5 w6 b9 qa qb qc q2 q3 q4 q5 q6 q7 q8 qa0 hYB
        go_wp2_with (at_builtin; refine wpList_owc rfl (.tmp 100) (.tmp 106) 25 rfl wb.heap.size 61 3 72 (.agg #[.slice none 0 0, .slice none 0 0, .slice none 0 0]) Tryz.underlying25 info_pair rfl (by decide) _ j 1 1 S' (tri ⟨D1, h1, i1', D2, h2, i2', D3, h3, i3', X1, YB, X3 * gx r.P r.Q r.G X4 % r.P⟩) rfl O5.out v8.heap.size rfl U1.out U2.out U3.out (by decide) (by unfold maxLen; omega) (by omega) hb5 ?_)
        intro vz wz hownz hgz
        have HOZ := Lib.hid hownz
        have GZ := Lib.hid ((GL.out.trans ((below_al v8 (.cells #[.slice D1 h1 i1', .slice D2 h2 i2', .slice D3 h3 i3'] 61)).mono GL.out.size)).grown hgz hb5 (fun b e => (HO.out.lt e).1))
        have NX := Lib.hid (DlR.next (w := wb) (n := n) (T := fun i => stripN r.P r.Q r.G x K (Trp.of (S i)) (R i).N) (s := ⟨D1, h1, i1', D2, h2, i2', D3, h3, i3', X1, YB, X3 * gx r.P r.Q r.G X4 % r.P⟩) HC.out HT.out T4.out.len_ T5.out.len_ T6.out.len_ (by show _ = stripN r.P r.Q r.G x K (Trp.of (S j)) (R j).N; rw [HSJ.out, HRJ.out, ← HYB.out]; rfl))
        clear hownz hgz hb5
        go_wp2_with fail
        go_roundw
        case rel => exact ⟨j + 1, _, by omega, by go_num, HOZ.out, NX.out.1, NX.out.2, GZ.out⟩
        case measure => simp [intOf]; omega
      --L>
    · obtain rfl : j = n := by omega
      have hkn : decide ((j : Int) < (j : Int)) = false := by simp
      obtain ⟨A1, c1, rfl, S1, f1, f2, f3, f4⟩ := DlR.det HO.out h60 HC.out HT.out HBL.out
      have F1 := Lib.hid f1
      have F2 := Lib.hid f2
      have F3 := Lib.hid f3
      have F4 := Lib.hid (B4.out.trans (f4.mono B4.out.size))
      clear f1 f2 f3 f4
      go_wp2_with fail
      go_ret2
      exact .inl ⟨E.out, A1, c1, S1, rfl, F1.out, F2.out, F3.out, F4.out⟩
end Go.Proofs.YtpmnghealjgkeaaGreat
