/-
  The document's layer 7: what Anew answers.
-/
import Derived.Test.YtpmnghealjgkeaaGreatR7u
import Derived.Test.YtpmnghealjgkeaaGreatR4M
namespace Go.Proofs.YtpmnghealjgkeaaGreat
open Go.RowKit
set_option linter.unusedVariables false
/-- A letter of the document's, as it grows, all of it in new memory. -/
def DlW (T : Nat → Trp) (n : Nat) (w : World) (v i : Value) (wr : World) : Prop :=
  ∃ (j : Nat) (S' : Nat → Nsl), j ≤ n ∧ i = .int .i64 j ∧ Owc 61 3 wr w.heap.size v j S' ∧ (∀ p, p < j * 3 → (S' p).n = dl (S' p).N ∧ ∀ a, (S' p).A = some a → w.heap.size ≤ a.block) ∧ (∀ p, p < j → Trp.of (stpS S' p) = T p) ∧ Below w.heap.size w wr
theorem tri_new {m m' : Nat} (hm : m' ≤ m) (s : Stp) (h1 : ∀ a, s.A1 = some a → m ≤ a.block) (h2 : ∀ a, s.A2 = some a → m ≤ a.block) (h3 : ∀ a, s.A3 = some a → m ≤ a.block) : ∀ i, i < 3 → ∀ a, (tri s i).A = some a → m' ≤ a.block := by
  intro i hi a ha
  rcases (show i = 0 ∨ i = 1 ∨ i = 2 by omega) with q | q | q <;> subst q
  · exact Nat.le_trans hm (h1 a ha)
  · exact Nat.le_trans hm (h2 a ha)
  · exact Nat.le_trans hm (h3 a ha)
theorem DlW.next {T : Nat → Trp} {n j : Nat} {w : World} {S' : Nat → Nsl} {s : Stp} (hc : ∀ p, p < j * 3 → (S' p).n = dl (S' p).N ∧ ∀ a, (S' p).A = some a → w.heap.size ≤ a.block) (hT : ∀ p, p < j → Trp.of (stpS S' p) = T p) (h1 : s.n1 = dl s.P) (h2 : s.n2 = dl s.Q) (h3 : s.n3 = dl s.A)
    (hw : ∀ i, i < 3 → ∀ a, (tri s i).A = some a → w.heap.size ≤ a.block) (ht : Trp.of s = T j) :
    (∀ p, p < (j + 1) * 3 → (joinS S' (tri s) (j * 3) p).n = dl (joinS S' (tri s) (j * 3) p).N ∧ ∀ a, (joinS S' (tri s) (j * 3) p).A = some a → w.heap.size ≤ a.block) ∧ ∀ p, p < j + 1 → Trp.of (stpS (joinS S' (tri s) (j * 3)) p) = T p := by
  obtain ⟨k1, k2⟩ := DlR.next (w := w) (n := n) (fun p hp => (hc p hp).1) hT h1 h2 h3 ht
  refine ⟨fun p hp => ⟨k1 p hp, ?_⟩, k2⟩
  rcases Nat.lt_or_ge p (j * 3) with g | g
  · rw [joinS_lt g]; exact (hc p g).2
  · obtain ⟨i, rfl⟩ : ∃ i, p = j * 3 + i := ⟨p - j * 3, by omega⟩
    rw [joinS_ge]
    exact hw i (by omega)
theorem DlW.det {T : Nat → Trp} {n : Nat} {w wr : World} {v : Value} {S' : Nat → Nsl} (ho : Owc 61 3 wr w.heap.size v n S') (h60 : n ≤ 17592186044416) (hc : ∀ p, p < n * 3 → (S' p).n = dl (S' p).N ∧ ∀ a, (S' p).A = some a → w.heap.size ≤ a.block) (hT : ∀ p, p < n → Trp.of (stpS S' p) = T p) (hb : Below w.heap.size w wr) :
    ∃ A c, v = .slice A n c ∧ ∃ S, Lo wr w.heap.size A n c S ∧ (∀ i, i < n → Trp.of (S i) = T i) ∧ Below w.heap.size w wr := by
  obtain ⟨A, c, rfl, hA, hch⟩ := ho.ch h60
  exact ⟨A, c, rfl, stpS S', ⟨hch, fun i hi => ⟨(hc (i * 3) (by omega)).1, (hc (i * 3 + 1) (by omega)).1, (hc (i * 3 + 2) (by omega)).1⟩, hA, fun i hi => ⟨(hc (i * 3) (by omega)).2, (hc (i * 3 + 1) (by omega)).2, (hc (i * 3 + 2) (by omega)).2⟩⟩, hT, hb⟩
/-- A letter of the document's, all of it in new memory, or a number. -/
def DetL (code : Int) (T : Nat → Trp) (n : Nat) (w : World) (e : Ending) (w' : World) : Prop :=
  (code = 0 ∧ ∃ A c S, e = .returned (.tuple #[.slice A n c, .int .i64 0]) ∧ Lo w' w.heap.size A n c S ∧ (∀ i, i < n → Trp.of (S i) = T i) ∧ Below w.heap.size w w') ∨
  (code ≠ 0 ∧ e = .returned (.tuple #[.slice none 0 0, .int .i64 code]) ∧ Below w.heap.size w w')
theorem DetL.p {code : Int} {T : Nat → Trp} {n : Nat} {w w' : World} {e : Ending} (h : DetL code T n w e w') : DetP code T n w e w' := by
  rcases h with ⟨h0, A, c, S, h1, h2, h3, h4⟩ | h
  · exact .inl ⟨h0, A, c, S, h1, h2.ch, h2.can, h3, h4⟩
  · exact .inr h
theorem el_len {P Q X : Int} {n : Nat} (h : El P Q X) (hP : dr P ≤ n) : dr X ≤ n := Nat.le_trans (dr_mono (by have := h.1; omega) (Int.le_of_lt h.2.1)) hP
/-- A short number. -/
theorem sh_len {X : Int} {n : Nat} (hl : Li n X) (h64 : dl X ≤ 64) (h0 : 0 ≤ X) : dr X ≤ 300 := by
  rcases dr_li hl h0 with g | g
  · exact g
  · have := lt_dl h0 h64; omega
set_option maxHeartbeats 32000000 in
set_option maxRecDepth 100000 in
theorem ranew7_lo {w : World} {b k : Nat} {r : Rgd} {Ak A Ar : Option Addr} {nk ck n c nr cr : Nat} {K : Int} {S : Nat → Stp} {R : Nat → Nsl} (h : Rg7 w b r k) (hk : Nm w Ak nk ck K) (lk : Li nk K) (hl : Ch w A n c S) (hL : ∀ i, i < n → LiS (S i)) (hr : Ns w Ar nr cr R) (hR : LiN R nr) :
    Calls Tryz.prog 19 #[.pointer (some ⟨b, 0, none⟩), .slice Ak nk ck, .slice A n c, .slice Ar nr cr] w (DetL (anewC r.P r.Q K S n R nr) (fun i => anewN r.P r.Q r.G K (Trp.of (S i)) (R i).N) n w) := by
  have HRG := Lib.hid h
  have HK := Lib.hid hk
  have LK := Lib.hid lk
  have HL := Lib.hid hl
  have HLI := Lib.hid hL
  have HS := Lib.hid hr
  have HSL := Lib.hid hR
  have h60 := hl.c60
  have r60 := hr.c60
  have nk3 : nk ≤ 1000 := by have := lk.1; omega
  clear h hk lk hl hL hr hR
  go_enter Tryz.func19, Tryz.ntmps19
  go_wp2_with fail
  refine (fits7_any n nr h60 r60 w).mono ?_
  rintro e w1 ⟨⟨s1, rfl, hs1⟩, rfl⟩
  have S1 := Lib.hid hs1
  clear hs1
  cases s1
  · have E := Lib.hid (show anewC r.P r.Q K S n R nr = 1 from fitC_arg (fun g => by have := S1.out.2 g; cases this))
    go_wp2_with fail
    go_ret2
    exact .inr ⟨by rw [E.out]; decide, by rw [E.out]; rfl, Below.refl _ _⟩
  have FT := Lib.hid (S1.out.1 rfl)
  obtain rfl : n = nr := FT.out.2.2
  have FT1 := Lib.hid FT.out.1
  have FT2 := Lib.hid FT.out.2.1
  have FTT := Lib.hid (show Nonempty (PLift (1 ≤ n ∧ n ≤ 32 ∧ n = n)) from ⟨⟨FT.out.1, FT.out.2.1, rfl⟩⟩)
  clear FT S1
  go_wp2_with fail
  refine (longs7_any HS.out).mono ?_
  rintro e w1 ⟨⟨s2, rfl, hs2⟩, rfl⟩
  have S2 := Lib.hid hs2
  clear hs2
  cases s2
  case true =>
    have E := Lib.hid (show anewC r.P r.Q K S n R n = 2 from fitC_long ⟨FT1.out, FT2.out, rfl⟩ (S2.out.1 rfl))
    go_wp2_with fail
    go_ret2
    exact .inr ⟨by rw [E.out]; decide, by rw [E.out]; rfl, Below.refl _ _⟩
  have NL := Lib.hid (show ¬ LgS R n from fun g => by have := S2.out.2 g; cases this)
  clear S2
  go_wp2_with fail
  refine (of_nm7 HK.out nk3).mono ?_
  rintro e w2 ⟨BK, mk, dk, rfl, kk, b2, -⟩
  have KK := Lib.hid kk
  have B2 := Lib.hid b2
  clear kk b2
  obtain ⟨s3, hs3⟩ := el_bool r.P r.Q K
  have S3 := Lib.hid hs3
  clear hs3
  go_wp2_with fail
  refine (is7_any (HRG.out.below B2.out) LK.out KK.out (by rw [KK.out.len_]; exact li_dr LK.out HK.out) s3 S3.out).mono ?_
  rintro e w3 ⟨rfl, b3⟩
  have KK3 := Lib.hid (KK.out.below b3)
  have B3 := Lib.hid (B2.out.trans (b3.mono B2.out.size))
  clear b3 KK B2
  cases s3
  · have E := Lib.hid (show anewC r.P r.Q K S n R n = 8 from fitC_no ⟨FT1.out, FT2.out, rfl⟩ NL.out (fun g => by have := S3.out.2 g.1; cases this))
    go_wp2_with fail
    go_ret2
    exact .inr ⟨by rw [E.out]; decide, by rw [E.out]; rfl, B3.out⟩
  have EK := Lib.hid (S3.out.1 rfl)
  clear S3
  go_wp2_with fail
  refine (odd7_any (HRG.out.below B3.out) (HL.out.below B3.out) HLI.out).mono ?_
  rintro e w4 ⟨⟨s4, rfl, hs4⟩, b4⟩
  have S4 := Lib.hid hs4
  have KK4 := Lib.hid (KK3.out.below b4)
  have B4 := Lib.hid (B3.out.trans (b4.mono B3.out.size))
  clear hs4 b4 KK3 B3
  cases s4
  case true =>
    have E := Lib.hid (show anewC r.P r.Q K S n R n = 8 from fitC_no ⟨FT1.out, FT2.out, rfl⟩ NL.out (fun g => (S4.out.1 rfl) g.2))
    go_wp2_with fail
    go_ret2
    exact .inr ⟨by rw [E.out]; decide, by rw [E.out]; rfl, B4.out⟩
  have EL := Lib.hid (show ElL r.P r.Q S n from Classical.byContradiction fun g => by have := S4.out.2 g; cases this)
  have E := Lib.hid (show anewC r.P r.Q K S n R n = 0 from fitC_ok ⟨FT1.out, FT2.out, rfl⟩ NL.out ⟨EK.out, EL.out⟩)
  clear S4
  have n32 : n ≤ 32 := FT2.out
  have n1 : 1 ≤ n := FT1.out
  have RG := Lib.hid (HRG.out.below B4.out)
  have LB := Lib.hid (HL.out.below B4.out)
  have SB := Lib.hid (HS.out.below B4.out)
  obtain ⟨b0, off, eA, hb0, hcell⟩ := LB.out.ex (by omega)
  subst eA
  obtain ⟨b1, off1, eR, hb1, rcell⟩ := SB.out.ex (by omega)
  subst eR
  have CL := Lib.hid hcell
  have CR := Lib.hid rcell
  have p0 := Lib.hid (show 0 < r.P by have := HRG.out.safe.p2; omega)
  have q0 := Lib.hid (show 0 < r.Q by have := HRG.out.safe.q1; omega)
  have lP := Lib.hid (show dr r.P ≤ 300 by have h1 := HRG.out.p.len_; have h2 := HRG.out.lp; omega)
  have lg : r.nG ≤ 300 := by rw [HRG.out.g.len_]; exact el_len HRG.out.el lP.out
  have lkk : mk ≤ 300 := by rw [KK4.out.len_]; exact el_len EK.out lP.out
  clear hcell rcell
  go_wp2_with fail
  obtain ⟨wb, rfl⟩ : ∃ wb, wb = w4 := ⟨_, rfl⟩
  go_loopw [13, 14] (fun v i wr => DlW (fun i => anewN r.P r.Q r.G K (Trp.of (S i)) (R i).N) n wb v i wr) (fun _ i _ => n - (intOf i).toNat)
  case atStart => exact ⟨0, fun _ => ⟨none, 0, 0, 0⟩, Nat.zero_le _, rfl, Owc.nil _ _ _ _ _, fun p hp => absurd hp (by omega), fun p hp => absurd hp (Nat.not_lt_zero p), Below.refl _ _⟩
  case round =>
    obtain ⟨j, S', hj, rfl, hown, hcn, hT, hbl⟩ := hrel
    have HO := Lib.hid hown
    have HC := Lib.hid hcn
    have HT := Lib.hid hT
    have HBL := Lib.hid hbl
    clear hown hcn hT hbl
    rcases Nat.lt_or_ge j n with hlt | hge
    · --<L
      have hkn : (j : Int) < (n : Int) := by omega
      obtain ⟨y0, y1, y2⟩ := CL.out j hlt
      have z0 := CR.out j hlt
      obtain ⟨p1, p2, p3⟩ := LB.out.at_ j hlt
      have pr := SB.out.at_ j hlt
      obtain ⟨l1, l2, l3⟩ := HLI.out j hlt
      have lr := HSL.out j hlt
      have er : dl (R j).N ≤ 64 := Nat.not_lt.1 fun g => NL.out ⟨j, hlt, g⟩
      have ee := EL.out j hlt
      obtain ⟨s, hs⟩ : ∃ s, S j = s := ⟨_, rfl⟩
      have HSJ := Lib.hid hs
      rw [hs] at y0 y1 y2 p1 p2 p3 l1 l2 l3 ee
      obtain ⟨A1, n1', c1, A2, n2, c2, A3, n3, c3, X1, X2, X3⟩ := s
      obtain ⟨sr, hsr⟩ : ∃ s, R j = s := ⟨_, rfl⟩
      have HRJ := Lib.hid hsr
      rw [hsr] at z0 pr lr er
      obtain ⟨A4, n4, c4, X4⟩ := sr
      simp only at y0 y1 y2 p1 p2 p3 l1 l2 l3 z0 pr lr er
      have m1 : n1' ≤ 1000 := by have := l1.1; omega
      have m2 : n2 ≤ 1000 := by have := l2.1; omega
      have m3 : n3 ≤ 1000 := by have := l3.1; omega
      have m4 : n4 ≤ 1000 := by have := lr.1; omega
      have E1 := Lib.hid (show El r.P r.Q X1 from ee.a)
      have E2 := Lib.hid (show El r.P r.Q X2 from ee.b)
      have E3 := Lib.hid (show El r.P r.Q X3 from ee.c)
      have D4 := Lib.hid (sh_len lr er pr.pos)
      have P1 := Lib.hid p1
      have P2 := Lib.hid p2
      have P3 := Lib.hid p3
      have P4 := Lib.hid pr
      have Y0 := Lib.hid y0
      have Y1 := Lib.hid y1
      have Y2 := Lib.hid y2
      have zr := (HBL.out.cell (p := ⟨b1, off1 + j, none⟩) hb1).trans z0
      clear p1 p2 p3 pr l1 l2 l3 lr er ee hs hsr y0 y1 y2 z0
      go_wp2_with fail
      refine (of_nm7 (P4.out.below HBL.out) m4).mono ?_
      rintro e u1 ⟨B1, d1, e1, rfl, k1, b1', -⟩
      have G1 := Lib.hid (HBL.out.trans (b1'.mono HBL.out.size))
      have q1 : d1 ≤ 300 := by rw [k1.len_]; exact D4.out
      have z1 := Lib.hid b1'.size
      have O1 := Lib.hid (HO.out.below b1')
      have K1 := Lib.hid k1
      clear k1 b1' zr
      -- a: of A, G's power, their product
      have bd := below_dr u1
      have GD := Lib.hid (G1.out.trans (bd.mono G1.out.size))
      have KD := Lib.hid (K1.out.below bd)
      have OD := Lib.hid (O1.out.below bd)
      have zd := Lib.hid (Nat.le_trans z1.out bd.size)
      have x0 := (GD.out.cell (p := ⟨b0, off + j * 3, none⟩) hb0).trans Y0.out
      have xg := (RG.out.below GD.out).toRg.c2
      clear bd
      go_wp2_with fail
      go_region_law (first
        | (go_simp; go_at_call 51; (with_reducible refine (of_nm7 (P1.out.below GD.out) m1).mono ?_); rintro e v1 ⟨C1, f1, g1, rfl, k2, b2, -⟩; have GE := Lib.hid (GD.out.trans (b2.mono GD.out.size)); have xg1 := (RG.out.below GE.out).toRg.c2; have KA := Lib.hid k2; have KE := Lib.hid (KD.out.below b2); have OE := Lib.hid (OD.out.below b2); have ze := Lib.hid (Nat.le_trans zd.out b2.size); have qa : f1 ≤ 300 := (by rw [k2.len_]; exact el_len E1.out lP.out); clear k2 b2)
        | (go_simp; go_at_call 54; (with_reducible refine (rgx_any (RG.out.below GE.out).toRg RG.out.lp RG.out.lq p0.out q0.out (RG.out.below GE.out).g KE.out lg (Nat.le_trans q1 (by decide))).mono ?_); rintro e v2 ⟨C2, f2, g2, rfl, k3, b3⟩; have GF := Lib.hid (GE.out.trans (b3.mono GE.out.size)); have KB := Lib.hid k3; have KA2 := Lib.hid (KA.out.below b3); have KF := Lib.hid (KE.out.below b3); have OF := Lib.hid (OE.out.below b3); have zf := Lib.hid (Nat.le_trans ze.out b3.size); have qb : f2 ≤ 300 := (by rw [k3.len_]; exact el_len (gx_el HRG.out.safe.p2 HRG.out.safe.q1 HRG.out.el X4) lP.out); clear k3 b3)
        | (go_simp; go_at_call 55; (with_reducible refine (rgm_any (RG.out.below GF.out).toRg RG.out.lp p0.out KA2.out KB.out qa qb).mono ?_); rintro e v3 ⟨C3, f3, g3, rfl, k4, b4⟩; have GG := Lib.hid (GF.out.trans (b4.mono GF.out.size)); have KC := Lib.hid k4; have KG := Lib.hid (KF.out.below b4); have OG := Lib.hid (OF.out.below b4); have zg := Lib.hid (Nat.le_trans zf.out b4.size); have qc : f3 ≤ 300 := (by rw [k4.len_]; exact el_len (E1.out.mul HRG.out.safe.p2 HRG.out.safe.q1 (gx_el HRG.out.safe.p2 HRG.out.safe.q1 HRG.out.el X4)) lP.out); have x1 := (GG.out.cell (p := ⟨b0, off + j * 3 + 1, none⟩) hb0).trans Y1.out; clear k4 b4))
      all_goals
        clear x0 xg
        go_wp2_with fail
        refine (of_nm7 (P2.out.below GG.out) m2).mono ?_
        rintro e v4 ⟨C4, f4, g4, rfl, k5, b5, -⟩
        have GH := Lib.hid (GG.out.trans (b5.mono GG.out.size))
        have KH := Lib.hid k5
        have KS := Lib.hid (KG.out.below b5)
        have KC1 := Lib.hid (KC.out.below b5)
        have OH := Lib.hid (OG.out.below b5)
        have zh := Lib.hid (Nat.le_trans zg.out b5.size)
        have qd : f4 ≤ 300 := by rw [k5.len_]; exact el_len E2.out lP.out
        clear k5 b5 x1
        go_wp2_with fail
        refine (rgx_any (RG.out.below GH.out).toRg RG.out.lp RG.out.lq p0.out q0.out (KK4.out.below GH.out) KS.out lkk (Nat.le_trans q1 (by decide))).mono ?_
        rintro e v5 ⟨C5, f5, g5, rfl, k6, b6⟩
        have GI := Lib.hid (GH.out.trans (b6.mono GH.out.size))
        have KI := Lib.hid k6
        have KH1 := Lib.hid (KH.out.below b6)
        have KC2 := Lib.hid (KC1.out.below b6)
        have OI := Lib.hid (OH.out.below b6)
        have zi := Lib.hid (Nat.le_trans zh.out b6.size)
        have qe : f5 ≤ 300 := by rw [k6.len_]; exact el_len (gx_el HRG.out.safe.p2 HRG.out.safe.q1 EK.out X4) lP.out
        clear k6 b6
        go_wp2_with fail
        refine (rgm_any (RG.out.below GI.out).toRg RG.out.lp p0.out KH1.out KI.out qd qe).mono ?_
        rintro e v6 ⟨C6, f6, g6, rfl, k7, b7⟩
        have GJ := Lib.hid (GI.out.trans (b7.mono GI.out.size))
        have KJ := Lib.hid k7
        have KC3 := Lib.hid (KC2.out.below b7)
        have OJ := Lib.hid (OI.out.below b7)
        have zj := Lib.hid (Nat.le_trans zi.out b7.size)
        have qf : f6 ≤ 300 := by rw [k7.len_]; exact el_len (E2.out.mul HRG.out.safe.p2 HRG.out.safe.q1 (gx_el HRG.out.safe.p2 HRG.out.safe.q1 EK.out X4)) lP.out
        have x2 := (GJ.out.cell (p := ⟨b0, off + j * 3 + 2, none⟩) hb0).trans Y2.out
        clear k7 b7
        go_wp2_with fail
        refine (of_nm7 (P3.out.below GJ.out) m3).mono ?_
        rintro e v7 ⟨C7, f7, g7, rfl, k8, b8, -⟩
        have GK := Lib.hid (GJ.out.trans (b8.mono GJ.out.size))
        have KL := Lib.hid k8
        have KJ1 := Lib.hid (KJ.out.below b8)
        have KC4 := Lib.hid (KC3.out.below b8)
        have OK := Lib.hid (OJ.out.below b8)
        have zk := Lib.hid (Nat.le_trans zj.out b8.size)
        have qg : f7 ≤ 300 := by rw [k8.len_]; exact el_len E3.out lP.out
        clear k8 b8 x2
        go_wp2_with fail
        refine (told7_any KC4.out KJ1.out KL.out (by omega) (by omega) (by omega)).mono ?_
        rintro e v8 ⟨⟨D1, h1, i1, D2, h2, i2, D3, h3, i3, j1, j2, j3⟩, rfl, t4, t5, t6, w4, w5, w6, b9⟩
        have T4 := Lib.hid t4
        have T5 := Lib.hid t5
        have T6 := Lib.hid t6
        have GL := Lib.hid (GK.out.trans (b9.mono GK.out.size))
        have U1 := Lib.hid (tri_cell v8 61 ⟨D1, h1, i1, D2, h2, i2, D3, h3, i3, X1 * gx r.P r.Q r.G X4 % r.P, X2 * gx r.P r.Q K X4 % r.P, X3⟩)
        have U2 := Lib.hid (tri_nm (w := v8) (o := .cells #[.slice D1 h1 i1, .slice D2 h2 i2, .slice D3 h3 i3] 61) ⟨D1, h1, i1, D2, h2, i2, D3, h3, i3, X1 * gx r.P r.Q r.G X4 % r.P, X2 * gx r.P r.Q K X4 % r.P, X3⟩ t4.nm t5.nm t6.nm)
        have U3 := Lib.hid (tri_far HO.out zk.out ⟨D1, h1, i1, D2, h2, i2, D3, h3, i3, X1 * gx r.P r.Q r.G X4 % r.P, X2 * gx r.P r.Q K X4 % r.P, X3⟩ w4 w5 w6)
        have NW := Lib.hid (tri_new (Nat.le_trans HBL.out.size zk.out) ⟨D1, h1, i1, D2, h2, i2, D3, h3, i3, X1 * gx r.P r.Q r.G X4 % r.P, X2 * gx r.P r.Q K X4 % r.P, X3⟩ w4 w5 w6)
        have O5 := Lib.hid ((OK.out.below b9).below (below_al v8 (.cells #[.slice D1 h1 i1, .slice D2 h2 i2, .slice D3 h3 i3] 61)))
        have hb5 : wb.heap.size ≤ (v8.alloc (.cells #[.slice D1 h1 i1, .slice D2 h2 i2, .slice D3 h3 i3] 61)).heap.size := Nat.le_trans GL.out.size (by simp)
        clear t4 t5 t6 w4 w5 w6 b9 qa qb qc qd qe qf qg
        go_wp2_with (at_builtin; refine wpList_owc rfl (.tmp 77) (.tmp 88) 25 rfl wb.heap.size 61 3 72 (.agg #[.slice none 0 0, .slice none 0 0, .slice none 0 0]) Tryz.underlying25 info_pair rfl (by decide) _ j 1 1 S' (tri ⟨D1, h1, i1, D2, h2, i2, D3, h3, i3, X1 * gx r.P r.Q r.G X4 % r.P, X2 * gx r.P r.Q K X4 % r.P, X3⟩) rfl O5.out v8.heap.size rfl U1.out U2.out U3.out (by decide) (by unfold maxLen; omega) (by omega) hb5 ?_)
        intro vz wz hownz hgz
        have HOZ := Lib.hid hownz
        have G5 := Lib.hid ((GL.out.trans ((below_al v8 (.cells #[.slice D1 h1 i1, .slice D2 h2 i2, .slice D3 h3 i3] 61)).mono GL.out.size)).grown hgz hb5 (fun b e => (HO.out.lt e).1))
        have NX := Lib.hid (DlW.next (w := wb) (n := n) (T := fun i => anewN r.P r.Q r.G K (Trp.of (S i)) (R i).N) (s := ⟨D1, h1, i1, D2, h2, i2, D3, h3, i3, X1 * gx r.P r.Q r.G X4 % r.P, X2 * gx r.P r.Q K X4 % r.P, X3⟩) HC.out HT.out T4.out.len_ T5.out.len_ T6.out.len_ NW.out (by show _ = anewN r.P r.Q r.G K (Trp.of (S j)) (R j).N; rw [HSJ.out, HRJ.out]; rfl))
        clear hownz hgz hb5
        go_wp2_with fail
        go_roundw
        case rel => exact ⟨j + 1, _, by omega, by go_num, HOZ.out, NX.out.1, NX.out.2, G5.out⟩
        case measure => simp [intOf]; omega
      --L>
    · obtain rfl : j = n := by omega
      have hkn : decide ((j : Int) < (j : Int)) = false := by simp
      obtain ⟨A1, c1, rfl, S1, f1, f3, f4⟩ := DlW.det HO.out h60 HC.out HT.out HBL.out
      have F1 := Lib.hid (f1.base B4.out.size)
      have F3 := Lib.hid f3
      have F4 := Lib.hid (B4.out.trans (f4.mono B4.out.size))
      clear f1 f3 f4
      go_wp2_with fail
      go_ret2
      exact .inl ⟨E.out, A1, c1, S1, rfl, F1.out, F3.out, F4.out⟩
theorem ranew7_any {w : World} {b k : Nat} {r : Rgd} {Ak A Ar : Option Addr} {nk ck n c nr cr : Nat} {K : Int} {S : Nat → Stp} {R : Nat → Nsl} (h : Rg7 w b r k) (hk : Nm w Ak nk ck K) (lk : Li nk K) (hl : Ch w A n c S) (hL : ∀ i, i < n → LiS (S i)) (hr : Ns w Ar nr cr R) (hR : LiN R nr) :
    Calls Tryz.prog 19 #[.pointer (some ⟨b, 0, none⟩), .slice Ak nk ck, .slice A n c, .slice Ar nr cr] w (DetP (anewC r.P r.Q K S n R nr) (fun i => anewN r.P r.Q r.G K (Trp.of (S i)) (R i).N) n w) :=
  (ranew7_lo h hk lk hl hL hr hR).mono fun _ _ g => g.p
end Go.Proofs.YtpmnghealjgkeaaGreat
