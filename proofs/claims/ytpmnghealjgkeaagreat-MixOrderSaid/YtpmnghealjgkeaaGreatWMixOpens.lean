/-
  MixOpens answers true: what is sealed, sealed anew, stripped by all shares on to a next key, turned, and stripped by that one's, opens as what was sealed.
-/
import Derived.Test.YtpmnghealjgkeaaGreatB7
import Derived.Test.YtpmnghealjgkeaaGreatMxo
import Derived.Test.YtpmnghealjgkeaaGreatPkm
namespace Go.Proofs.YtpmnghealjgkeaaGreat
open Go.RowKit
set_option linter.unusedVariables false
theorem Ns.cut {w : World} {A : Option Addr} {n c m : Nat} {S : Nat → Nsl} (h : Ns w A n c S) (hm : m ≤ n) : Ns w A m c S :=
  ⟨Nat.le_trans hm h.nc, Nat.le_trans hm h.c60, fun h0 => by
    obtain ⟨b, off, e, hb, hc⟩ := h.ex (by omega)
    exact ⟨b, off, e, hb, fun i hi => hc i (by omega)⟩, fun i hi => h.at_ i (by omega)⟩
/-- The secrets' sum. -/
def AllR (F : Nat → Int) (k : Nat) (Q : Int) (w : World) (v i : Value) (wr : World) : Prop :=
  ∃ (j : Nat) (A : Option Addr) (n c : Nat), j ≤ k ∧ i = .int .i64 j ∧ v = .slice A n c ∧ Nm wr A n c (sumN F j % Q) ∧ B7 w wr
/-- The shares, one by one. -/
def ShrsR (T : Nat → Nat → Trp) (k n : Nat) (w : World) (v i : Value) (wr : World) : Prop :=
  ∃ (j : Nat) (A : Option Addr) (c : Nat) (S : Nat → Stp), j ≤ k ∧ i = .int .i64 j ∧ v = .slice A n c ∧ Ch wr A n c S ∧ (∀ p, p < n → Trp.of (S p) = T j p) ∧ B7 w wr
def OpR (n : Nat) (w : World) (i : Value) (wr : World) : Prop := ∃ k : Nat, k ≤ n ∧ i = .int .i64 k ∧ B7 w wr
set_option maxHeartbeats 32000000 in
set_option maxRecDepth 100000 in
theorem mixOpens_walk {w : World} (x : Int) (hx : -9223372036854775808 ≤ x ∧ x ≤ 9223372036854775807) {Am Ar As Ak : Option Addr} {nm cm nr cr ns cs nk ck : Nat} {M R S : Nat → Nsl} {K : Int}
    (hm : Ns w Am nm cm M) (hr : Ns w Ar nr cr R) (hs : Ns w As ns cs S) (hk : Nm w Ak nk ck K) :
    Calls Tryz.prog 6 #[.int .i64 x, .slice Am nm cm, .slice Ar nr cr, .slice As ns cs, .slice Ak nk ck] w (AnsV (.bool true) w) := by
  have HM := Lib.hid hm
  have HK := Lib.hid hk
  have HR := Lib.hid hr
  have HS := Lib.hid hs
  have HX := Lib.hid hx
  have he := ne_err0
  have he1 := eq_err0
  clear hm hk hr hs hx
  go_enter Tryz.func6, Tryz.ntmps6
  go_wp2_with fail
  refine (up7_any w).mono ?_
  rintro e w0 ⟨rfl, b0⟩
  have B0 := Lib.hid (show B7 w w0 from b0)
  clear b0
  go_wp2_with fail
  refine (known_any x HX.out w0).mono ?_
  rintro e w1 ⟨A, n, c, A', n', c', rfl, kg, b1⟩
  have B1 := Lib.hid (B0.out.trans b1)
  have KGG := Lib.hid kg
  clear b1 kg B0
  go_wp2_with fail
  refine (kg_new (kix_lt x) KGG.out).mono ?_
  rintro e w2 ⟨b, d, rfl, gr, -, -, -, b2, -, -⟩
  have B2 := Lib.hid (B1.out.trans b2)
  have GR := Lib.hid gr
  have SF := Lib.hid gr.safe
  have EG := Lib.hid gr.el
  clear b2 gr KGG B1
  go_wp2_with fail
  obtain ⟨q, hq⟩ : ∃ q, min nm 4 = q := ⟨_, rfl⟩
  have q5 : q ≤ 4 := by omega
  refine (elements_any GR.out (B2.out.ns HM.out) 4 (by omega)).mono ?_
  rw [hq]
  rintro e w4 ⟨Al, cl, SL, rfl, hns, hcan, hel, -, b4⟩
  have b4 : B7 w2 w4 := b4
  have B4 := Lib.hid (B2.out.trans b4)
  have GR4 := Lib.hid (b4.gr GR.out)
  have SA := Lib.hid hns
  have SC := Lib.hid hcan
  have SE := Lib.hid (show ElS d.P d.Q SL q from fun i hi => by rw [(hel i hi).1]; exact elN_el SF.out.p2 SF.out.q1 EG.out M i)
  clear hns hcan hel b4 hq B2 GR
  rcases Nat.eq_zero_or_pos q with g2 | g2
  · have e2 : ((q : Int) == 0) = true := by simp; omega
    go_wp2_with fail
    go_ret
    exact ⟨rfl, B4.out⟩
  have e2 : ((q : Int) == 0) = false := by simp; omega
  obtain ⟨ne, hne⟩ : ∃ ne, min ns 4 = ne := ⟨_, rfl⟩
  go_upto_if 70 with fail
  go_cut [3] (fun v wx => v = .slice As ne cs ∧ w4 = wx)
  case first =>
    rcases Nat.lt_or_ge 4 ns with g3 | g3
    · have e3 : decide ((4 : Int) < (ns : Int)) = true := by simp; omega
      have h1 := HS.out.nc
      have hnc : 4 ≤ cs := by omega
      have hnc2 : (4 : Int) ≤ (cs : Int) := by omega
      obtain rfl : ne = 4 := by omega
      clear h1
      go_wp2_with fail
      go_meet
      exact ⟨rfl, rfl⟩
    · have e3 : decide ((4 : Int) < (ns : Int)) = false := by simp; omega
      obtain rfl : ne = ns := by omega
      go_wp2_with fail
      go_meet
      exact ⟨rfl, rfl⟩
  case rest =>
  obtain ⟨rfl, rfl⟩ := hcut
  have ne4 : ne ≤ 4 := by omega
  have HS' := Lib.hid (HS.out.cut (show ne ≤ ns by omega))
  clear hne HS
  go_wp2_with fail
  refine (gscalars_any GR4.out.toGr0).mono ?_
  rintro e w5 ⟨bs, As', cs', lows, Bs, cBs, Ss, cSs, rfl, md, b5, -⟩
  have b5 : B7 w4 w5 := b5
  have B5 := Lib.hid (B4.out.trans b5)
  have GR5 := Lib.hid (b5.gr GR4.out)
  have SA5 := Lib.hid (b5.ns SA.out)
  have MD := Lib.hid md
  clear md b5 B4 GR4 SA
  obtain ⟨F, hF⟩ : ∃ F, atN S ne = F := ⟨_, rfl⟩
  have HF := Lib.hid hF
  have F0 := Lib.hid (show ∀ i, 0 ≤ F i from fun i => by rw [← hF]; exact atN_pos HS'.out i)
  have F1 := Lib.hid (show ∀ i, dl (F i) ≤ 64 from fun i => by rw [← hF]; exact atN_dl HS'.out i)
  clear hF
  go_wp2_with fail
  obtain ⟨wb, rfl⟩ : ∃ wb, wb = w5 := ⟨_, rfl⟩
  go_loopw [17, 18] (fun v i wr => AllR F ne d.Q wb v i wr) (fun _ i _ => ne - (intOf i).toNat)
  case atStart => exact ⟨0, none, 0, 0, Nat.zero_le _, rfl, rfl, by rw [show sumN F 0 % d.Q = 0 from Int.zero_emod _]; exact nil_nm _, B7.refl _⟩
  case round =>
    obtain ⟨j, A0, n0, c0, hj, rfl, rfl, ha, hbl⟩ := hrel
    have HA := Lib.hid ha
    have HBL := Lib.hid hbl
    clear ha hbl
    rcases Nat.lt_or_ge j ne with hlt | hge
    · --<L1
      have hjk : (j : Int) < (ne : Int) := by omega
      go_wp2_with fail
      refine (at7_any ((B5.out.trans HBL.out).ns HS'.out) HS'.out.base j (by omega)).mono ?_
      rw [HF.out]
      rintro e u2 ⟨A2, n2, c2, rfl, h2, -, -, c2'⟩
      have c2' : B7 wr u2 := c2'
      have C2 := Lib.hid (HBL.out.trans c2')
      have HA2 := Lib.hid (c2'.nm HA.out)
      have N2 := Lib.hid h2
      clear h2 c2'
      go_wp2_with fail
      refine (madd_any (MD.out.below C2.out) HA2.out N2.out (rest_dl GR5.out _) (F1.out j)).mono ?_
      rintro e u3 ⟨B, nb', cb, rfl, hcn, c3, -⟩
      have c3 : B7 u2 u3 := c3
      have C3 := Lib.hid (C2.out.trans c3)
      have N3 := Lib.hid hcn.nm
      clear hcn c3 C2 HA2 N2
      go_wp2_with fail
      go_roundw
      case rel => exact ⟨j + 1, _, _, _, by omega, by go_num, rfl, by rw [show sumN F (j + 1) % d.Q = (sumN F j % d.Q + F j) % d.Q by rw [Int.emod_add_emod]; rfl]; exact N3.out, C3.out⟩
      case measure => simp [intOf]; omega
      --L1>
    obtain rfl : j = ne := by omega
    have hjk : decide ((j : Int) < (j : Int)) = false := by simp
    obtain ⟨all, hall⟩ : ∃ all, sumN F j % d.Q = all := ⟨_, rfl⟩
    rw [hall] at HA
    have HALL := Lib.hid hall
    have a0 : 0 ≤ all := by rw [← hall]; exact Int.emod_nonneg _ (by have := SF.out.q1; omega)
    have al : dl all ≤ 64 := by rw [← hall]; exact rest_dl GR5.out _
    have B6 := Lib.hid (B5.out.trans HBL.out)
    have GR6 := Lib.hid (HBL.out.gr GR5.out)
    have SA6 := Lib.hid (HBL.out.ns SA5.out)
    clear hall B5 GR5 SA5 MD
    go_wp2_with fail
    refine (base_gx GR6.out HA.out al).mono ?_
    rintro e w7 ⟨Bk, mk, ck', rfl, hkey, b7, -⟩
    have b7 : B7 wr w7 := b7
    have B7' := Lib.hid (B6.out.trans b7)
    have GR7 := Lib.hid (b7.gr GR6.out)
    have SA7 := Lib.hid (b7.ns SA6.out)
    have KY := Lib.hid hkey.nm
    obtain ⟨kk, hkk⟩ : ∃ kk, gx d.P d.Q d.G all = kk := ⟨_, rfl⟩
    have HKK := Lib.hid hkk
    have EK := Lib.hid (show El d.P d.Q kk by rw [← hkk]; exact gx_el SF.out.p2 SF.out.q1 EG.out all)
    rw [hkk] at KY
    clear hkey b7 hkk B6 GR6 SA6 HA HBL
    obtain ⟨l, hl⟩ : ∃ l, K % W ^ 40 = l := ⟨_, rfl⟩
    have HLL := Lib.hid hl
    clear hl
    go_upto_if 103 with fail
    go_cut [4] (fun v wx => (∃ n', v = .slice Ak n' ck ∧ Nm w Ak n' ck l ∧ n' ≤ 40) ∧ w7 = wx)
    case first =>
      rcases Nat.lt_or_ge 40 nk with g3 | g3
      · have e3 : decide ((40 : Int) < (nk : Int)) = true := by simp; omega
        have h1 := HK.out.nc
        have hnc : 40 ≤ ck := by omega
        have hnc2 : (40 : Int) ≤ (ck : Int) := by omega
        clear h1
        go_wp2_with fail
        go_meet
        exact ⟨⟨40, rfl, by rw [← HLL.out]; exact HK.out.take (by omega), by omega⟩, rfl⟩
      · have e3 : decide ((40 : Int) < (nk : Int)) = false := by simp; omega
        go_wp2_with fail
        go_meet
        exact ⟨⟨nk, rfl, by rw [← HLL.out, HK.out.small g3]; exact HK.out, g3⟩, rfl⟩
    case rest =>
    obtain ⟨⟨n', rfl, hn', h40⟩, rfl⟩ := hcut
    have HL := Lib.hid hn'
    have ll : dl l ≤ 64 := by have := hn'.dl_le; omega
    have l0 := hn'.pos
    clear hn' HK
    go_wp2_with fail
    refine (base_gx GR7.out (B7'.out.nm HL.out) ll).mono ?_
    rintro e w8 ⟨Bn, mn, cn, rfl, hnx, b8, -⟩
    have b8 : B7 w7 w8 := b8
    have B8 := Lib.hid (B7'.out.trans b8)
    have GR8 := Lib.hid (b8.gr GR7.out)
    have SA8 := Lib.hid (b8.ns SA7.out)
    have KY8 := Lib.hid (b8.nm KY.out)
    have NX := Lib.hid hnx.nm
    obtain ⟨nx, hnxx⟩ : ∃ nx, gx d.P d.Q d.G l = nx := ⟨_, rfl⟩
    have HNX := Lib.hid hnxx
    have EN := Lib.hid (show El d.P d.Q nx by rw [← hnxx]; exact gx_el SF.out.p2 SF.out.q1 EG.out l)
    rw [hnxx] at NX
    clear hnx b8 hnxx B7' GR7 SA7 KY
    go_wp2_with fail
    refine (scalars_any (B8.out.ns HR.out) HR.out.base B8.out.sz 0 q (by omega) (by omega)).mono ?_
    rintro e w9 ⟨AR, cR, SR, rfl, hR, hRF, -, b9⟩
    have b9 : B7 w8 w9 := b9
    have B9 := Lib.hid (B8.out.trans b9)
    have GR9 := Lib.hid (b9.gr GR8.out)
    have SA9 := Lib.hid (b9.ns SA8.out)
    have KY9 := Lib.hid (b9.nm KY8.out)
    have NX9 := Lib.hid (b9.nm NX.out)
    have RL := Lib.hid hR
    have RF := Lib.hid (show ∀ i, i < q → (SR i).N = atN R nr i from fun i hi => by have h := (hRF i hi).1; simpa using h)
    clear hR hRF b9 B8 GR8 SA8 KY8 NX
    go_wp2_with fail
    refine (seal_ok GR9.out KY9.out SA9.out RL.out g2 (by omega) (fun i hi => by rw [RF.out i hi]; exact atN_dl HR.out i) EK.out SE.out).mono ?_
    rintro e w10 ⟨A10, c10, S10, rfl, lo10, hT10, b10⟩
    have b10 : B7 w9 w10 := b10
    have B10 := Lib.hid (B9.out.trans b10)
    have GR10 := Lib.hid (b10.gr GR9.out)
    have SA10 := Lib.hid (b10.ns SA9.out)
    have KY10 := Lib.hid (b10.nm KY9.out)
    have NX10 := Lib.hid (b10.nm NX9.out)
    have CH10 := Lib.hid lo10.ch
    have T10 := Lib.hid (show ∀ i, i < q → Trp.of (S10 i) = sealN d.P d.Q d.G kk (SL i).N (atN R nr i) from fun i hi => by
      have h : Trp.of (S10 i) = sealN d.P d.Q d.G kk (SL i).N (SR i).N := hT10 i hi
      rw [h, RF.out i hi])
    clear lo10 hT10 b10 B9 GR9 SA9 KY9 NX9 RL RF
    go_wp2_with fail
    refine (scalars_any (B10.out.ns HR.out) HR.out.base B10.out.sz q q (by omega) (by omega)).mono ?_
    rintro e w11 ⟨AS, cS, SS, rfl, hS, hSF, -, b11⟩
    have b11 : B7 w10 w11 := b11
    have B11 := Lib.hid (B10.out.trans b11)
    have GR11 := Lib.hid (b11.gr GR10.out)
    have SA11 := Lib.hid (b11.ns SA10.out)
    have KY11 := Lib.hid (b11.nm KY10.out)
    have NX11 := Lib.hid (b11.nm NX10.out)
    have CH11 := Lib.hid (b11.ch CH10.out)
    have LS := Lib.hid hS
    have SFF := Lib.hid (show ∀ i, i < q → (SS i).N = atN R nr (q + i) from fun i hi => (hSF i hi).1)
    clear hS hSF b11 B10 GR10 SA10 KY10 NX10 CH10
    go_wp2_with fail
    refine (anew_ok GR11.out KY11.out CH11.out LS.out g2 (by omega) (fun i hi => by rw [SFF.out i hi]; exact atN_dl HR.out _) EK.out (fun i hi => by rw [T10.out i hi]; exact sealN_el SF.out.p2 SF.out.q1 EG.out EK.out (SE.out i hi) _)).mono ?_
    rintro e w12 ⟨A12, c12, S12, rfl, lo12, hT12, b12⟩
    have b12 : B7 w11 w12 := b12
    have B12 := Lib.hid (B11.out.trans b12)
    have GR12 := Lib.hid (b12.gr GR11.out)
    have SA12 := Lib.hid (b12.ns SA11.out)
    have NX12 := Lib.hid (b12.nm NX11.out)
    have CH12 := Lib.hid lo12.ch
    obtain ⟨t, ht⟩ : ∃ t : Nat → Int, t = fun i => atN R nr i + atN R nr (q + i) := ⟨_, rfl⟩
    have t0 := Lib.hid (show ∀ i, 0 ≤ t i from fun i => by rw [ht]; exact Int.add_nonneg (atN_pos HR.out _) (atN_pos HR.out _))
    have T12 := Lib.hid (show ∀ i, i < q → Trp.of (S12 i) = opT d.P d.Q d.G (gx d.P d.Q d.G (t i)) ((SL i).N * gx d.P d.Q kk (t i) % d.P) nx 0 0 from fun i hi => by
      have h : Trp.of (S12 i) = anewN d.P d.Q d.G kk (Trp.of (S10 i)) (SS i).N := hT12 i hi
      rw [h, T10.out i hi, SFF.out i hi, anew_seal SF.out.p2 SF.out.q1 EG.out EK.out (atN_pos HR.out _) (atN_pos HR.out _), ht]
      exact opT_start SF.out.p2 SF.out.q1 EG.out EK.out (SE.out i hi))
    obtain ⟨V, hV⟩ : ∃ V : Nat → Nat → Int, V = fun j i => sumN (fun p => atN R nr (2 * q + p + i)) j := ⟨_, rfl⟩
    have HV := Lib.hid hV
    have V0 := Lib.hid (show ∀ j i, 0 ≤ V j i from fun j i => by rw [hV]; exact sumN_pos (fun _ => atN_pos HR.out _) j)
    have X0 := Lib.hid (sumN_pos F0.out)
    have EA := Lib.hid (show ∀ i, El d.P d.Q (gx d.P d.Q d.G (t i)) from fun i => gx_el SF.out.p2 SF.out.q1 EG.out _)
    have EB := Lib.hid (show ∀ i, i < q → El d.P d.Q ((SL i).N * gx d.P d.Q kk (t i) % d.P) from fun i hi => (SE.out i hi).mul SF.out.p2 SF.out.q1 (gx_el SF.out.p2 SF.out.q1 EK.out _))
    clear lo12 hT12 b12 B11 GR11 SA11 KY11 NX11 CH11 LS SFF T10 ht hV
    go_wp2_with fail
    obtain ⟨wc, rfl⟩ : ∃ wc, wc = w12 := ⟨_, rfl⟩
    go_loopw [26, 29] (fun v i wr => ShrsR (fun j i => opT d.P d.Q d.G (gx d.P d.Q d.G (t i)) ((SL i).N * gx d.P d.Q kk (t i) % d.P) nx (sumN F j) (V j i)) j q wc v i wr) (fun _ i _ => j - (intOf i).toNat)
    case atStart => exact ⟨0, _, _, _, Nat.zero_le _, rfl, rfl, CH12.out, fun i hi => by rw [T12.out i hi, HV.out]; rfl, B7.refl _⟩
    case round =>
      clear hjk
      obtain ⟨i, A0, c0, S0, hi, rfl, rfl, hch, hTT, hbl⟩ := hrel
      have HCH := Lib.hid hch
      have HTT := Lib.hid hTT
      have HBL := Lib.hid hbl
      clear hch hTT hbl
      rcases Nat.lt_or_ge i j with hlt | hge2
      · --<L2
        have hjk : (i : Int) < (j : Int) := by omega
        have w1 : IntKind.i64.wrap (2 * (q : Int)) = 2 * (q : Int) := IntWalk.i64_in _ (by omega)
        have w2' : IntKind.i64.wrap (2 * (q : Int) + (i : Int)) = ((2 * q + i : Nat) : Int) := by rw [IntWalk.i64_in _ (by omega)]; omega
        go_wp2_with fail
        refine (at7_any ((B12.out.trans HBL.out).ns HS'.out) HS'.out.base i (by omega)).mono ?_
        rw [HF.out]
        rintro e u2 ⟨A2, n2, c2, rfl, h2, -, -, c2'⟩
        have c2' : B7 wr u2 := c2'
        have C2 := Lib.hid (HBL.out.trans c2')
        have CH2 := Lib.hid (c2'.ch HCH.out)
        have N2 := Lib.hid h2
        clear h2 c2'
        go_wp2_with fail
        refine (scalars_any ((B12.out.trans C2.out).ns HR.out) HR.out.base (B12.out.trans C2.out).sz (2 * q + i) q (by omega) (by omega)).mono ?_
        rintro e u3 ⟨A3, c3, S3, rfl, h3, hSF, -, c3'⟩
        have c3' : B7 u2 u3 := c3'
        have C3 := Lib.hid (C2.out.trans c3')
        have CH3 := Lib.hid (c3'.ch CH2.out)
        have N3 := Lib.hid (c3'.nm N2.out)
        have L3 := Lib.hid h3
        have SF3 := Lib.hid (show ∀ p, p < q → (S3 p).N = atN R nr (2 * q + i + p) from fun p hp => (hSF p hp).1)
        clear h3 hSF c3' C2 CH2 N2 w1 w2'
        go_wp2_with fail
        refine (strip_ok (C3.out.gr GR12.out) N3.out (C3.out.nm NX12.out) CH3.out L3.out g2 (by omega) (F1.out i) (fun p hp => by rw [SF3.out p hp]; exact atN_dl HR.out _) EN.out (fun p hp => by rw [HTT.out p hp]; exact opT_el SF.out.p2 SF.out.q1 EG.out (EA.out p) (EB.out p hp) EN.out)).mono ?_
        rintro e u4 ⟨A4, c4, S4, rfl, lo4, hT4, c4'⟩
        have c4' : B7 u3 u4 := c4'
        have C4 := Lib.hid (C3.out.trans c4')
        have CH4 := Lib.hid lo4.ch
        have T4 := Lib.hid (show ∀ p, p < q → Trp.of (S4 p) = opT d.P d.Q d.G (gx d.P d.Q d.G (t p)) ((SL p).N * gx d.P d.Q kk (t p) % d.P) nx (sumN F (i + 1)) (V (i + 1) p) from fun p hp => by
          have h : Trp.of (S4 p) = stripN d.P d.Q d.G (F i) nx (Trp.of (S0 p)) (S3 p).N := hT4 p hp
          have h0 : Trp.of (S0 p) = opT d.P d.Q d.G (gx d.P d.Q d.G (t p)) ((SL p).N * gx d.P d.Q kk (t p) % d.P) nx (sumN F i) (V i p) := HTT.out p hp
          rw [h, h0, SF3.out p hp, opT_step SF.out.p2 SF.out.q1 EG.out (EA.out p) EN.out (X0.out i) (V0.out i p) (F0.out i) (atN_pos HR.out _), HV.out]
          rfl)
        clear lo4 hT4 c4' C3 CH3 N3 L3 SF3
        go_wp2_with fail
        go_roundw
        case rel => exact ⟨i + 1, _, _, _, by omega, by go_num, rfl, CH4.out, T4.out, C4.out⟩
        case measure => simp [intOf]; omega
        --L2>
      obtain rfl : i = j := by omega
      have hjk : decide ((i : Int) < (i : Int)) = false := by simp
      have BX := Lib.hid (B12.out.trans HBL.out)
      have GRX := Lib.hid (HBL.out.gr GR12.out)
      have SAX := Lib.hid (HBL.out.ns SA12.out)
      have TX := Lib.hid (show ∀ p, p < q → Trp.of (S0 p) = opT d.P d.Q d.G (gx d.P d.Q d.G (t p)) ((SL p).N * gx d.P d.Q kk (t p) % d.P) nx (sumN F i) (V i p) from fun p hp => HTT.out p hp)
      clear HTT HBL B12 GR12 SA12 NX12 CH12 T12 hge
      go_wp2_with fail
      refine (turn_ok GRX.out HCH.out g2 (by omega) (fun p hp => by rw [TX.out p hp]; exact opT_el SF.out.p2 SF.out.q1 EG.out (EA.out p) (EB.out p hp) EN.out)).mono ?_
      rintro e u5 ⟨A5, c5, S5, rfl, lo5, hT5, b5⟩
      have b5 : B7 wr u5 := b5
      have BY := Lib.hid (BX.out.trans b5)
      have GRY := Lib.hid (b5.gr GRX.out)
      have SAY := Lib.hid (b5.ns SAX.out)
      have CHY := Lib.hid lo5.ch
      have TY := Lib.hid (show ∀ p, p < q → Trp.of (S5 p) = turnN (opT d.P d.Q d.G (gx d.P d.Q d.G (t p)) ((SL p).N * gx d.P d.Q kk (t p) % d.P) nx (sumN F i) (V i p)) from fun p hp => by
        have h : Trp.of (S5 p) = turnN (Trp.of (S0 p)) := hT5 p hp
        rw [h, TX.out p hp])
      clear lo5 hT5 b5 BX GRX SAX TX HCH
      have O1 := Lib.hid (lit_nm u5 (x := 1) (by decide) (by decide))
      have bo := B7.alloc u5 (.cells #[.int .u64 1] 78)
      have BO := Lib.hid (BY.out.trans bo)
      have GRO := Lib.hid (bo.gr GRY.out)
      have SAO := Lib.hid (bo.ns SAY.out)
      have CHO := Lib.hid (bo.ch CHY.out)
      clear bo BY GRY SAY CHY
      go_wp2_with fail
      refine (scalars_any (Ns.nil _ (fun _ => ⟨none, 0, 0, 0⟩)) (base := 0) (fun p hp => absurd hp (by omega)) (Nat.zero_le _) 0 q (by omega) (by omega)).mono ?_
      rintro e u6 ⟨A6, c6, S6, rfl, h6, hS6, -, b6⟩
      have b6 : B7 _ u6 := b6
      have BZ := Lib.hid (BO.out.trans b6)
      have GRZ := Lib.hid (b6.gr GRO.out)
      have SAZ := Lib.hid (b6.ns SAO.out)
      have CHZ := Lib.hid (b6.ch CHO.out)
      have OZ := Lib.hid (b6.nm O1.out)
      have L6 := Lib.hid h6
      have D6 := Lib.hid (show ∀ p, p < q → dl (S6 p).N ≤ 64 from fun p hp => by
        have h : (S6 p).N = 1 := (hS6 p hp).1
        rw [h]; exact Nat.le_trans (dl_one (by decide) (by decide)) (by decide))
      clear h6 hS6 b6 BO GRO SAO CHO O1
      go_wp2_with fail
      refine (strip_ok GRZ.out (BZ.out.nm HL.out) OZ.out CHZ.out L6.out g2 (by omega) ll D6.out (el_one SF.out.p2) (fun p hp => by rw [TY.out p hp]; exact turnN_el SF.out.p2 (opT_el SF.out.p2 SF.out.q1 EG.out (EA.out p) (EB.out p hp) EN.out))).mono ?_
      rintro e u7 ⟨A7, c7, S7, rfl, lo7, hT7, b7⟩
      have b7 : B7 u6 u7 := b7
      have BU := Lib.hid (BZ.out.trans b7)
      have GRU := Lib.hid (b7.gr GRZ.out)
      have SAU := Lib.hid (b7.ns SAZ.out)
      have CHU := Lib.hid lo7.ch
      have EU := Lib.hid (show ElL d.P d.Q S7 q from fun p hp => by
        have h : Trp.of (S7 p) = stripN d.P d.Q d.G l 1 (Trp.of (S5 p)) (S6 p).N := hT7 p hp
        rw [h, TY.out p hp]
        exact stripN_el SF.out.p2 SF.out.q1 EG.out (el_one SF.out.p2) (turnN_el SF.out.p2 (opT_el SF.out.p2 SF.out.q1 EG.out (EA.out p) (EB.out p hp) EN.out)) _ _)
      have TU := Lib.hid (show ∀ p, p < q → (S7 p).Q = (SL p).N from fun p hp => by
        have h : Trp.of (S7 p) = stripN d.P d.Q d.G l 1 (Trp.of (S5 p)) (S6 p).N := hT7 p hp
        rw [TY.out p hp] at h
        have h2 := congrArg Trp.b h
        rw [opT_end SF.out.p2 SF.out.q1 EG.out (SE.out p hp) a0 (t0.out p) l0 (V0.out i p) HALL.out HNX.out.symm HKK.out.symm] at h2
        exact h2)
      clear lo7 hT7 b7 BZ GRZ SAZ CHZ OZ L6 D6 TY
      go_wp2_with fail
      refine (open_ok GRU.out CHU.out g2 (by omega) EU.out).mono ?_
      rintro e u8 ⟨A8, c8, S8, rfl, h8, hc8, hN8, -, b8⟩
      have b8 : B7 u7 u8 := b8
      have BV := Lib.hid (BU.out.trans b8)
      have SAV := Lib.hid (b8.ns SAU.out)
      have L8 := Lib.hid h8
      have C8 := Lib.hid hc8
      have N8 := Lib.hid (show ∀ p, p < q → (S8 p).N = (SL p).N from fun p hp => (hN8 p hp).trans (TU.out p hp))
      clear h8 hc8 hN8 b8 BU GRU SAU CHU EU TU hge2 hjk
      have e9 : ((q : Int) != (q : Int)) = false := by simp
      go_wp2_with fail
      obtain ⟨wd, rfl⟩ : ∃ wd, wd = u8 := ⟨_, rfl⟩
      go_loopw [36] (fun i wr => OpR q wd i wr) (fun i _ => q - (intOf i).toNat)
      case atStart => exact ⟨0, Nat.zero_le _, rfl, B7.refl _⟩
      case round =>
        obtain ⟨p, hp, rfl, hbl⟩ := hrel
        rcases Nat.lt_or_ge p q with hlt3 | hge3
        · --<L3
          have g := hbl.ns L8.out
          have g' := hbl.ns SAV.out
          obtain ⟨bo, off, rfl, hbo, hcell⟩ := g.ex (by omega)
          obtain ⟨bo', off', rfl, hbo', hcell'⟩ := g'.ex (by omega)
          have x0 := hcell p hlt3
          have y0 := hcell' p hlt3
          have p1 := g.at_ p hlt3
          have q1 := g'.at_ p hlt3
          have l1 := C8.out p hlt3
          have m1 := SC.out p hlt3
          have ee := N8.out p hlt3
          obtain ⟨s, hs⟩ : ∃ s, S8 p = s := ⟨_, rfl⟩
          obtain ⟨s', hs'⟩ : ∃ s', SL p = s' := ⟨_, rfl⟩
          rw [hs] at x0 p1 l1 ee
          rw [hs'] at y0 q1 m1 ee
          obtain ⟨A1, n1, c1, N1⟩ := s
          obtain ⟨A1', n1', c1', N1'⟩ := s'
          simp only at x0 p1 l1 ee y0 q1 m1
          subst ee
          obtain rfl : n1' = n1 := by omega
          have t1 := p1.c60
          have R1 := Lib.hid (p1.can l1)
          have R1' := Lib.hid (q1.can m1)
          have hkn : (p : Int) < (q : Int) := by omega
          have HQ := Lib.hid hbl
          clear p1 q1 l1 m1 hs hs' hcell hcell' g g' hbl
          go_wp2_with fail
          go_quiet ((go_at_call 29; exact same_q R1.out R1'.out t1))
          go_wp2_with fail
          go_roundw
          case rel => exact ⟨p + 1, by omega, by go_num, HQ.out.trans (B7.drewN _ _)⟩
          case measure => simp [intOf]; omega
          --L3>
        · obtain rfl : p = q := by omega
          have hkn : decide ((p : Int) < (p : Int)) = false := by simp
          go_wp2_with fail
          go_ret
          exact ⟨rfl, BV.out.trans hbl⟩
end Go.Proofs.YtpmnghealjgkeaaGreat
