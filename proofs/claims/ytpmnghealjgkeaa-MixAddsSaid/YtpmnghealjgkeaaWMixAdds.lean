/-
  MixAdds answers true: a letter that is sealed, and sealed anew, is one that was sealed with both scalars' sum.
-/
import Derived.Test.YtpmnghealjgkeaaB7
import Derived.Test.YtpmnghealjgkeaaPkm
namespace Go.Proofs.Ytpmnghealjgkeaa
open Go.RowKit
set_option linter.unusedVariables false
/-- The sums, one by one. -/
def AddsR (F : Nat → Int) (k : Nat) (w : World) (v i : Value) (wr : World) : Prop :=
  ∃ (j : Nat) (S' : Nat → Nsl), j ≤ k ∧ i = .int .i64 j ∧ Owc 24 1 wr w.heap.size v j S' ∧ (∀ p, p < j → (S' p).N = F p) ∧ B7 w wr
set_option maxHeartbeats 16000000 in
set_option maxRecDepth 100000 in
theorem mixAdds_walk {w : World} (x : Int) (hx : -9223372036854775808 ≤ x ∧ x ≤ 9223372036854775807) {Am Ak Ar As : Option Addr} {nm cm nk ck nr cr ns cs : Nat} {M R S : Nat → Nsl} {K : Int}
    (hm : Ns w Am nm cm M) (hk : Nm w Ak nk ck K) (hr : Ns w Ar nr cr R) (hs : Ns w As ns cs S) :
    Calls Try.prog 3 #[.int .i64 x, .slice Am nm cm, .slice Ak nk ck, .slice Ar nr cr, .slice As ns cs] w (AnsV (.bool true) w) := by
  have HM := Lib.hid hm
  have HK := Lib.hid hk
  have HR := Lib.hid hr
  have HS := Lib.hid hs
  have HX := Lib.hid hx
  have he := ne_err0
  have he1 := eq_err0
  clear hm hk hr hs hx
  go_enter Try.func3, Try.ntmps3
  go_wp2_with fail
  refine (up7_any w).mono ?_
  rintro e w0 ⟨rfl, b0⟩
  have B0 := Lib.hid (show B7 w w0 from b0)
  clear b0
  go_wp2_with fail
  refine (known_any x HX.out w0).mono ?_
  rintro e w1 ⟨A, n, c, A', n', c', rfl, kg, b1⟩
  have B1 := Lib.hid (B0.out.trans b1)
  have KGG := Lib.hid kg
  clear b1 kg B0
  go_wp2_with fail
  refine (kg_new (kix_lt x) KGG.out).mono ?_
  rintro e w2 ⟨b, d, rfl, gr, -, -, -, b2, -, -⟩
  have B2 := Lib.hid (B1.out.trans b2)
  have GR := Lib.hid gr
  have SF := Lib.hid gr.safe
  have EG := Lib.hid gr.el
  clear b2 gr KGG B1
  rcases Nat.lt_or_ge 60 nk with g1 | g1
  · have e1 : decide ((60 : Int) < (nk : Int)) = true := by simp; omega
    go_wp2_with fail
    go_ret
    exact ⟨rfl, B2.out⟩
  have e1 : decide ((60 : Int) < (nk : Int)) = false := by simp; omega
  go_wp2_with fail
  refine (gscalars_any GR.out.toGr0).mono ?_
  rintro e w3 ⟨bs, As', cs', lows, Bs, cBs, Ss, cSs, rfl, -, b3, -⟩
  have B3 := Lib.hid (B2.out.trans b3)
  have GR3 := Lib.hid (B7.gr b3 GR.out)
  clear b3 GR
  go_wp2_with fail
  obtain ⟨q, hq⟩ : ∃ q, min nm 5 = q := ⟨_, rfl⟩
  have q5 : q ≤ 5 := by omega
  refine (elements_any GR3.out (B3.out.ns HM.out) 5 (by omega)).mono ?_
  rw [hq]
  rintro e w4 ⟨Al, cl, SL, rfl, hns, hcan, hel, -, b4⟩
  have b4 : B7 w3 w4 := b4
  have B4 := Lib.hid (B3.out.trans b4)
  have GR4 := Lib.hid (b4.gr GR3.out)
  have SA := Lib.hid hns
  have SE := Lib.hid (show ElS d.P d.Q SL q from fun i hi => by rw [(hel i hi).1]; exact elN_el SF.out.p2 SF.out.q1 EG.out M i)
  clear hns hcan hel b4 hq B3 GR3
  have lK : dl K ≤ 64 := by have := HK.out.dl_le; omega
  go_wp2_with fail
  refine (base_gx GR4.out (B4.out.nm HK.out) lK).mono ?_
  rintro e w5 ⟨Bk, mk, ck', rfl, hkey, b5, -⟩
  have b5 : B7 w4 w5 := b5
  have B5 := Lib.hid (B4.out.trans b5)
  have GR5 := Lib.hid (b5.gr GR4.out)
  have SA5 := Lib.hid (b5.ns SA.out)
  have KY := Lib.hid hkey.nm
  obtain ⟨kk, hkk⟩ : ∃ kk, gx d.P d.Q d.G K = kk := ⟨_, rfl⟩
  have EK := Lib.hid (show El d.P d.Q kk by rw [← hkk]; exact gx_el SF.out.p2 SF.out.q1 EG.out K)
  rw [hkk] at KY
  clear hkey b5 hkk B4 GR4 SA lK
  rcases Nat.eq_zero_or_pos q with g2 | g2
  · have e2 : ((q : Int) == 0) = true := by simp; omega
    go_wp2_with fail
    go_ret
    exact ⟨rfl, B5.out⟩
  have e2 : ((q : Int) == 0) = false := by simp; omega
  go_wp2_with fail
  refine (scalars_any (B5.out.ns HR.out) HR.out.base B5.out.sz 0 q (by omega) (by omega)).mono ?_
  rintro e w6 ⟨AR, cR, SR, rfl, hR, hRF, -, b6⟩
  have b6 : B7 w5 w6 := b6
  have B6 := Lib.hid (B5.out.trans b6)
  have GR6 := Lib.hid (b6.gr GR5.out)
  have SA6 := Lib.hid (b6.ns SA5.out)
  have KY6 := Lib.hid (b6.nm KY.out)
  have RL := Lib.hid hR
  have RF := Lib.hid (show ∀ i, i < q → (SR i).N = atN R nr i from fun i hi => by have h := (hRF i hi).1; simpa using h)
  clear hR hRF b6 B5 GR5 SA5 KY
  go_wp2_with fail
  refine (seal_ok GR6.out KY6.out SA6.out RL.out g2 (by omega) (fun i hi => by rw [RF.out i hi]; exact atN_dl HR.out i) EK.out SE.out).mono ?_
  rintro e w7 ⟨A7, c7, S7, rfl, lo7, hT7, b7⟩
  have b7 : B7 w6 w7 := b7
  have B7' := Lib.hid (B6.out.trans b7)
  have GR7 := Lib.hid (b7.gr GR6.out)
  have SA7 := Lib.hid (b7.ns SA6.out)
  have KY7 := Lib.hid (b7.nm KY6.out)
  have CH7 := Lib.hid lo7.ch
  have T7 := Lib.hid (show ∀ i, i < q → Trp.of (S7 i) = sealN d.P d.Q d.G kk (SL i).N (atN R nr i) from fun i hi => by
    have h : Trp.of (S7 i) = sealN d.P d.Q d.G kk (SL i).N (SR i).N := hT7 i hi
    rw [h, RF.out i hi])
  clear lo7 hT7 b7 B6 GR6 SA6 KY6 RL RF
  go_wp2_with fail
  refine (scalars_any (B7'.out.ns HS.out) HS.out.base B7'.out.sz 0 q (by omega) (by omega)).mono ?_
  rintro e w8 ⟨AS, cS, SS, rfl, hS, hSF, -, b8⟩
  have b8 : B7 w7 w8 := b8
  have B8 := Lib.hid (B7'.out.trans b8)
  have GR8 := Lib.hid (b8.gr GR7.out)
  have SA8 := Lib.hid (b8.ns SA7.out)
  have KY8 := Lib.hid (b8.nm KY7.out)
  have CH8 := Lib.hid (b8.ch CH7.out)
  have LS := Lib.hid hS
  have SFF := Lib.hid (show ∀ i, i < q → (SS i).N = atN S ns i from fun i hi => by have h := (hSF i hi).1; simpa using h)
  clear hS hSF b8 B7' GR7 SA7 KY7 CH7
  go_wp2_with fail
  refine (anew_ok GR8.out KY8.out CH8.out LS.out g2 (by omega) (fun i hi => by rw [SFF.out i hi]; exact atN_dl HS.out i) EK.out (fun i hi => by rw [T7.out i hi]; exact sealN_el SF.out.p2 SF.out.q1 EG.out EK.out (SE.out i hi) _)).mono ?_
  rintro e w9 ⟨A9, c9, S9, rfl, lo9, hT9, b9⟩
  have b9 : B7 w8 w9 := b9
  have B9 := Lib.hid (B8.out.trans b9)
  have GR9 := Lib.hid (b9.gr GR8.out)
  have SA9 := Lib.hid (b9.ns SA8.out)
  have KY9 := Lib.hid (b9.nm KY8.out)
  have LO9 := Lib.hid lo9
  have T9 := Lib.hid (show ∀ i, i < q → Trp.of (S9 i) = sealN d.P d.Q d.G kk (SL i).N (atN R nr i + atN S ns i) from fun i hi => by
    have h : Trp.of (S9 i) = anewN d.P d.Q d.G kk (Trp.of (S7 i)) (SS i).N := hT9 i hi
    rw [h, T7.out i hi, SFF.out i hi, anew_seal SF.out.p2 SF.out.q1 EG.out EK.out (atN_pos HR.out i) (atN_pos HS.out i)])
  clear lo9 hT9 b9 B8 GR8 SA8 KY8 CH8 LS SFF T7
  go_wp2_with fail
  obtain ⟨wb, rfl⟩ : ∃ wb, wb = w9 := ⟨_, rfl⟩
  go_loopw [23, 24] (fun v i wr => AddsR (fun j => (atN R nr j + atN S ns j) % d.Q) q wb v i wr) (fun _ i _ => q - (intOf i).toNat)
  case atStart => exact ⟨0, fun _ => ⟨none, 0, 0, 0⟩, Nat.zero_le _, rfl, Owc.nil _ _ _ _ _, fun p hp => absurd hp (Nat.not_lt_zero p), B7.refl _⟩
  case round =>
    obtain ⟨j, S', hj, rfl, hown, hS, hbl⟩ := hrel
    have HO := Lib.hid hown
    have HSS := Lib.hid hS
    have HBL := Lib.hid hbl
    clear hown hS hbl
    rcases Nat.lt_or_ge j q with hlt | hge
    · --<L
      have hjk : (j : Int) < (q : Int) := by omega
      go_wp2_with fail
      refine (gscalars_any (HBL.out.gr GR9.out).toGr0).mono ?_
      rintro e u1 ⟨bs1, As1, cs1, lows1, Bs1, cBs1, Ss1, cSs1, rfl, md, c1, -⟩
      have C1 := Lib.hid (show B7 wr u1 from c1)
      have MD := Lib.hid md
      clear md c1
      go_wp2_with fail
      refine (at7_any ((B9.out.trans (HBL.out.trans C1.out)).ns HR.out) HR.out.base j (by omega)).mono ?_
      rintro e u2 ⟨A2, n2, c2, rfl, h2, -, -, c2'⟩
      have c2' : B7 u1 u2 := c2'
      have C2 := Lib.hid (C1.out.trans c2')
      have MD2 := Lib.hid (MD.out.below c2')
      have N2 := Lib.hid h2
      clear h2 c2' C1 MD
      go_wp2_with fail
      refine (at7_any ((B9.out.trans (HBL.out.trans C2.out)).ns HS.out) HS.out.base j (by omega)).mono ?_
      rintro e u3 ⟨A3, n3, c3, rfl, h3, -, -, c3'⟩
      have c3' : B7 u2 u3 := c3'
      have C3 := Lib.hid (C2.out.trans c3')
      have MD3 := Lib.hid (MD2.out.below c3')
      have N3 := Lib.hid h3
      have N23 := Lib.hid (c3'.nm N2.out)
      clear h3 c3' C2 MD2 N2
      go_wp2_with fail
      refine (madd_any MD3.out N23.out N3.out (atN_dl HR.out j) (atN_dl HS.out j)).mono ?_
      rintro e u4 ⟨B, nb', cb, rfl, hcn, c4, hnw⟩
      have c4 : B7 u3 u4 := c4
      have C4 := Lib.hid (C3.out.trans c4)
      have HC4 := Lib.hid hcn
      have HNW := Lib.hid hnw
      have s34 := c4.sz
      have s0 := HBL.out.sz
      have sz3 := C3.out.sz
      have U1 := Lib.hid (one_cell u4 24 B nb' cb ((atN R nr j + atN S ns j) % d.Q))
      have U2 := Lib.hid (show ∀ q, q < 1 * 1 → Nm (u4.alloc (.cells #[.slice B nb' cb] 24)) B nb' cb ((atN R nr j + atN S ns j) % d.Q) from fun q _ => hcn.nm.below (below_al _ _))
      have U3 := Lib.hid (show ∀ q, q < 1 * 1 → ∀ a, B = some a → 0 < nb' → u23.ownBlock ≠ some a.block from fun q _ a ha h0 => HO.out.far (Nat.le_trans sz3 (hnw a ha)))
      have O4 := Lib.hid ((HO.out.below C4.out).below (below_al u4 (.cells #[.slice B nb' cb] 24)))
      clear hcn c4 hnw C3 MD3 N23 N3
      go_wp2_with (at_builtin; refine wpList_owc rfl (.tmp 130) (.tmp 132) 22 rfl wb.heap.size 24 1 24 (.slice none 0 0) Try.underlying22 info_nat24 rfl (by decide) _ j 1 1 S' (fun _ => ⟨B, nb', cb, (atN R nr j + atN S ns j) % d.Q⟩) rfl O4.out u4.heap.size rfl U1.out U2.out U3.out (by decide) (by unfold maxLen; omega) (by omega) (by simp; omega) ?_)
      rintro v' u5 hown5 hg5
      have hb5 : B7 wb u5 := ((HBL.out.trans C4.out).trans (B7.alloc _ _)).grown hg5 (fun g e => (HO.out.lt e).1)
      have HO5 := Lib.hid hown5
      have HB5 := Lib.hid hb5
      clear hown5 hg5 hb5
      go_wp2_with fail
      go_roundw
      case rel =>
        refine ⟨j + 1, _, by omega, by go_num, HO5.out, fun p hp => ?_, HB5.out⟩
        rcases Nat.lt_or_ge p j with g | g
        · rw [joinS_old g]; exact HSS.out p g
        · obtain rfl : p = j := by omega
          rw [joinS_one]
      case measure => simp [intOf]; omega
      --L>
    · --<END
      obtain rfl : j = q := by omega
      have hjk : decide ((j : Int) < (j : Int)) = false := by simp
      obtain ⟨A1, c1, rfl, -, hns⟩ := HO.out.ns (by omega)
      have HNS := Lib.hid hns
      have BX := Lib.hid (B9.out.trans HBL.out)
      have GRX := Lib.hid (HBL.out.gr GR9.out)
      have SAX := Lib.hid (HBL.out.ns SA9.out)
      have KYX := Lib.hid (HBL.out.nm KY9.out)
      have LOX := Lib.hid (LO9.out.below HBL.out)
      clear hns
      go_wp2_with fail
      refine (seal_ok GRX.out KYX.out SAX.out HNS.out g2 (by omega) (fun i hi => by rw [HSS.out i hi]; exact rest_dl GRX.out _) EK.out SE.out).mono ?_
      rintro e u1 ⟨AZ, cZ, SZ, rfl, loZ, hTZ, bZ⟩
      have bZ : B7 wr u1 := bZ
      have LOZ := Lib.hid loZ
      have LOY := Lib.hid (LOX.out.below bZ)
      have BZ := Lib.hid (BX.out.trans bZ)
      have TZ := Lib.hid (show ∀ i, i < j → Trp.of (S9 i) = Trp.of (SZ i) from fun i hi => by
        have h : Trp.of (SZ i) = sealN d.P d.Q d.G kk (SL i).N (S' i).N := hTZ i hi
        rw [T9.out i hi, h, HSS.out i hi, sealN_mod SF.out.q1])
      clear loZ hTZ bZ
      go_wp2_with fail
      refine (same7_yes LOY.out.ch LOZ.out.ch LOY.out.can LOZ.out.can TZ.out).mono ?_
      rintro e u2 ⟨rfl, p, rfl⟩
      go_wp2_with fail
      go_ret
      exact ⟨rfl, BZ.out.trans (B7.drewN _ _)⟩
      --END>
end Go.Proofs.Ytpmnghealjgkeaa
