/-
  MixOrder answers true: in which order shares are taken off, and whether one by one or their sum at once, doesn't matter.
-/
import Derived.Test.YtpmnghealjgkeaaGreatWMixOpens
import Derived.Test.YtpmnghealjgkeaaGreatGg
namespace Go.Proofs.YtpmnghealjgkeaaGreat
open Go.RowKit
set_option linter.unusedVariables false
theorem strip_zero {P Q G : Int} {p : Trp} (hP : 2 ≤ P) (hQ : 1 ≤ Q) (hp : ElT P Q p) : stripN P Q G 0 1 p 0 = p := by
  unfold stripN
  rw [gx_zero hP hQ, gx_zero hP hQ, gx_zero hP hQ, iv_one hP, el_mul_one hp.b, el_mul_one hp.b, el_mul_one hp.c]
theorem strip_mod {P Q G s n v : Int} {p : Trp} (hQ : 1 ≤ Q) : stripN P Q G (s % Q) n p v = stripN P Q G s n p v := by unfold stripN; rw [gx_mod hQ]
/-- The same numbers, begun at another place of the round. -/
theorem sum_shift {f : Nat → Int} : ∀ n t, sumN (fun p => f (t + 1 + p)) n + f t = sumN (fun p => f (t + p)) n + f (t + n)
  | 0, t => by simp [sumN]
  | n + 1, t => by
    have h := sum_shift (f := f) n t
    show sumN (fun p => f (t + 1 + p)) n + f (t + 1 + n) + f t = sumN (fun p => f (t + p)) n + f (t + n) + f (t + (n + 1))
    rw [show t + 1 + n = t + (n + 1) by omega]
    omega
theorem sum_round {f : Nat → Int} {n : Nat} (h : ∀ i, f (i + n) = f i) : ∀ t, sumN (fun p => f (t + p)) n = sumN f n
  | 0 => by congr 1; funext p; rw [Nat.zero_add]
  | t + 1 => by
    have h1 := sum_shift (f := f) n t
    have h2 := h t
    have h3 := sum_round h t
    omega
theorem sum_congr {f g : Nat → Int} : ∀ n, (∀ i, i < n → f i = g i) → sumN f n = sumN g n
  | 0, _ => rfl
  | n + 1, h => by
    show sumN f n + f n = sumN g n + g n
    rw [sum_congr n (fun i hi => h i (by omega)), h n (by omega)]
theorem atN_round {S : Nat → Nsl} {n : Nat} (i : Nat) : atN S n (i + n) = atN S n i := by unfold atN; rw [Nat.add_mod_right]
theorem atN_at {S : Nat → Nsl} {n : Nat} (hn : 0 < n) (i : Nat) : atN S n (i % n) = atN S n i := by unfold atN; rw [Nat.mod_mod]
/-- Two letters that are stripped, and the sum. -/
def OrdR (T : Nat → Trp) (P Q G : Int) (F H : Nat → Int) (k n : Nat) (w : World) (va vb vs i : Value) (wr : World) : Prop :=
  ∃ (j : Nat) (A : Option Addr) (c : Nat) (S : Nat → Stp) (A' : Option Addr) (c' : Nat) (S' : Nat → Stp) (B : Option Addr) (nb cb : Nat), j ≤ k ∧ i = .int .i64 j ∧ va = .slice A n c ∧ vb = .slice A' n c' ∧ vs = .slice B nb cb ∧
    Ch wr A n c S ∧ CanL S n ∧ Ch wr A' n c' S' ∧ CanL S' n ∧ Nm wr B nb cb (sumN F j % Q) ∧
    (∀ p, p < n → Trp.of (S p) = stripN P Q G (sumN F j) 1 (T p) 0 ∧ Trp.of (S' p) = stripN P Q G (sumN H j) 1 (T p) 0) ∧ B7 w wr
set_option maxHeartbeats 32000000 in
set_option maxRecDepth 100000 in
theorem mixOrder_walk {w : World} (x : Int) (hx : -9223372036854775808 ≤ x ∧ x ≤ 9223372036854775807) {Am As : Option Addr} {nm cm ns cs : Nat} {M S : Nat → Nsl}
    (hm : Ns w Am nm cm M) (hs : Ns w As ns cs S) (y : Int) (hy : -9223372036854775808 ≤ y ∧ y ≤ 9223372036854775807) :
    Calls Tryz.prog 9 #[.int .i64 x, .slice Am nm cm, .slice As ns cs, .int .i64 y] w (AnsV (.bool true) w) := by
  have HY := Lib.hid hy
  clear hy
  have HM := Lib.hid hm
  have HS := Lib.hid hs
  have HX := Lib.hid hx
  have he := ne_err0
  have he1 := eq_err0
  clear hm hs hx
  go_enter Tryz.func9, Tryz.ntmps9
  go_wp2_with fail
  refine (up7_any w).mono ?_
  rintro e w0 ⟨rfl, b0⟩
  have B0 := Lib.hid (show B7 w w0 from b0)
  clear b0
  go_wp2_with fail
  refine (known_any x HX.out w0).mono ?_
  rintro e w1 ⟨A, n, c, A', n', c', rfl, kg, b1⟩
  have B1 := Lib.hid (B0.out.trans b1)
  have KGG := Lib.hid kg
  clear b1 kg B0
  go_wp2_with fail
  refine (kg_new (kix_lt x) KGG.out).mono ?_
  rintro e w2 ⟨b, d, rfl, gr, -, -, -, b2, -, -⟩
  have B2 := Lib.hid (B1.out.trans b2)
  have GR := Lib.hid gr
  have SF := Lib.hid gr.safe
  have EG := Lib.hid gr.el
  clear b2 gr KGG B1
  go_wp2_with fail
  refine (gscalars_any GR.out.toGr0).mono ?_
  rintro e w3 ⟨bs, As', cs', lows, Bs, cBs, Ss, cSs, rfl, -, b3, -⟩
  have B3 := Lib.hid (B2.out.trans b3)
  have GR3 := Lib.hid (B7.gr b3 GR.out)
  clear b3 GR B2
  go_wp2_with fail
  obtain ⟨q, hq⟩ : ∃ q, min nm 3 = q := ⟨_, rfl⟩
  have q5 : q ≤ 3 := by omega
  refine (elements_any GR3.out (B3.out.ns HM.out) 3 (by omega)).mono ?_
  rw [hq]
  rintro e w4 ⟨Al, cl, SL, rfl, hns, -, hel, -, b4⟩
  have b4 : B7 w3 w4 := b4
  have B4 := Lib.hid (B3.out.trans b4)
  have GR4 := Lib.hid (b4.gr GR3.out)
  have SA := Lib.hid hns
  have SE := Lib.hid (show ElS d.P d.Q SL q from fun i hi => by rw [(hel i hi).1]; exact elN_el SF.out.p2 SF.out.q1 EG.out M i)
  clear hns hel b4 hq B3 GR3
  rcases Nat.eq_zero_or_pos q with g2 | g2
  · have e2 : ((q : Int) == 0) = true := by simp; omega
    go_wp2_with fail
    go_ret
    exact ⟨rfl, B4.out⟩
  have e2 : ((q : Int) == 0) = false := by simp; omega
  obtain ⟨ne, hne⟩ : ∃ ne, min ns 5 = ne := ⟨_, rfl⟩
  go_upto_if 69 with fail
  go_cut [2] (fun v wx => v = .slice As ne cs ∧ w4 = wx)
  case first =>
    rcases Nat.lt_or_ge 5 ns with g3 | g3
    · have e3 : decide ((5 : Int) < (ns : Int)) = true := by simp; omega
      have h1 := HS.out.nc
      have hnc : 5 ≤ cs := by omega
      have hnc2 : (5 : Int) ≤ (cs : Int) := by omega
      obtain rfl : ne = 5 := by omega
      clear h1
      go_wp2_with fail
      go_meet
      exact ⟨rfl, rfl⟩
    · have e3 : decide ((5 : Int) < (ns : Int)) = false := by simp; omega
      obtain rfl : ne = ns := by omega
      go_wp2_with fail
      go_meet
      exact ⟨rfl, rfl⟩
  case rest =>
  obtain ⟨rfl, rfl⟩ := hcut
  have ne4 : ne ≤ 5 := by omega
  have HS' := Lib.hid (HS.out.cut (show ne ≤ ns by omega))
  clear hne HS
  obtain ⟨F, hF⟩ : ∃ F, atN S ne = F := ⟨_, rfl⟩
  have HF := Lib.hid hF
  have F0 := Lib.hid (show ∀ i, 0 ≤ F i from fun i => by rw [← hF]; exact atN_pos HS'.out i)
  have F1 := Lib.hid (show ∀ i, dl (F i) ≤ 64 from fun i => by rw [← hF]; exact atN_dl HS'.out i)
  clear hF
  have NL := Lib.hid (ns_one (nil_nm w4))
  have ba := B7.alloc w4 (.cells #[.slice none 0 0] 23)
  have BA := Lib.hid (B4.out.trans ba)
  have GRA := Lib.hid (ba.gr GR4.out)
  have SAA := Lib.hid (ba.ns SA.out)
  clear ba B4 GR4 SA
  go_wp2_with fail
  refine (scalars_any NL.out (base := 0) (fun i hi a ha => by cases ha) (Nat.zero_le _) 0 q (by omega) (by omega)).mono ?_
  rintro e w5 ⟨AZ, cZ, SZ, rfl, hZ, hZF, -, b5⟩
  have b5 : B7 _ w5 := b5
  have B5 := Lib.hid (BA.out.trans b5)
  have GR5 := Lib.hid (b5.gr GRA.out)
  have SA5 := Lib.hid (b5.ns SAA.out)
  have LZ := Lib.hid hZ
  have ZF := Lib.hid (show ∀ i, i < q → (SZ i).N = 0 from fun i hi => by
    have h := (hZF i hi).1
    rw [h]; show (if 1 = 0 then (1 : Int) else (0 : Int) % W ^ 40) = 0; rw [if_neg (by decide), Int.zero_emod])
  clear hZ hZF b5 BA GRA SAA NL
  go_wp2_with fail
  refine (gg_any GR5.out).mono ?_
  rintro e w6 ⟨AG, nG, cG, rfl, hgn, b6, -⟩
  have b6 : B7 w5 w6 := b6
  have B6 := Lib.hid (B5.out.trans b6)
  have GR6 := Lib.hid (b6.gr GR5.out)
  have SA6 := Lib.hid (b6.ns SA5.out)
  have LZ6 := Lib.hid (b6.ns LZ.out)
  have KY6 := Lib.hid hgn.nm
  clear hgn b6 B5 GR5 SA5 LZ
  go_wp2_with fail
  refine (scalars_any (B6.out.ns HS'.out) HS'.out.base B6.out.sz 1 q (by omega) (by omega)).mono ?_
  rw [HF.out]
  rintro e w9 ⟨AR, cR, SR, rfl, hR, hRF, -, b9⟩
  have b9 : B7 w6 w9 := b9
  have B9 := Lib.hid (B6.out.trans b9)
  have GR9 := Lib.hid (b9.gr GR6.out)
  have SA9 := Lib.hid (b9.ns SA6.out)
  have LZ9 := Lib.hid (b9.ns LZ6.out)
  have KY9 := Lib.hid (b9.nm KY6.out)
  have RL := Lib.hid hR
  have RF := Lib.hid (show ∀ i, i < q → dl (SR i).N ≤ 64 from fun i hi => by
    have h : (SR i).N = F (1 + i) := (hRF i hi).1
    rw [h]; exact F1.out _)
  clear hR hRF b9 B6 GR6 SA6 KY6 LZ6
  go_wp2_with fail
  refine (seal_ok GR9.out KY9.out SA9.out RL.out g2 (by omega) RF.out EG.out SE.out).mono ?_
  rintro e w10 ⟨A10, c10, S10, rfl, lo10, hT10, b10⟩
  have b10 : B7 w9 w10 := b10
  have B10 := Lib.hid (B9.out.trans b10)
  have GR10 := Lib.hid (b10.gr GR9.out)
  have LZ10 := Lib.hid (b10.ns LZ9.out)
  have CH10 := Lib.hid lo10.ch
  have CC10 := Lib.hid lo10.can
  obtain ⟨T, hT⟩ : ∃ T : Nat → Trp, T = fun i => Trp.of (S10 i) := ⟨_, rfl⟩
  have HTT := Lib.hid hT
  have ET := Lib.hid (show ∀ i, i < q → ElT d.P d.Q (T i) from fun i hi => by
    have h : Trp.of (S10 i) = sealN d.P d.Q d.G d.G (SL i).N (SR i).N := hT10 i hi
    rw [hT]; show ElT d.P d.Q (Trp.of (S10 i)); rw [h]; exact sealN_el SF.out.p2 SF.out.q1 EG.out EG.out (SE.out i hi) _)
  clear lo10 hT10 b10 B9 GR9 SA9 KY9 LZ9 RL RF hT
  obtain ⟨z, hz⟩ : ∃ z : Int, (if y < 0 then -(y + 1) else y) = z := ⟨_, rfl⟩
  have z0 : 0 ≤ z ∧ z ≤ 9223372036854775807 := by have := HY.out; rw [← hz]; split <;> omega
  have HZ := Lib.hid hz
  have Z0 := Lib.hid z0
  clear hz z0
  go_upto_if 93 with fail
  go_cut [3] (fun v wx => v = .int .i64 z ∧ w10 = wx)
  case first =>
    rcases Int.lt_or_le y 0 with g3 | g3
    · have e3 : decide (y < 0) = true := by simp; omega
      have e4 : IntKind.i64.wrap (y + 1) = y + 1 := IntWalk.i64_in _ (by have := HY.out; omega)
      have e5 : IntKind.i64.wrap (-(y + 1)) = -(y + 1) := IntWalk.i64_in _ (by have := HY.out; omega)
      have E6 := Lib.hid (show -(y + 1) = z by rw [← HZ.out, if_pos g3])
      go_wp2_with fail
      go_meet
      exact ⟨by rw [E6.out], rfl⟩
    · have e3 : decide (y < 0) = false := by simp; omega
      have E6 := Lib.hid (show y = z by rw [← HZ.out, if_neg (by omega)])
      go_wp2_with fail
      go_meet
      exact ⟨by rw [E6.out], rfl⟩
  case rest =>
  obtain ⟨rfl, rfl⟩ := hcut
  have z0 := Z0.out
  clear HZ Z0
  obtain ⟨zz, rfl⟩ : ∃ zz : Nat, z = (zz : Int) := ⟨z.toNat, by omega⟩
  obtain ⟨t, ht⟩ : ∃ t, zz % ne = t := ⟨_, rfl⟩
  have HTM := Lib.hid ht
  obtain ⟨H, hH⟩ : ∃ H : Nat → Int, H = fun p => F ((p + t) % ne) := ⟨_, rfl⟩
  have HH := Lib.hid hH
  have H0 := Lib.hid (show ∀ i, 0 ≤ H i from fun i => by rw [hH]; exact F0.out _)
  clear ht hH HY
  go_wp2_with fail
  obtain ⟨wc, rfl⟩ : ∃ wc, wc = w10 := ⟨_, rfl⟩
  go_loopw [18, 19, 20, 21] (fun va vb vs i wr => OrdR T d.P d.Q d.G F H ne q wc va vb vs i wr) (fun _ _ _ i _ => ne - (intOf i).toNat)
  case atStart => exact ⟨0, _, _, _, _, _, _, _, _, _, Nat.zero_le _, rfl, rfl, rfl, rfl, CH10.out, CC10.out, CH10.out, CC10.out, by rw [show sumN F 0 % d.Q = 0 from Int.zero_emod _]; exact nil_nm _,
    fun p hp => ⟨by rw [show sumN F 0 = 0 from rfl, strip_zero SF.out.p2 SF.out.q1 (ET.out p hp), HTT.out], by rw [show sumN H 0 = 0 from rfl, strip_zero SF.out.p2 SF.out.q1 (ET.out p hp), HTT.out]⟩, B7.refl _⟩
  case round =>
    obtain ⟨i, A1, c1, S1, A2, c2, S2, B0, nb0, cb0, hi, rfl, rfl, rfl, rfl, hch1, hc1, hch2, hc2, hb0, hTT, hbl⟩ := hrel
    have CH1 := Lib.hid hch1
    have CC1 := Lib.hid hc1
    have CH2 := Lib.hid hch2
    have CC2 := Lib.hid hc2
    have SM := Lib.hid hb0
    have TT := Lib.hid hTT
    have HBL := Lib.hid hbl
    clear hch1 hc1 hch2 hc2 hb0 hTT hbl
    rcases Nat.lt_or_ge i ne with hlt | hge
    · --<L
      have hjk : (i : Int) < (ne : Int) := by omega
      have tlt : t < ne := by rw [← HTM.out]; exact Nat.mod_lt _ (by omega)
      obtain ⟨r, hr⟩ : ∃ r, (i + t) % ne = r := ⟨_, rfl⟩
      have HRR := Lib.hid hr
      have rlt : r < ne := by rw [← hr]; exact Nat.mod_lt _ (by omega)
      have n0 : ((ne : Int) == 0) = false := by simp; omega
      have n1 : ¬ (ne : Int) = 0 := by omega
      have n2 : ((zz : Int)).tmod (ne : Int) = (t : Int) := by rw [Int.tmod_eq_emod_of_nonneg (by omega), ← HTM.out]; exact (Int.natCast_emod zz ne).symm
      have n3 : IntKind.i64.wrap (t : Int) = (t : Int) := IntWalk.i64_in _ (by omega)
      have n4 : IntKind.i64.wrap ((i : Int) + (t : Int)) = (i : Int) + (t : Int) := IntWalk.i64_in _ (by omega)
      have n7 : ((i : Int) + (t : Int)) % (ne : Int) = (r : Int) := by rw [← hr, Int.natCast_emod, Int.natCast_add]
      have n5 : ((i : Int) + (t : Int)).tmod (ne : Int) = (r : Int) := by rw [Int.tmod_eq_emod_of_nonneg (by omega)]; exact n7
      have n6 : IntKind.i64.wrap (r : Int) = (r : Int) := IntWalk.i64_in _ (by omega)
      clear hr
      have ZD := Lib.hid (show ∀ p, p < q → dl (SZ p).N ≤ 64 from fun p hp => by rw [ZF.out p hp, (dl_zero (Int.le_refl 0)).2 rfl]; omega)
      go_wp2_with fail
      refine (at7_any ((B10.out.trans HBL.out).ns HS'.out) HS'.out.base i (by omega)).mono ?_
      rw [HF.out]
      rintro e u1 ⟨A3, n3', c3, rfl, h3, -, -, b1⟩
      have b1 : B7 wr u1 := b1
      have bo := B7.alloc u1 (.cells #[.int .u64 1] 78)
      have C1 := Lib.hid (HBL.out.trans (b1.trans bo))
      have N3 := Lib.hid (bo.nm h3)
      have O1 := Lib.hid (lit_nm u1 (x := 1) (by decide) (by decide))
      have CH1a := Lib.hid (bo.ch (b1.ch CH1.out))
      have CH2a := Lib.hid (bo.ch (b1.ch CH2.out))
      have SMa := Lib.hid (bo.nm (b1.nm SM.out))
      clear h3 b1 bo CH1 CH2 SM HBL
      go_wp2_with fail
      refine (strip_ok (C1.out.gr GR10.out) N3.out O1.out CH1a.out (C1.out.ns LZ10.out) g2 (by omega) (F1.out i) ZD.out (el_one SF.out.p2) (fun p hp => by rw [(TT.out p hp).1]; exact stripN_el SF.out.p2 SF.out.q1 EG.out (el_one SF.out.p2) (ET.out p hp) _ _)).mono ?_
      rintro e u2 ⟨A4, c4, S4, rfl, lo4, hT4, b2⟩
      have b2 : B7 _ u2 := b2
      have C2 := Lib.hid (C1.out.trans b2)
      have CH4 := Lib.hid lo4.ch
      have CC4 := Lib.hid lo4.can
      have CH2b := Lib.hid (b2.ch CH2a.out)
      have SMb := Lib.hid (b2.nm SMa.out)
      have T4 := Lib.hid (show ∀ p, p < q → Trp.of (S4 p) = stripN d.P d.Q d.G (sumN F (i + 1)) 1 (T p) 0 from fun p hp => by
        have h : Trp.of (S4 p) = stripN d.P d.Q d.G (F i) 1 (Trp.of (S1 p)) (SZ p).N := hT4 p hp
        rw [h, ZF.out p hp, (TT.out p hp).1, strip_strip SF.out.p2 SF.out.q1 EG.out (ET.out p hp) (sumN_pos F0.out i) (F0.out i)]
        rfl)
      clear lo4 hT4 b2 C1 N3 O1 CH1a CH2a SMa
      go_wp2_with fail
      clear n0 n1 n2 n3 n4 n5 n6 n7
      with_reducible refine (at7_any ((B10.out.trans C2.out).ns HS'.out) HS'.out.base r (Nat.le_trans (Nat.le_of_lt rlt) (Nat.le_trans ne4 (by decide)))).mono ?_
      rw [HF.out]
      rintro e u3 ⟨A5, n5', c5, rfl, h5, -, -, b3⟩
      have b3 : B7 u2 u3 := b3
      have bo := B7.alloc u3 (.cells #[.int .u64 1] 78)
      have C3 := Lib.hid (C2.out.trans (b3.trans bo))
      have N5 := Lib.hid (bo.nm h5)
      have O3 := Lib.hid (lit_nm u3 (x := 1) (by decide) (by decide))
      have CH2c := Lib.hid (bo.ch (b3.ch CH2b.out))
      have CH4c := Lib.hid (bo.ch (b3.ch CH4.out))
      have SMc := Lib.hid (bo.nm (b3.nm SMb.out))
      clear h5 b3 bo CH4 CH2b SMb C2
      go_wp2_with fail
      refine (strip_ok (C3.out.gr GR10.out) N5.out O3.out CH2c.out (C3.out.ns LZ10.out) g2 (by omega) (F1.out r) ZD.out (el_one SF.out.p2) (fun p hp => by rw [(TT.out p hp).2]; exact stripN_el SF.out.p2 SF.out.q1 EG.out (el_one SF.out.p2) (ET.out p hp) _ _)).mono ?_
      rintro e u4 ⟨A6, c6, S6, rfl, lo6, hT6, b4⟩
      have b4 : B7 _ u4 := b4
      have C4 := Lib.hid (C3.out.trans b4)
      have CH6 := Lib.hid lo6.ch
      have CC6 := Lib.hid lo6.can
      have CH4d := Lib.hid (b4.ch CH4c.out)
      have SMd := Lib.hid (b4.nm SMc.out)
      have T6 := Lib.hid (show ∀ p, p < q → Trp.of (S6 p) = stripN d.P d.Q d.G (sumN H (i + 1)) 1 (T p) 0 from fun p hp => by
        have h : Trp.of (S6 p) = stripN d.P d.Q d.G (F r) 1 (Trp.of (S2 p)) (SZ p).N := hT6 p hp
        have hr : F r = H i := by rw [HH.out, ← HRR.out]
        rw [h, ZF.out p hp, (TT.out p hp).2, hr, strip_strip SF.out.p2 SF.out.q1 EG.out (ET.out p hp) (sumN_pos H0.out i) (H0.out i)]
        rfl)
      clear lo6 hT6 b4 C3 N5 O3 CH2c CH4c SMc
      go_wp2_with fail
      refine (gscalars_any (C4.out.gr GR10.out).toGr0).mono ?_
      rintro e u5 ⟨bs1, As1, cs1, lows1, Bs1, cBs1, Ss1, cSs1, rfl, md, b5, -⟩
      have b5 : B7 u4 u5 := b5
      have C5 := Lib.hid (C4.out.trans b5)
      have MD := Lib.hid md
      have CH4e := Lib.hid (b5.ch CH4d.out)
      have CH6e := Lib.hid (b5.ch CH6.out)
      have SMe := Lib.hid (b5.nm SMd.out)
      clear md b5 CH4d CH6 SMd C4
      go_wp2_with fail
      refine (at7_any ((B10.out.trans C5.out).ns HS'.out) HS'.out.base i (by omega)).mono ?_
      rw [HF.out]
      rintro e u6 ⟨A7, n7, c7, rfl, h7, -, -, b6⟩
      have b6 : B7 u5 u6 := b6
      have C6 := Lib.hid (C5.out.trans b6)
      have MD6 := Lib.hid (MD.out.below b6)
      have N7 := Lib.hid h7
      have CH4f := Lib.hid (b6.ch CH4e.out)
      have CH6f := Lib.hid (b6.ch CH6e.out)
      have SMf := Lib.hid (b6.nm SMe.out)
      clear h7 b6 CH4e CH6e SMe C5 MD
      go_wp2_with fail
      refine (madd_any MD6.out SMf.out N7.out (rest_dl GR10.out _) (F1.out i)).mono ?_
      rintro e u7 ⟨B8, nb8, cb8, rfl, hcn, b7, -⟩
      have b7 : B7 u6 u7 := b7
      have C7 := Lib.hid (C6.out.trans b7)
      have N8 := Lib.hid hcn.nm
      have CH4g := Lib.hid (b7.ch CH4f.out)
      have CH6g := Lib.hid (b7.ch CH6f.out)
      clear hcn b7 CH4f CH6f SMf C6 MD6 N7
      go_wp2_with fail
      go_roundw
      case rel => exact ⟨i + 1, _, _, _, _, _, _, _, _, _, by omega, by go_num, rfl, rfl, rfl, CH4g.out, CC4.out, CH6g.out, CC6.out, by rw [show sumN F (i + 1) % d.Q = (sumN F i % d.Q + F i) % d.Q by rw [Int.emod_add_emod]; rfl]; exact N8.out, fun p hp => ⟨T4.out p hp, T6.out p hp⟩, C7.out⟩
      case measure => simp [intOf]; omega
      --L>
    · --<END
      obtain rfl : i = ne := by omega
      have hjk : decide ((i : Int) < (i : Int)) = false := by simp
      have EQ := Lib.hid (show sumN H i = sumN F i by
        rcases Nat.eq_zero_or_pos i with g | g
        · subst g; rfl
        · rw [HH.out, show (fun p => F ((p + t) % i)) = fun p => F (t + p) by
            funext p; rw [← HF.out, atN_at g, Nat.add_comm]]
          exact sum_round (f := F) (fun p => by rw [← HF.out]; exact atN_round p) t)
      have ZD := Lib.hid (show ∀ p, p < q → dl (SZ p).N ≤ 64 from fun p hp => by rw [ZF.out p hp, (dl_zero (Int.le_refl 0)).2 rfl]; omega)
      have bo := B7.alloc wr (.cells #[.int .u64 1] 78)
      have C1 := Lib.hid (HBL.out.trans bo)
      have O1 := Lib.hid (lit_nm wr (x := 1) (by decide) (by decide))
      have CH1a := Lib.hid (bo.ch CH1.out)
      have CH2a := Lib.hid (bo.ch CH2.out)
      have SMa := Lib.hid (bo.nm SM.out)
      clear bo CH1 CH2 SM HBL
      go_wp2_with fail
      refine (strip_ok (C1.out.gr GR10.out) SMa.out O1.out (C1.out.ch CH10.out) (C1.out.ns LZ10.out) g2 (by omega) (rest_dl GR10.out _) ZD.out (el_one SF.out.p2) (fun p hp => by have h := ET.out p hp; rw [HTT.out] at h; exact h)).mono ?_
      rintro e u2 ⟨A4, c4, S4, rfl, lo4, hT4, b2⟩
      have b2 : B7 _ u2 := b2
      have C2 := Lib.hid ((B10.out.trans C1.out).trans b2)
      have CH4 := Lib.hid lo4.ch
      have CC4 := Lib.hid lo4.can
      have CH1b := Lib.hid (b2.ch CH1a.out)
      have CH2b := Lib.hid (b2.ch CH2a.out)
      have T4 := Lib.hid (show ∀ p, p < q → Trp.of (S1 p) = Trp.of (S4 p) from fun p hp => by
        have h : Trp.of (S4 p) = stripN d.P d.Q d.G (sumN F i % d.Q) 1 (Trp.of (S10 p)) (SZ p).N := hT4 p hp
        rw [h, ZF.out p hp, (TT.out p hp).1, strip_mod SF.out.q1, HTT.out])
      clear lo4 hT4 b2 C1 O1 CH1a CH2a SMa
      go_wp2_with fail
      refine (same7_yes CH1b.out CH2b.out CC1.out CC2.out (fun p hp => by rw [(TT.out p hp).1, (TT.out p hp).2, EQ.out])).mono ?_
      rintro e u3 ⟨rfl, p1, rfl⟩
      have bd := B7.drewN u2 p1
      have C3 := Lib.hid (C2.out.trans bd)
      have CH1c := Lib.hid (bd.ch CH1b.out)
      have CH4c := Lib.hid (bd.ch CH4.out)
      clear bd
      go_wp2_with fail
      refine (same7_yes CH1c.out CH4c.out CC1.out CC4.out T4.out).mono ?_
      rintro e u4 ⟨rfl, p2, rfl⟩
      go_wp2_with fail
      go_ret
      exact ⟨rfl, C2.out.trans (B7.drewN u2 _)⟩
      --END>
end Go.Proofs.YtpmnghealjgkeaaGreat
