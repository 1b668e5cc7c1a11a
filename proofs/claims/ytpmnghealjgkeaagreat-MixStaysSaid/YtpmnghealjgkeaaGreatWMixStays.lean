/-
  MixStays answers true: batches that are handed in stay as they are, and what was answered stays, whatever becomes of them.
-/
import Derived.Test.YtpmnghealjgkeaaGreatB7
import Derived.Test.YtpmnghealjgkeaaGreatOwm
import Derived.Test.YtpmnghealjgkeaaGreatGg
import Derived.Test.YtpmnghealjgkeaaGreatWr7
namespace Go.Proofs.YtpmnghealjgkeaaGreat
open Go.RowKit
set_option linter.unusedVariables false
/-- Nothing that was there has turned but blocks of a kind. -/
structure Trn (X : Nat → Prop) (w0 w : World) : Prop where
  os : w.os = w0.os
  tape : w.tape = w0.tape
  output : w.output = w0.output
  size : w0.heap.size ≤ w.heap.size
  block : ∀ b, b < w0.heap.size → ¬ X b → w.heap[b]? = w0.heap[b]?
theorem Trn.refl (X : Nat → Prop) (w : World) : Trn X w w := ⟨rfl, rfl, rfl, Nat.le_refl _, fun _ _ _ => rfl⟩
theorem Trn.drewN {X : Nat → Prop} {w0 w : World} (h : Trn X w0 w) (m : Nat) : Trn X w0 (w.drewN m) := by
  have b := B7.drewN w m
  exact ⟨(Below.os b).trans h.os, (Below.tape b).trans h.tape, (Below.output b).trans h.output, Nat.le_trans h.size b.sz, fun k hk hx => (Below.block b k (Nat.lt_of_lt_of_le hk h.size)).trans (h.block k hk hx)⟩
theorem Trn.set {X : Nat → Prop} {w0 w : World} (h : Trn X w0 w) {g : Nat} (hg : X g) (k : Nat) (v : Value) : Trn X w0 (w.setCell ⟨g, k, none⟩ v) :=
  ⟨h.os, h.tape, h.output, by simpa using h.size, fun b hb hx => (heap_setCell_other w ⟨g, k, none⟩ b v (by show b ≠ g; rintro rfl; exact hx hg)).trans (h.block b hb hx)⟩
theorem Trn.b7 {X : Nat → Prop} {a w0 w : World} (h : Trn X w0 w) (hb : B7 a w0) (hX : ∀ b, b < a.heap.size → ¬ X b) : B7 a w :=
  ⟨h.os.trans (Below.os hb), h.tape.trans (Below.tape hb), h.output.trans (Below.output hb), Nat.le_trans hb.sz h.size, fun k hk => (h.block k (Nat.lt_of_lt_of_le hk hb.sz) (hX k hk)).trans (Below.block hb k hk)⟩
theorem Wr.set {w : World} {A : Option Addr} {n g k : Nat} {y : Int} (h : Wr w A n) : Wr (w.setCell ⟨g, k, none⟩ (.int .u64 y)) A n := fun hn => by
  obtain ⟨g', cur, e, hg, hc⟩ := h hn
  by_cases q : g' = g
  · subst q
    refine ⟨g', cur.setIfInBounds k (.int .u64 y), e, heap_setCell_same w g' k _ _ _ hg, fun j hj => ?_⟩
    obtain ⟨x, hx⟩ := hc j hj
    by_cases q2 : j = k
    · subst q2; exact ⟨y, Array.getElem?_setIfInBounds_self_of_lt (Array.getElem?_eq_some_iff.1 hx).1⟩
    · exact ⟨x, by rw [Array.getElem?_setIfInBounds_ne (by omega)]; exact hx⟩
  · exact ⟨g', cur, e, (heap_setCell_other w ⟨g, k, none⟩ g' _ q).trans hg, hc⟩
theorem Wr.drewN {w : World} {A : Option Addr} {n : Nat} (h : Wr w A n) (m : Nat) : Wr (w.drewN m) A n := h.stay fun a _ _ hl => Below.block (B7.drewN w m) _ hl
/-- A letter's numbers, as they are turned cell by cell. -/
def StO (X : Nat → Prop) (S : Nat → Stp) (q : Nat) (w0 w : World) : Prop := Trn X w0 w ∧ ∀ i, i < q → Wr w (S i).A1 (S i).n1 ∧ Wr w (S i).A2 (S i).n2
theorem StO.drewN {X : Nat → Prop} {S : Nat → Stp} {q : Nat} {w0 w : World} (h : StO X S q w0 w) (m : Nat) : StO X S q w0 (w.drewN m) := ⟨h.1.drewN m, fun i hi => ⟨(h.2 i hi).1.drewN m, (h.2 i hi).2.drewN m⟩⟩
theorem StO.set {X : Nat → Prop} {S : Nat → Stp} {q : Nat} {w0 w : World} (h : StO X S q w0 w) {g : Nat} (hg : X g) (k : Nat) (y : Int) : StO X S q w0 (w.setCell ⟨g, k, none⟩ (.int .u64 y)) := ⟨h.1.set hg k _, fun i hi => ⟨(h.2 i hi).1.set, (h.2 i hi).2.set⟩⟩
def StyR (X : Nat → Prop) (S : Nat → Stp) (q n : Nat) (w0 : World) (i : Value) (wr : World) : Prop := ∃ j : Nat, j ≤ n ∧ i = .int .i64 j ∧ StO X S q w0 wr
set_option maxHeartbeats 32000000 in
set_option maxRecDepth 100000 in
theorem mixStays_walk {w : World} (x : Int) (hx : -9223372036854775808 ≤ x ∧ x ≤ 9223372036854775807) {Am Ar As : Option Addr} {nm cm nr cr ns cs : Nat} {M R S : Nat → Nsl}
    (hm : Ns w Am nm cm M) (hr : Ns w Ar nr cr R) (hs : Ns w As ns cs S) :
    Calls Tryz.prog 10 #[.int .i64 x, .slice Am nm cm, .slice Ar nr cr, .slice As ns cs] w (AnsV (.bool true) w) := by
  have HM := Lib.hid hm
  have HR := Lib.hid hr
  have HS := Lib.hid hs
  have HX := Lib.hid hx
  have he := ne_err0
  have he1 := eq_err0
  clear hm hr hs hx
  go_enter Tryz.func10, Tryz.ntmps10
  go_wp2_with fail
  refine (up7_any w).mono ?_
  rintro e w0 ⟨rfl, b0⟩
  have B0 := Lib.hid (show B7 w w0 from b0)
  clear b0
  go_wp2_with fail
  refine (known_any x HX.out w0).mono ?_
  rintro e w1 ⟨A, n, c, A', n', c', rfl, kg, b1⟩
  have B1 := Lib.hid (B0.out.trans b1)
  have KGG := Lib.hid kg
  clear b1 kg B0
  go_wp2_with fail
  refine (kg_new (kix_lt x) KGG.out).mono ?_
  rintro e w2 ⟨b, d, rfl, gr, -, -, -, b2, -, -⟩
  have B2 := Lib.hid (B1.out.trans b2)
  have GR := Lib.hid gr
  have SF := Lib.hid gr.safe
  have EG := Lib.hid gr.el
  clear b2 gr KGG B1
  go_wp2_with fail
  obtain ⟨q, hq⟩ : ∃ q, min nm 4 = q := ⟨_, rfl⟩
  have q5 : q ≤ 4 := by omega
  refine (elements_any GR.out (B2.out.ns HM.out) 4 (by omega)).mono ?_
  rw [hq]
  rintro e w4 ⟨Al, cl, SL, rfl, hns, -, hel, -, b4⟩
  have b4 : B7 w2 w4 := b4
  have B4 := Lib.hid (B2.out.trans b4)
  have GR4 := Lib.hid (b4.gr GR.out)
  have SA := Lib.hid hns
  have SE := Lib.hid (show ElS d.P d.Q SL q from fun i hi => by rw [(hel i hi).1]; exact elN_el SF.out.p2 SF.out.q1 EG.out M i)
  clear hns hel b4 hq B2 GR
  rcases Nat.eq_zero_or_pos q with g2 | g2
  · have e2 : ((q : Int) == 0) = true := by simp; omega
    go_wp2_with fail
    go_ret
    exact ⟨rfl, B4.out⟩
  have e2 : ((q : Int) == 0) = false := by simp; omega
  go_wp2_with fail
  clear e2
  -- l
  refine (gg_any GR4.out).mono ?_
  rintro e w5 ⟨AG, nG, cG, rfl, hgn, b5, -⟩
  have b5 : B7 w4 w5 := b5
  have B5 := Lib.hid (B4.out.trans b5)
  have KY5 := Lib.hid hgn.nm
  have GR5 := Lib.hid (b5.gr GR4.out)
  have SA5 := Lib.hid (b5.ns SA.out)
  clear hgn b5 B4 GR4 SA
  go_wp2_with fail
  refine (scalars_any (B5.out.ns HR.out) HR.out.base B5.out.sz 0 q (by omega) (by omega)).mono ?_
  rintro e w6 ⟨AR, cR, SR, rfl, hR, hRF, -, b6⟩
  have b6 : B7 w5 w6 := b6
  have B6 := Lib.hid (B5.out.trans b6)
  have RL := Lib.hid hR
  have RF := Lib.hid (show ∀ i, i < q → (SR i).N = atN R nr i from fun i hi => by have h := (hRF i hi).1; simpa using h)
  have KY6 := Lib.hid (b6.nm KY5.out)
  have GR6 := Lib.hid (b6.gr GR5.out)
  have SA6 := Lib.hid (b6.ns SA5.out)
  clear hR hRF b6 B5 KY5 GR5 SA5
  go_wp2_with fail
  refine (seal_ok GR6.out KY6.out SA6.out RL.out g2 (by omega) (fun i hi => by rw [RF.out i hi]; exact atN_dl HR.out i) EG.out SE.out).mono ?_
  rintro e w7 ⟨A7, c7, S7, rfl, lo7, hT7, b7⟩
  have b7 : B7 w6 w7 := b7
  have B7' := Lib.hid (B6.out.trans b7)
  have CH7 := Lib.hid lo7.ch
  have CN7 := Lib.hid lo7.can
  have T7 := Lib.hid (show ∀ i, i < q → Trp.of (S7 i) = sealN d.P d.Q d.G d.G (SL i).N (atN R nr i) from fun i hi => by
    have h : Trp.of (S7 i) = sealN d.P d.Q d.G d.G (SL i).N (SR i).N := hT7 i hi
    rw [h, RF.out i hi])
  have GR7 := Lib.hid (b7.gr GR6.out)
  have SA7 := Lib.hid (b7.ns SA6.out)
  clear lo7 hT7 b7 B6 KY6 GR6 SA6 RL RF
  go_wp2_with fail
  -- own
  refine (gg_any GR7.out).mono ?_
  rintro e w8 ⟨AG8, nG8, cG8, rfl, hgn, b8, -⟩
  have b8 : B7 w7 w8 := b8
  have B8 := Lib.hid (B7'.out.trans b8)
  have KY8 := Lib.hid hgn.nm
  have GR8 := Lib.hid (b8.gr GR7.out)
  have SA8 := Lib.hid (b8.ns SA7.out)
  have CH8 := Lib.hid (b8.ch CH7.out)
  clear hgn b8 B7' GR7 SA7 CH7
  go_wp2_with fail
  refine (scalars_any (B8.out.ns HR.out) HR.out.base B8.out.sz 0 q (by omega) (by omega)).mono ?_
  rintro e w9 ⟨AR9, cR9, SR9, rfl, hR, hRF, -, b9⟩
  have b9 : B7 w8 w9 := b9
  have B9 := Lib.hid (B8.out.trans b9)
  have RL := Lib.hid hR
  have RF := Lib.hid (show ∀ i, i < q → (SR9 i).N = atN R nr i from fun i hi => by have h := (hRF i hi).1; simpa using h)
  have KY9 := Lib.hid (b9.nm KY8.out)
  have GR9 := Lib.hid (b9.gr GR8.out)
  have SA9 := Lib.hid (b9.ns SA8.out)
  have CH9 := Lib.hid (b9.ch CH8.out)
  clear hR hRF b9 B8 KY8 GR8 SA8 CH8
  go_wp2_with fail
  refine (seal_okW GR9.out KY9.out SA9.out RL.out g2 (by omega) (fun i hi => by rw [RF.out i hi]; exact atN_dl HR.out i) EG.out SE.out).mono ?_
  rintro e w10 ⟨A10, c10, S10, rfl, lo10, hT10, b10⟩
  have b10 : B7 w9 w10 := b10
  have LO10 := Lib.hid lo10
  have T10 := Lib.hid (show ∀ i, i < q → Trp.of (S10 i) = sealN d.P d.Q d.G d.G (SL i).N (atN R nr i) from fun i hi => by
    have h : Trp.of (S10 i) = sealN d.P d.Q d.G d.G (SL i).N (SR9 i).N := hT10 i hi
    rw [h, RF.out i hi])
  have C10 := Lib.hid b10
  clear lo10 hT10 b10 KY9 SA9 RL RF
  go_wp2_with fail
  -- a
  refine (gg_any (C10.out.gr GR9.out)).mono ?_
  rintro e w11 ⟨AG11, nG11, cG11, rfl, hgn, b11, -⟩
  have b11 : B7 w10 w11 := b11
  have C11 := Lib.hid (C10.out.trans b11)
  have D11 := Lib.hid b11
  have KY11 := Lib.hid hgn.nm
  clear hgn b11
  go_wp2_with fail
  refine (scalars_any ((B9.out.trans C11.out).ns HS.out) HS.out.base (B9.out.trans C11.out).sz 0 q (by omega) (by omega)).mono ?_
  rintro e w12 ⟨AS12, cS12, SS12, rfl, hR, hRF, -, b12⟩
  have b12 : B7 w11 w12 := b12
  have C12 := Lib.hid (C11.out.trans b12)
  have D12 := Lib.hid (D11.out.trans b12)
  have RL := Lib.hid hR
  have RF := Lib.hid (show ∀ i, i < q → (SS12 i).N = atN S ns i from fun i hi => by have h := (hRF i hi).1; simpa using h)
  have KY12 := Lib.hid (b12.nm KY11.out)
  clear hR hRF b12 KY11 C11 D11
  go_wp2_with fail
  refine (anew_ok (C12.out.gr GR9.out) KY12.out (D12.out.ch LO10.out.ch) RL.out g2 (by omega) (fun i hi => by rw [RF.out i hi]; exact atN_dl HS.out i) EG.out (fun i hi => by rw [T10.out i hi]; exact sealN_el SF.out.p2 SF.out.q1 EG.out EG.out (SE.out i hi) _)).mono ?_
  rintro e w13 ⟨A13, c13, S13, rfl, lo13, hT13, b13⟩
  have b13 : B7 w12 w13 := b13
  have C13 := Lib.hid (C12.out.trans b13)
  have D13 := Lib.hid (D12.out.trans b13)
  have LO13 := Lib.hid (show Lo w13 w10.heap.size A13 q c13 S13 from lo13.base D12.out.sz)
  have T13 := Lib.hid (show ∀ i, i < q → Trp.of (S13 i) = anewN d.P d.Q d.G d.G (sealN d.P d.Q d.G d.G (SL i).N (atN R nr i)) (atN S ns i) from fun i hi => by
    have h : Trp.of (S13 i) = anewN d.P d.Q d.G d.G (Trp.of (S10 i)) (SS12 i).N := hT13 i hi
    rw [h, RF.out i hi, T10.out i hi])
  clear lo13 hT13 b13 KY12 C12 D12 RL RF
  go_wp2_with fail
  refine (same7_yes (D13.out.ch LO10.out.ch) (C13.out.ch CH9.out) LO10.out.can CN7.out (fun i hi => (T10.out i hi).trans (T7.out i hi).symm)).mono ?_
  rintro e w14 ⟨rfl, m14, rfl⟩
  obtain ⟨w14, hw14⟩ : ∃ w14, w14 = w13.drewN m14 := ⟨_, rfl⟩
  have b14 : B7 w13 w14 := by rw [hw14]; exact B7.drewN _ _
  rw [← hw14]
  have C14 := Lib.hid (C13.out.trans b14)
  have D14 := Lib.hid (D13.out.trans b14)
  have LO14 := Lib.hid (LO10.out.below D14.out)
  have LA14 := Lib.hid (LO13.out.below b14)
  obtain ⟨gA, oA, rfl, lA, yA⟩ := LO14.out.ch.ex g2
  have YA := Lib.hid yA
  obtain ⟨X, hX⟩ : ∃ X : Nat → Prop, X = fun k => w9.heap.size ≤ k ∧ k < w10.heap.size ∧ k ≠ gA := ⟨_, rfl⟩
  have X1 := Lib.hid (show ∀ i, i < q → ∀ a, (S10 i).A1 = some a → 0 < (S10 i).n1 → X a.block from fun i hi a ha h0 => by
    rw [hX]; exact ⟨(LO10.out.newS i hi).1 a ha, (LO10.out.ch.at_ i hi).p.blk h0 a ha, (LO10.out.far i hi _ rfl).1 a ha⟩)
  have X2 := Lib.hid (show ∀ i, i < q → ∀ a, (S10 i).A2 = some a → 0 < (S10 i).n2 → X a.block from fun i hi a ha h0 => by
    rw [hX]; exact ⟨(LO10.out.newS i hi).2.1 a ha, (LO10.out.ch.at_ i hi).q.blk h0 a ha, (LO10.out.far i hi _ rfl).2 a ha⟩)
  have XA := Lib.hid (show ¬ X gA by rw [hX]; exact fun h => h.2.2 rfl)
  have XL := Lib.hid (show ∀ k, k < w9.heap.size → ¬ X k from fun k hk => by rw [hX]; exact fun h => by have := h.1; omega)
  have XH := Lib.hid (show ∀ k, w10.heap.size ≤ k → ¬ X k from fun k hk => by rw [hX]; exact fun h => by have := h.2.1; omega)
  have ST := Lib.hid (show StO X S10 q w14 w14 from ⟨Trn.refl _ _, LO14.out.wr⟩)
  have L1 := Lib.hid (show ∀ i, i < q → (S10 i).n1 ≤ 17592186044416 ∧ (S10 i).n2 ≤ 17592186044416 from fun i hi => ⟨by have h := (LO10.out.ch.at_ i hi).p; have := h.nc; have := h.c60; omega, by have h := (LO10.out.ch.at_ i hi).q; have := h.nc; have := h.c60; omega⟩)
  clear b14 hw14 yA hX C13 D13 C10
  go_wp2_with fail
  go_loopw [22] (fun i wr => StyR X S10 q q w14 i wr) (fun i _ => q - (intOf i).toNat)
  case atStart => exact ⟨0, Nat.zero_le _, rfl, ST.out⟩
  case round =>
    clear ST
    obtain ⟨j, hj, rfl, hst⟩ := hrel
    have HST := Lib.hid hst
    clear hst
    rcases Nat.lt_or_ge j q with hlt | hge
    · --<L1
      have hjq : (j : Int) < (q : Int) := by omega
      obtain ⟨s, hs⟩ : ∃ s, S10 j = s := ⟨_, rfl⟩
      have HSJ := Lib.hid hs
      have n1l : s.n1 ≤ 17592186044416 := by rw [← hs]; exact (L1.out j hlt).1
      have n2l : s.n2 ≤ 17592186044416 := by rw [← hs]; exact (L1.out j hlt).2
      have CELL := Lib.hid (show ∀ W, Trn X w14 W → W.cell? ⟨gA, oA + j * 3, none⟩ = some (.slice s.A1 s.n1 s.c1) ∧ W.cell? ⟨gA, oA + j * 3 + 1, none⟩ = some (.slice s.A2 s.n2 s.c2) from fun W h => by
        have hk := h.block gA lA XA.out
        have cc := YA.out j hlt
        rw [hs] at cc
        exact ⟨(World.cell?_of_block (a := ⟨gA, oA + j * 3, none⟩) hk).trans cc.c0, (World.cell?_of_block (a := ⟨gA, oA + j * 3 + 1, none⟩) hk).trans cc.c1⟩)
      clear hs
      go_wp2_with fail
      go_loopw [23] (fun i wr => StyR X S10 q s.n1 w14 i wr) (fun i _ => s.n1 - (intOf i).toNat)
      case atStart => exact ⟨0, Nat.zero_le _, rfl, HST.out⟩
      case round =>
        obtain ⟨k, hk, rfl, hst2⟩ := hrel
        have HST2 := Lib.hid hst2
        have z0 := (CELL.out _ hst2.1).1
        rcases Nat.lt_or_ge k s.n1 with hlt2 | hge2
        · obtain ⟨g, cur, eA, hg, hc⟩ := (hst2.2 j hlt).1 (by rw [HSJ.out]; omega)
          rw [HSJ.out] at eA hc
          obtain ⟨y, hy⟩ := hc k hlt2
          have hXg : X g := X1.out j hlt ⟨g, 0, none⟩ (by rw [HSJ.out]; exact eA) (by rw [HSJ.out]; omega)
          have hkn : (k : Int) < (s.n1 : Int) := by omega
          have hcell : wr.cell? ⟨g, k, none⟩ = some (.int .u64 y) := (cell_of_row wr g k cur _ _ hg).trans hy
          have hfz := frozen_of_row wr g k cur _ hg
          have HXG := Lib.hid hXg
          rw [eA] at z0
          clear hst2 hg hc hy eA hXg
          go_wp2_with fail
          go_region
          all_goals
            go_wp2_with fail
            go_roundw
            case rel =>
              refine ⟨k + 1, by omega, by go_num, ?_⟩
              first
              | exact (HST2.out.drewN 1).set HXG.out _ _
              | exact (HST2.out.set HXG.out _ _).drewN 1
            case measure => simp [intOf]; omega
        · obtain rfl : k = s.n1 := by omega
          have hkn : decide ((s.n1 : Int) < (s.n1 : Int)) = false := by simp
          clear hst2
          go_wp2_with fail
          clear hkn z0
          go_loopw [24] (fun i wr => StyR X S10 q s.n2 w14 i wr) (fun i _ => s.n2 - (intOf i).toNat)
          case atStart => exact ⟨0, Nat.zero_le _, rfl, HST2.out⟩
          case round =>
            obtain ⟨k, hk, rfl, hst3⟩ := hrel
            have HST3 := Lib.hid hst3
            have z0 := (CELL.out _ hst3.1).2
            rcases Nat.lt_or_ge k s.n2 with hlt3 | hge3
            · obtain ⟨g, cur, eA, hg, hc⟩ := (hst3.2 j hlt).2 (by rw [HSJ.out]; omega)
              rw [HSJ.out] at eA hc
              obtain ⟨y, hy⟩ := hc k hlt3
              have hXg : X g := X2.out j hlt ⟨g, 0, none⟩ (by rw [HSJ.out]; exact eA) (by rw [HSJ.out]; omega)
              have hkn : (k : Int) < (s.n2 : Int) := by omega
              have hcell : wr.cell? ⟨g, k, none⟩ = some (.int .u64 y) := (cell_of_row wr g k cur _ _ hg).trans hy
              have hfz := frozen_of_row wr g k cur _ hg
              have HXG := Lib.hid hXg
              rw [eA] at z0
              clear hst3 hg hc hy eA hXg
              go_wp2_with fail
              go_region
              all_goals
                go_wp2_with fail
                go_roundw
                case rel =>
                  refine ⟨k + 1, by omega, by go_num, ?_⟩
                  first
                  | exact (HST3.out.drewN 1).set HXG.out _ _
                  | exact (HST3.out.set HXG.out _ _).drewN 1
                case measure => simp [intOf]; omega
            · obtain rfl : k = s.n2 := by omega
              have hkn : decide ((s.n2 : Int) < (s.n2 : Int)) = false := by simp
              clear hst3
              go_wp2_with fail
              go_roundw
              case rel => exact ⟨j + 1, by omega, by go_num, HST3.out⟩
              case measure => simp [intOf]; omega
      --L1>
    obtain rfl : j = q := by omega
    have hjq : decide ((j : Int) < (j : Int)) = false := by simp
    have E14 := Lib.hid (HST.out.1.b7 C14.out XL.out)
    have BE := Lib.hid (B9.out.trans E14.out)
    have GRE := Lib.hid (E14.out.gr GR9.out)
    have CHE := Lib.hid (E14.out.ch CH9.out)
    have CHA := Lib.hid (show Ch wr A13 j c13 S13 from LA14.out.ch.stay HST.out.1.size fun k hk => HST.out.1.block k (LA14.out.ch.blt hk) (XH.out k (LA14.out.bl hk)))
    have CNA := Lib.hid LA14.out.can
    have elE := Lib.hid (show ∀ i, i < j → ElT d.P d.Q (Trp.of (S7 i)) from fun i hi => by rw [T7.out i hi]; exact sealN_el SF.out.p2 SF.out.q1 EG.out EG.out (SE.out i hi) _)
    clear HST X1 X2 XA XL XH LO14 LA14 YA C14 D14 L1 LO10 LO13
    go_wp2_with fail
    refine (gg_any GRE.out).mono ?_
    rintro e w15 ⟨AG15, nG15, cG15, rfl, hgn, b15, -⟩
    have b15 : B7 wr w15 := b15
    have B15 := Lib.hid (BE.out.trans b15)
    have D15 := Lib.hid b15
    have KY15 := Lib.hid hgn.nm
    clear hgn b15
    go_wp2_with fail
    refine (scalars_any (B15.out.ns HS.out) HS.out.base B15.out.sz 0 j (by omega) (by omega)).mono ?_
    rintro e w16 ⟨AS16, cS16, SS16, rfl, hR, hRF, -, b16⟩
    have b16 : B7 w15 w16 := b16
    have D16 := Lib.hid (D15.out.trans b16)
    have RL := Lib.hid hR
    have RF := Lib.hid (show ∀ i, i < j → (SS16 i).N = atN S ns i from fun i hi => by have h := (hRF i hi).1; simpa using h)
    have KY16 := Lib.hid (b16.nm KY15.out)
    clear hR hRF b16 KY15 B15 D15
    go_wp2_with fail
    refine (anew_ok (D16.out.gr GRE.out) KY16.out (D16.out.ch CHE.out) RL.out g2 (by omega) (fun i hi => by rw [RF.out i hi]; exact atN_dl HS.out i) EG.out elE.out).mono ?_
    rintro e w17 ⟨A17, c17, S17, rfl, lo17, hT17, b17⟩
    have b17 : B7 w16 w17 := b17
    have D17 := Lib.hid (D16.out.trans b17)
    have CH17 := Lib.hid lo17.ch
    have CN17 := Lib.hid lo17.can
    have T17 := Lib.hid (show ∀ i, i < j → Trp.of (S13 i) = Trp.of (S17 i) from fun i hi => by
      have h : Trp.of (S17 i) = anewN d.P d.Q d.G d.G (Trp.of (S7 i)) (SS16 i).N := hT17 i hi
      rw [h, RF.out i hi, T7.out i hi, T13.out i hi])
    clear lo17 hT17 b17 KY16 D16 RL RF
    go_wp2_with fail
    refine (turn_ok (D17.out.gr GRE.out) (D17.out.ch CHE.out) g2 (by omega) elE.out).mono ?_
    rintro e w18 ⟨A18, c18, S18, rfl, lo18, hT18, b18⟩
    have b18 : B7 w17 w18 := b18
    have D18 := Lib.hid (D17.out.trans b18)
    have E18 := Lib.hid b18
    have CH18 := Lib.hid lo18.ch
    have CN18 := Lib.hid lo18.can
    have T18 := Lib.hid hT18
    clear lo18 hT18 b18
    go_wp2_with fail
    refine (turn_ok (D18.out.gr GRE.out) (D18.out.ch CHE.out) g2 (by omega) elE.out).mono ?_
    rintro e w19 ⟨A19, c19, S19, rfl, lo19, hT19, b19⟩
    have b19 : B7 w18 w19 := b19
    have D19 := Lib.hid (D18.out.trans b19)
    have E19 := Lib.hid (E18.out.trans b19)
    have CH18b := Lib.hid (b19.ch CH18.out)
    have CH19 := Lib.hid lo19.ch
    have CN19 := Lib.hid lo19.can
    have T19 := Lib.hid (show ∀ i, i < j → Trp.of (S18 i) = Trp.of (S19 i) from fun i hi => (T18.out i hi).trans (hT19 i hi).symm)
    clear lo19 hT19 b19
    go_wp2_with fail
    refine (same7_yes (D19.out.ch CHA.out) (E19.out.ch CH17.out) CNA.out CN17.out T17.out).mono ?_
    rintro e w20 ⟨rfl, m20, rfl⟩
    have b20 : B7 w19 (w19.drewN m20) := B7.drewN _ _
    have CHt := Lib.hid (b20.ch CH18b.out)
    have CHt2 := Lib.hid (b20.ch CH19.out)
    clear b20
    go_wp2_with fail
    refine (same7_yes CHt.out CHt2.out CN18.out CN19.out T19.out).mono ?_
    rintro e w21 ⟨rfl, m21, rfl⟩
    go_wp2_with fail
    go_ret
    first
    | exact ⟨rfl, (BE.out.trans D19.out).trans (B7.drewN _ _)⟩
    | exact ⟨rfl, (BE.out.trans D19.out).trans ((B7.drewN w19 m20).trans (B7.drewN _ _))⟩
end Go.Proofs.YtpmnghealjgkeaaGreat
