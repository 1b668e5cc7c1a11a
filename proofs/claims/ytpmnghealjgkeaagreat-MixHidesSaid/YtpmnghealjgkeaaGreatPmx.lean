/-
  What the program's Mix answers.
-/
import Derived.Test.YtpmnghealjgkeaaGreatPm0
import Derived.Test.YtpmnghealjgkeaaGreatSh9
namespace Go.Proofs.YtpmnghealjgkeaaGreat
open Go.RowKit
set_option linter.unusedVariables false
theorem Bo.nm {r : Nat} {w w' : World} {A : Option Addr} {n c : Nat} {N : Int} (h : Bo r w w') (hr : Nm w A n c N) (hx : ∀ a, A = some a → a.block ≠ r) : Nm w' A n c N := by
  obtain ⟨⟨xs, h1, h2, h3⟩, h4, h5, h6⟩ := hr
  exact ⟨⟨xs, h.kept.rd h1 (fun a ha _ => hx a ha), h2, h3⟩, h4, h5, h6⟩
theorem Lo.bo {g base : Nat} {w w' : World} {A : Option Addr} {n c : Nat} {S : Nat → Stp} (h : Lo w base A n c S) (hb : Bo g w w') (hg : g < base) : Lo w' base A n c S := by
  refine ⟨⟨h.ch.nc, h.ch.c60, fun hn => ?_, fun i hi => ?_⟩, h.can, h.newA, h.newS⟩
  · obtain ⟨b, off, e, hl, hc⟩ := h.ch.ex hn
    have hA : base ≤ b := h.newA ⟨b, off, none⟩ e
    exact ⟨b, off, e, Nat.lt_of_lt_of_le hl hb.size, fun i hi => ⟨(hb.cell (p := ⟨b, _, none⟩) hl (show b ≠ g by omega)).trans (hc i hi).c0, (hb.cell (p := ⟨b, _, none⟩) hl (show b ≠ g by omega)).trans (hc i hi).c1, (hb.cell (p := ⟨b, _, none⟩) hl (show b ≠ g by omega)).trans (hc i hi).c2⟩⟩
  · have hs := h.newS i hi
    have ha := h.ch.at_ i hi
    exact ⟨hb.nm ha.p (fun a e => by have := hs.1 a e; omega), hb.nm ha.q (fun a e => by have := hs.2.1 a e; omega), hb.nm ha.a (fun a e => by have := hs.2.2 a e; omega)⟩
theorem infoL7 : (Tryz.prog.info? 25).map (fun i => (i.zero, i.size, i.bytes)) = some (some (.slice none 0 0), 1, 24) := by kernel_rfl
theorem run_makeL7 (n : Nat) {C : Int} (hC : C = n) (hn : n ≤ 1000000) (w : World) : (Instr.makeSlice 45 (.int .i64 C) (.int .i64 C)).run Tryz.prog w =
    .ok (.slice (some ⟨w.heap.size, 0, none⟩) n n) (w.alloc (.cells (List.replicate n (Value.slice none 0 0)).toArray 25)) := by
  subst hC
  obtain ⟨i0, hi, hz0, hz1, hz2⟩ := info_parts infoL7
  have hr := run_make (P := Tryz.prog) w 45 25 i0 (.slice none 0 0) Tryz.underlying45 hi hz0 .i64 .i64 n n (by omega) (by omega) (by rw [hz2]; omega) (by omega)
  rw [hz1, madeNn] at hr
  simpa using hr
/-- The loop of Mix. -/
def MxlR (n m : Nat) (T : Nat → Nat → Trp) (good : Nat → Prop) (w : World) (i : Value) (wr : World) : Prop :=
  ∃ (j : Nat) (cur : Array Value) (L : Nat → Lsl), j ≤ n ∧ i = .int .i64 j ∧ wr.heap[w.heap.size]? = some (.cells cur 25 (0, 0)) ∧ cur.size = n ∧
    (∀ i, i < j → cur[i]? = some (.slice (L i).A (L i).n (L i).c) ∧ (L i).n = m ∧ Lo wr (w.heap.size + 1) (L i).A (L i).n (L i).c (L i).S ∧ (∀ t, t < m → Trp.of ((L i).S t) = T i t) ∧ good i) ∧ Below w.heap.size w wr
section
variable {w : World} {b : Nat} {d : Gd} {Ak Ar Ap Ab : Option Addr} {nk ck nr cr np cp nb cb : Nat} {K : Int} {B : Nat → Lsl} {Rs : Nat → Rsl} {ps : List Int}
theorem mixC_arg {P Q : Int} {perm : Nat → Int} (h : ¬ MixF B nb perm np Rs nr) : mixC P Q K B nb perm np Rs nr = 1 := by unfold mixC; rw [if_neg h]
theorem mixC_long {P Q : Int} {perm : Nat → Int} (h : MixF B nb perm np Rs nr) (h2 : ∃ i, i < nb ∧ LgS (Rs i).S (Rs i).n) : mixC P Q K B nb perm np Rs nr = 2 := by unfold mixC; rw [if_pos h, if_pos h2]
theorem mixC_ok {P Q : Int} {perm : Nat → Int} (h : MixF B nb perm np Rs nr) (h2 : ¬ ∃ i, i < nb ∧ LgS (Rs i).S (Rs i).n) (h3 : El P Q K ∧ ∀ i, i < nb → ElL P Q (B i).S (B i).n) : mixC P Q K B nb perm np Rs nr = 0 := by unfold mixC; rw [if_pos h, if_neg h2, if_pos h3]
theorem mixC_no {P Q : Int} {perm : Nat → Int} (h : MixF B nb perm np Rs nr) (h2 : ¬ ∃ i, i < nb ∧ LgS (Rs i).S (Rs i).n) (h3 : ¬ (El P Q K ∧ ∀ i, i < nb → ElL P Q (B i).S (B i).n)) : mixC P Q K B nb perm np Rs nr = 8 := by unfold mixC; rw [if_pos h, if_neg h2, if_neg h3]
set_option maxHeartbeats 8000000 in
set_option maxRecDepth 100000 in
theorem pm_mix (h : Gr w b d) (hk : Nm w Ak nk ck K) (hb : Bat w Ab nb cb B) (hp : Rd .i64 w Ap np ps) (hr : Rls w Ar nr cr Rs) :
    Calls Tryz.prog 22 #[.pointer (some ⟨b, 0, none⟩), .slice Ak nk ck, .slice Ab nb cb, .slice Ap np cp, .slice Ar nr cr] w
      (BatP (mixC d.P d.Q K B nb (dig ps) np Rs nr) (fun i j => anewN d.P d.Q d.G K (Trp.of ((B (dig ps i).toNat).S j)) ((Rs i).S j).N) nb (B 0).n w) := by
  obtain ⟨C, hC⟩ : ∃ C, mixC d.P d.Q K B nb (dig ps) np Rs nr = C := ⟨_, rfl⟩
  rw [hC]
  have HC := Lib.hid hC
  have HG := Lib.hid h
  have HK := Lib.hid hk
  have HB := Lib.hid hb
  have HP := Lib.hid hp
  have HR := Lib.hid hr
  have heq := pm_eq b
  clear hC h hk hb hp hr
  go_enter Tryz.func22, Tryz.ntmps22
  go_wp2_with fail
  refine (isb_any HB.out).mono ?_
  rintro e w1 ⟨rfl, q, rfl, hq⟩
  cases q with
  | false =>
    have e1 : C = 1 := by
      rw [← HC.out]
      refine mixC_arg fun g => ?_
      have := hq.2 ⟨g.1, fun i hi => ⟨⟨(g.2.2.2.1 i hi).1, (g.2.2.2.1 i hi).2.1⟩, (g.2.2.2.1 i hi).2.2.2.1⟩⟩
      cases this
    subst e1
    clear hq
    go_wp2_with fail
    go_ret2
    exact .inr ⟨by decide, rfl, Below.refl _ _⟩
  | true =>
  obtain ⟨n256, hok⟩ := hq.1 rfl
  have HOK := Lib.hid hok
  clear hq hok
  go_wp2_with fail
  refine (isp_any (cp := cp) HP.out (n := nb) (by omega)).mono ?_
  rintro e w1 ⟨b1, q, rfl, hq⟩
  have B1 := Lib.hid b1
  clear b1
  cases q with
  | false =>
    have e1 : C = 1 := by
      rw [← HC.out]
      refine mixC_arg fun g => ?_
      have := hq.2 ⟨g.2.1, fun i hi => ⟨(g.2.2.2.1 i hi).2.2.2.2.1, (g.2.2.2.1 i hi).2.2.2.2.2⟩, g.2.2.2.2⟩
      cases this
    subst e1
    clear hq
    go_wp2_with fail
    go_ret2
    exact .inr ⟨by decide, rfl, B1.out⟩
  | true =>
  obtain ⟨hnp, hperm⟩ := hq.1 rfl
  have HPM := Lib.hid hperm
  clear hq hperm
  go_wp2_with fail
  refine (hsc_any (HB.out.below B1.out) (HR.out.below B1.out)).mono ?_
  rintro e w2 ⟨rfl, q, rfl, hq⟩
  cases q with
  | false =>
    have e1 : C = 1 := by
      rw [← HC.out]
      refine mixC_arg fun g => ?_
      have := hq.2 ⟨g.2.2.1.symm, fun i hi => (g.2.2.2.1 i hi).2.2.1⟩
      cases this
    subst e1
    clear hq
    go_wp2_with fail
    go_ret2
    exact .inr ⟨by decide, rfl, B1.out⟩
  | true =>
  obtain ⟨hnr, hlen⟩ := hq.1 rfl
  have HLEN := Lib.hid hlen
  have HF := Lib.hid (show MixF B nb (dig ps) np Rs nr from ⟨n256, hnp, hnr.symm, fun i hi => ⟨(HOK.out i hi).1.1, (HOK.out i hi).1.2, hlen i hi, (HOK.out i hi).2, (HPM.out.1 i hi).1, (HPM.out.1 i hi).2⟩, HPM.out.2⟩)
  clear hq hlen
  subst hnp
  subst hnr
  go_wp2_with fail
  refine (cof2_any (HR.out.below B1.out)).mono ?_
  rintro e w2 ⟨rfl, q, rfl, hq⟩
  cases q with
  | true =>
    have e1 : C = 2 := by rw [← HC.out]; exact mixC_long HF.out (hq.1 rfl)
    subst e1
    clear hq
    go_wp2_with fail
    go_ret2
    exact .inr ⟨by decide, rfl, B1.out⟩
  | false =>
  have HLG := Lib.hid (show ¬ ∃ i, i < np ∧ LgS (Rs i).S (Rs i).n from fun g => by have := hq.2 g; cases this)
  clear hq
  by_cases hk : El d.P d.Q K
  · have HEK := Lib.hid hk
    have hmk := fun W => run_makeL7 np (C := (np : Int)) rfl (by omega) W
    obtain ⟨Z, hZ⟩ : ∃ Z : Array Value, Z = (List.replicate np (Value.slice none 0 0)).toArray := ⟨_, rfl⟩
    rw [← hZ] at hmk
    have HZ := Lib.hid (show Z.size = np by rw [hZ]; simp)
    clear hZ hk
    go_wp2_with fail
    refine (gis_yes (HG.out.below B1.out).toGr0 (HK.out.below B1.out) HEK.out).mono ?_
    rintro e w2 ⟨rfl, b2⟩
    have B2 := Lib.hid (B1.out.trans (b2.mono B1.out.size))
    clear b2
    go_wp2_with fail
    clear hmk heq
    go_loopw [51] (fun i wr => MxlR np (B 0).n (fun i j => anewN d.P d.Q d.G K (Trp.of ((B (dig ps i).toNat).S j)) ((Rs i).S j).N) (fun i => ElL d.P d.Q (B (dig ps i).toNat).S (B (dig ps i).toNat).n) w2 i wr) (fun i _ => np - (intOf i).toNat)
    case atStart => exact ⟨0, Z, fun _ => ⟨none, 0, 0, fun _ => ⟨none, 0, 0, none, 0, 0, none, 0, 0, 0, 0, 0⟩⟩, Nat.zero_le _, rfl, heap_alloc_new w2 _, HZ.out, fun i hi => absurd hi (Nat.not_lt_zero i), (Below.refl _ _).alloc (Nat.le_refl _) _⟩
    case round =>
      obtain ⟨j, cur, L, hj, rfl, hrow, hcs, hcl, hbw⟩ := hrel
      have HROW := Lib.hid hrow
      have HCS := Lib.hid hcs
      have HCL := Lib.hid hcl
      have HBW := Lib.hid hbw
      have HW := Lib.hid (B2.out.trans (hbw.mono B2.out.size))
      clear hrow hcs hcl hbw
      rcases Nat.lt_or_ge j np with hlt | hge
      · obtain ⟨bp, op, x, rfl, hbp, hx, hcell⟩ := HP.out.at_ (j := j) (by omega)
        have hc2 := (HW.out.cell (p := ⟨bp, op + j, none⟩) hbp).trans hcell
        have hdx : dig ps j = x := by unfold dig; rw [List.getD_eq_getElem?_getD, hx]; rfl
        have hx0 := HPM.out.1 j hlt
        rw [hdx] at hx0
        obtain ⟨v, rfl⟩ : ∃ v : Nat, x = v := ⟨x.toNat, by omega⟩
        have hv : v < np := by omega
        have HDX := Lib.hid hdx
        have hji : (j : Int) < (np : Int) := by omega
        have hvi : (v : Int) < (np : Int) := by omega
        obtain ⟨bb, ob, rfl, lb, yb⟩ := HB.out.ex (by omega)
        obtain ⟨br, orr, rfl, lr, yr⟩ := HR.out.ex (by omega)
        have z1 := (HW.out.cell (p := ⟨bb, ob + v, none⟩) lb).trans (yb v hv)
        have z2 := (HW.out.cell (p := ⟨br, orr + j, none⟩) lr).trans (yr j hlt)
        have HV := Lib.hid hv
        have HDR := Lib.hid (Below.refl wr.heap.size wr).drew
        have HWD := Lib.hid (HW.out.trans ((Below.refl wr.heap.size wr).drew.mono HW.out.size))
        have sz0 := (Array.getElem?_eq_some_iff.1 HROW.out).1
        have hshape : 1 ≤ (B v).n ∧ (B v).n ≤ 32 ∧ (B v).n = (Rs j).n := ⟨(HOK.out v hv).1.1, (HOK.out v hv).1.2, by have := (HOK.out v hv).2; have := (HOK.out j hlt).2; have := HLEN.out j hlt; omega⟩
        have hnl : ¬ LgS (Rs j).S (Rs j).n := fun g => HLG.out ⟨j, hlt, g⟩
        have hcon := pm_anew (HG.out.below HWD.out) (HK.out.below HWD.out) ((HB.out.at_ v hv).below HWD.out) ((HR.out.at_ j hlt).below HWD.out)
        have hvn : (B v).n = (B 0).n := (HOK.out v hv).2
        have kA := And.intro z1 z2
        clear hcell hx hdx yb yr hv z1 z2 hx0
        by_cases hel : ElL d.P d.Q (B v).S (B v).n
        · have hcon2 := hcon.mono fun e w' g => g.resolve_right (fun k => k.1 (fitC_ok hshape hnl ⟨HEK.out, hel⟩)) |> And.right
          have HCON := Lib.hid hcon2
          have HEL := Lib.hid hel
          have HVN := Lib.hid hvn
          have e0 := sq_ne0
          clear hcon hcon2 hel hvn hshape hnl
          go_wp2_with fail
          go_region_held3 (fun w' => w'.cell? ⟨bb, ob + v, none⟩ = some (.slice (B v).A (B v).n (B v).c) ∧ w'.cell? ⟨br, orr + j, none⟩ = some (.slice (Rs j).A (Rs j).n (Rs j).c)) (first | exact kA | exact kB | go_keep | assumption)
            (first
            | (go_at_call 17; (with_reducible refine HCON.out.mono ?_); rintro e w4 ⟨A4, c4, S4, rfl, h41, h42, h43⟩; have kB := And.intro ((h43.cell (p := ⟨bb, ob + v, none⟩) (Nat.lt_of_lt_of_le lb HWD.out.size)).trans kA.1) ((h43.cell (p := ⟨br, orr + j, none⟩) (Nat.lt_of_lt_of_le lr HWD.out.size)).trans kA.2); have R4 := Lib.hid ((h43.block w2.heap.size sz0).trans HROW.out); have H41 := Lib.hid h41; have H42 := Lib.hid h42; have H43 := Lib.hid h43; clear h41 h42 h43))
          all_goals
            obtain ⟨v0, x0⟩ := cell_in R4.out (o := j) (by have := HCS.out; omega)
            have f0 := frozen_of_row w4 w2.heap.size j _ _ R4.out
            clear kA kB hc2
            go_wp2_with fail
            go_roundw
            case rel =>
              have hcs := HCS.out
              have b5 := Bo.set w2.heap.size j w4 (.slice A4 (B v).n c4)
              have hzz : wr.drew.heap.size = wr.heap.size := rfl
              refine ⟨j + 1, _, fun i => if i = j then ⟨A4, (B v).n, c4, S4⟩ else L i, by omega, by go_num, heap_setCell_same _ _ j _ _ _ R4.out, by simpa using hcs, fun i hi => ?_, b5.below ((HBW.out.trans (HDR.out.mono HBW.out.size)).trans (H43.out.mono (by have := HBW.out.size; omega))) (Nat.le_refl _)⟩
              rcases Nat.lt_or_ge i j with g | g
              · obtain ⟨c1, c2, c3, c4', c5⟩ := HCL.out i g
                simp only [if_neg (show ¬ i = j by omega)]
                exact ⟨by rw [Array.getElem?_setIfInBounds_ne (by omega)]; exact c1, c2, ((c3.below HDR.out).below H43.out).bo b5 (by omega), c4', c5⟩
              · obtain rfl : i = j := by omega
                simp only [if_true]
                refine ⟨Array.getElem?_setIfInBounds_self_of_lt (by omega), HVN.out, (H41.out.base (by omega)).bo b5 (by omega), fun t ht => ?_, ?_⟩
                · have e := H42.out t (by have := HVN.out; omega)
                  rw [HDX.out]
                  exact e
                · rw [HDX.out]
                  exact HEL.out
            case measure => simp [intOf]; omega
        · have hcon2 := hcon.mono fun e w' g => (show Err1 8 wr.drew e w' by
            have e8 : anewC d.P d.Q K (B v).S (B v).n (Rs j).S (Rs j).n = 8 := fitC_no hshape hnl (fun k => hel k.2)
            rw [e8] at g
            exact g.resolve_left (fun k => absurd k.1 (by decide)) |> And.right)
          have e1 : C = 8 := by rw [← HC.out]; exact mixC_no HF.out HLG.out (fun k => hel (k.2 v HV.out))
          subst e1
          have HCON := Lib.hid hcon2
          have e1 := pm_ne 8
          clear hcon hcon2 hel hvn hshape hnl
          go_wp2_with fail
          go_region_held3 (fun w' => w'.cell? ⟨bb, ob + v, none⟩ = some (.slice (B v).A (B v).n (B v).c) ∧ w'.cell? ⟨br, orr + j, none⟩ = some (.slice (Rs j).A (Rs j).n (Rs j).c)) (first | exact kA | exact kB | go_keep | assumption)
            (first
            | (go_at_call 17; (with_reducible refine HCON.out.mono ?_); rintro e w4 ⟨rfl, h43⟩; have kB := And.intro ((h43.cell (p := ⟨bb, ob + v, none⟩) (Nat.lt_of_lt_of_le lb HWD.out.size)).trans kA.1) ((h43.cell (p := ⟨br, orr + j, none⟩) (Nat.lt_of_lt_of_le lr HWD.out.size)).trans kA.2); have H43 := Lib.hid h43; clear h43))
          all_goals
            clear kA kB hc2
            go_wp2_with fail
            go_ret2
            exact .inr ⟨by decide, rfl, HWD.out.trans (H43.out.mono HWD.out.size)⟩
      · obtain rfl : np = j := by omega
        have e1 : C = 0 := by
          rw [← HC.out]
          refine mixC_ok HF.out HLG.out ⟨HEK.out, fun i hi => ?_⟩
          obtain ⟨t, ht, e⟩ := HPM.out.onto hi
          have g : ElL d.P d.Q (B (dig ps t).toNat).S (B (dig ps t).toNat).n := (HCL.out t ht).2.2.2.2
          rw [e] at g
          exact g
        subst e1
        go_wp2_with fail
        go_ret2
        refine .inl ⟨rfl, _, np, L, rfl, ⟨Nat.le_refl _, by omega, fun _ => ⟨w2.heap.size, 0, rfl, (Array.getElem?_eq_some_iff.1 HROW.out).1, fun i hi => ?_⟩, fun i hi => (HCL.out i hi).2.2.1.ch⟩, fun i hi => ⟨(HCL.out i hi).2.1, (HCL.out i hi).2.2.1.base (by have := B2.out.size; omega), (HCL.out i hi).2.2.2.1⟩, fun a ha => by injection ha with ha; subst ha; exact B2.out.size, HW.out⟩
        rw [Nat.zero_add]
        exact (cell_of_row wr _ _ _ _ _ HROW.out).trans (HCL.out i hi).1
  · have e1 : C = 8 := by rw [← HC.out]; exact mixC_no HF.out HLG.out (fun k => hk k.1)
    subst e1
    have HEK := Lib.hid hk
    clear hk
    go_wp2_with fail
    refine (gis_no (HG.out.below B1.out).toGr0 (HK.out.below B1.out) HEK.out).mono ?_
    rintro e w2 ⟨rfl, b2⟩
    have B2 := Lib.hid (B1.out.trans (b2.mono B1.out.size))
    clear b2
    go_wp2_with fail
    go_ret2
    exact .inr ⟨by decide, rfl, B2.out⟩
end
end Go.Proofs.YtpmnghealjgkeaaGreat
