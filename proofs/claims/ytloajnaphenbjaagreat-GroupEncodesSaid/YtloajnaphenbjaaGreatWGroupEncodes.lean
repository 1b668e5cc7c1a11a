/-
  GroupEncodes: walked through.
-/
import Derived.Test.YtloajnaphenbjaaGreatKn2
import Derived.Test.YtloajnaphenbjaaGreatGru
import Derived.Test.YtloajnaphenbjaaGreatRfo
import Derived.Test.YtloajnaphenbjaaGreatDoc
import Derived.Test.YtloajnaphenbjaaGreatStr
namespace Go.Proofs.YtloajnaphenbjaaGreat
open Go.RowKit
set_option linter.unusedVariables false
section
variable {w : World} {bA : Option Addr} {nB cB : Nat} {bs : List Int} {aA : Option Addr} {na ca : Nat} {za : List Int}
set_option maxHeartbeats 16000000 in
set_option maxRecDepth 100000 in
theorem groupEncodes_walk0 (i : Int) (hi : -9223372036854775808 ≤ i ∧ i ≤ 9223372036854775807) (hB : Rd .u8 w bA nB bs) (hd : Dig 256 bs) (hnn : nB ≤ 140737488351232) (ha : Told w aA na ca za) :
    Calls Tryz.prog 3 #[.int .i64 i, .slice bA nB cB, .slice aA na ca] w fun e w' => e = .returned (.bool true) ∧ Below w.heap.size w w' := by
  have HI := Lib.hid hi
  clear hi
  go_enter Tryz.func3, Tryz.ntmps3
  go_wp2_with fail
  refine (up_any w).mono ?_
  rintro e w1 ⟨rfl, b1⟩
  go_wp2_with fail
  refine (known2_any i HI.out w1).mono ?_
  rintro e w2 ⟨b, d, b', r, rfl, gr, rg, eP, eQ, lp, lq, b2⟩
  have g2 := b1.trans (b2.mono b1.size)
  have RPQ := Lib.hid (And.intro eP eQ)
  have LP := Lib.hid lp
  have LQ := Lib.hid lq
  have szs := sz_small gr.lq (by have := gr.safe.q3; omega)
  have SZ0 := Lib.hid szs
  have c3 := rg.c3
  clear b1 b2 eP eQ lp lq
  by_cases hl : nB = sz d.Q
  · have t0 : ((nB : Int) != (sz d.Q : Int)) = false := by simp; omega
    have t0' : (nB != sz d.Q) = false := by simp; omega
    have xb := low_bd (l := nB) hd nB
    have xq := sz_fit (Q := d.Q) (x := low bs nB nB) gr.safe.q1 (by rw [← hl]; exact xb.2)
    have back := bytes_back hd hB.len
    obtain ⟨x, hx⟩ : ∃ x, low bs nB nB = x := ⟨_, rfl⟩
    have henc := enc_any (cb := cB) gr.toGr0 (hB.below g2) hd hl
    have hrenc := fun W' (hh : Rd .u8 W' bA nB bs) (hg : Rg W' b' r (sz d.Q)) => renc_any (cb := cB) hg hh hd (by omega) LP.out LQ.out (by rw [hx, RPQ.out.1]; have := gr.safe.pq; rw [hx] at xb xq; omega)
    rw [hx] at xb xq back henc hrenc
    have ELE := Lib.hid (enc_el gr.safe gr.el gr.g1 xb.1 xq)
    have LOW := Lib.hid (enc_low gr.safe xb.1 xq)
    have XB := Lib.hid xb
    have BACK := Lib.hid back
    have HENC := Lib.hid henc
    have HRENC := Lib.hid hrenc
    have HL := Lib.hid hl
    obtain ⟨E, hE⟩ : ∃ E, encN d.P d.Q x = E := ⟨_, rfl⟩
    have HE := Lib.hid hE
    have HE' : Hid (encN r.P r.Q x = E) := Lib.hid (by rw [RPQ.out.1, RPQ.out.2]; exact hE)
    rw [hE] at ELE LOW HENC
    have dE := gr.la (a := E) (by have := ELE.out.1; omega) ELE.out.2.1
    have drE := dr_le (N := E) (by have := ELE.out.1; omega) dE
    clear hx xb xq back henc hrenc hE hl
    go_wp2_with fail
    refine (HENC.out).mono ?_
    rintro e w3 ⟨B3, m3, d3, rfl, k3, b3, -⟩
    have g3 := g2.trans (b3.mono g2.size)
    have gr := gr.below b3
    have rg := rg.below b3
    have c3 := rg.c3
    clear g2 b3 HENC
    go_wp2_with fail
    refine (dec_any gr.toGr0 k3.nm ELE.out (by rw [LOW.out, ← HL.out]; have := XB.out.2; omega)).mono ?_
    rintro e w4 ⟨gb, rfl, r4, b4, -⟩
    have r4 : Row w4 gb 5 .u8 bs := by
      rw [LOW.out, Int.add_sub_cancel, ← HL.out, BACK.out] at r4; exact r4
    have g4 := g3.trans (b4.mono g3.size)
    have gr := gr.below b4
    have rg := rg.below b4
    have k4 := k3.below b4
    clear g3 b4 k3 c3
    go_wp2_with fail
    refine (HRENC.out _ (hB.below g4) rg).mono ?_
    rintro e w5a ⟨B5, m5, d5, rfl, k5, b5⟩
    rw [HE'.out] at k5
    have g5a := g4.trans (b5.mono g4.size)
    have gr := gr.below b5
    have rg := rg.below b5
    have k4 := k4.below b5
    have r4 := r4.below b5 r4.lt
    have m5l : m5 ≤ 100000 := by have := k5.len_; omega
    clear g4 b5
    go_wp2_with fail
    refine (to_cn k5 m5l).mono ?_
    rintro e w5b ⟨B5b, m5b, d5b, rfl, k5b, b5⟩
    have g5b := g5a.trans (b5.mono g5a.size)
    have gr := gr.below b5
    have rg := rg.below b5
    have k4 := k4.below b5
    have r4 := r4.below b5 r4.lt
    clear g5a b5 k5
    go_wp2_with fail
    refine (same_cn k4 k5b).mono ?_
    rintro e w5c ⟨rfl, b5⟩
    have g5c := g5b.trans (b5.mono g5b.size)
    have gr := gr.below b5
    have rg := rg.below b5
    have k4 := k4.below b5
    have r4 := r4.below b5 r4.lt
    have cv1 := conv_any (c := sz d.Q) (rowAll r4 (hB.len.trans HL.out))
    have cv2 := conv_any (c := cB) (hB.below g5c)
    have s1 := str_neq (strOfNums bs)
    clear g5b b5 k5b r4
    go_wp2_with fail
    refine (gis_yes gr.toGr0 k4.nm ELE.out).mono ?_
    rintro e w5 ⟨rfl, b5⟩
    have g5 := g5c.trans (b5.mono g5c.size)
    have gr := gr.below b5
    have rg := rg.below b5
    clear g5c b5 k4 cv1 cv2 s1
    go_wp2_with fail
    refine (short_any (ha.below g5)).mono ?_
    rintro e w6 ⟨m, ys, rfl, ta, m6, rfl⟩
    obtain ⟨X, hX⟩ : ∃ X, val W ys = X := ⟨_, rfl⟩
    have hx := ta.nm
    rw [hX] at hx
    have dx : dl X ≤ 60 := by have := hx.dl_le; omega
    have x0 := hx.pos
    have drx := dr_le x0 dx
    have HX := Lib.hid hx
    clear hX hx ta
    by_cases el : El d.P d.Q X
    · have e1 := el.1
      have e2 := el.2.1
      have EL := Lib.hid el
      have EL' : Hid (El r.P r.Q X) := Lib.hid (by rw [RPQ.out.1, RPQ.out.2]; exact el)
      have XP : Hid (X < r.P) := Lib.hid (by rw [RPQ.out.1]; exact e2)
      have Q0 : Hid (0 ≤ r.Q) := Lib.hid (by rw [RPQ.out.2]; have := gr.safe.q3; omega)
      have LB := Lib.hid (lowr_bd gr.safe e1 e2)
      obtain ⟨Y, hY⟩ : ∃ Y, lowr d.P d.Q X = Y := ⟨_, rfl⟩
      have HY := Lib.hid hY
      have HY' : Hid (lowr r.P r.Q X = Y) := Lib.hid (by rw [RPQ.out.1, RPQ.out.2]; exact hY)
      have y1 : 1 ≤ Y := by rw [← hY]; exact LB.out.1
      have fit := nb_to_pow (x := Y - 1) (n := sz d.Q) (by omega)
      have FIT := Lib.hid fit
      clear el e2 hY fit
      by_cases hf : Y - 1 < 256 ^ sz d.Q
      · have t1 : decide ((nb (Y - 1) : Int) ≤ 8 * (sz d.Q : Int)) = true := by have := FIT.out.2 hf; simp; omega
        have HF := Lib.hid hf
        clear hf
        go_wp2_with fail
        refine (dec_any gr.toGr0 HX.out EL.out (by rw [HY.out]; exact HF.out)).mono ?_
        rintro e w7 ⟨gb, rfl, r7, b7, -⟩
        rw [HY.out] at r7
        have g7 := g5.trans (b7.mono g5.size)
        have rg := rg.below b7
        have HX7 := Lib.hid (HX.out.below b7)
        clear g5 b7 HX gr
        go_wp2_with fail
        refine (of_nm HX7.out (by omega)).mono ?_
        rintro e w8 ⟨B8, n8, c8, rfl, k8, b8⟩
        have g8 := g7.trans (b8.mono g7.size)
        have rg := rg.below b8
        have r8 := r7.below b8 r7.lt
        have n8l : n8 ≤ 300 := by have := k8.len_; omega
        clear g7 b8 r7 HX7
        go_wp2_with fail
        refine (ris_any rg k8 n8l LP.out LQ.out true ⟨(fun _ => EL'.out), (fun _ => rfl)⟩).mono ?_
        rintro e w9 ⟨rfl, b9⟩
        have g9 := g8.trans (b9.mono g8.size)
        have rg := rg.below b9
        have r9 := r8.below b9 r8.lt
        have k9 := k8.below b9
        clear g8 b9 r8 k8
        go_wp2_with fail
        refine (rdec_any rg k9 n8l LP.out LQ.out (by omega) e1 XP.out Q0.out).mono ?_
        rintro e w10 ⟨gc, rfl, r10, b10⟩
        rw [HY'.out] at r10
        rw [HY'.out]
        have g10 := g9.trans (b10.mono g9.size)
        have r9' := r9.below b10 r9.lt
        have cv1 := conv_any (c := sz d.Q) (rowAll r9' (bytesL_len (Y - 1) (sz d.Q)))
        have cv2 := conv_any (c := sz d.Q) (rowAll r10 (bytesL_len (Y - 1) (sz d.Q)))
        have s1 := str_eql (strOfNums (bytesL (Y - 1) (sz d.Q)))
        have G := Lib.hid g10
        clear g9 b10 r9 k9 r10 r9' g10 rg
        go_wp2
        go_ret
        exact ⟨by first | rfl | (simp; done), G.out⟩
      · have t1 : decide ((nb (Y - 1) : Int) ≤ 8 * (sz d.Q : Int)) = false := by
          have : ¬ nb (Y - 1) ≤ 8 * sz d.Q := fun h => hf (FIT.out.1 h)
          simp; omega
        have HF := Lib.hid hf
        have qc := eql_code 2 2
        clear hf
        go_wp2_with fail
        refine (dec_long gr.toGr0 HX.out EL.out (by rw [HY.out]; exact Int.not_lt.2 HF.out)).mono ?_
        rintro e w7 ⟨rfl, b7⟩
        have g7 := g5.trans (b7.mono g5.size)
        have rg := rg.below b7
        have HX7 := Lib.hid (HX.out.below b7)
        clear g5 b7 HX gr
        go_wp2_with fail
        refine (of_nm HX7.out (by omega)).mono ?_
        rintro e w8 ⟨B8, n8, c8, rfl, k8, b8⟩
        have g8 := g7.trans (b8.mono g7.size)
        have rg := rg.below b8
        have n8l : n8 ≤ 300 := by have := k8.len_; omega
        clear g7 b8 HX7
        go_wp2_with fail
        refine (ris_any rg k8 n8l LP.out LQ.out true ⟨(fun _ => EL'.out), (fun _ => rfl)⟩).mono ?_
        rintro e w9 ⟨rfl, b9⟩
        have g9 := g8.trans (b9.mono g8.size)
        have rg := rg.below b9
        have k9 := k8.below b9
        clear g8 b9 k8
        go_wp2_with fail
        refine (rdec_any rg k9 n8l LP.out LQ.out (by omega) e1 XP.out Q0.out).mono ?_
        rintro e w10 ⟨gc, rfl, -, b10⟩
        rw [HY'.out]
        have G := Lib.hid (g9.trans (b10.mono g9.size))
        clear g9 b10 k9 rg
        go_wp2
        go_ret
        exact ⟨by first | rfl | (simp; done), G.out⟩
    · have EL := Lib.hid el
      have EL' : Hid (¬ El r.P r.Q X) := Lib.hid (by rw [RPQ.out.1, RPQ.out.2]; exact el)
      have qc := eql_code 8 8
      clear el
      go_wp2_with fail
      refine (dec_no gr.toGr0 HX.out EL.out).mono ?_
      rintro e w7 ⟨rfl, b7⟩
      have g7 := g5.trans (b7.mono g5.size)
      have rg := rg.below b7
      have HX7 := Lib.hid (HX.out.below b7)
      clear g5 b7 HX gr
      go_wp2_with fail
      refine (of_nm HX7.out (by omega)).mono ?_
      rintro e w8 ⟨B8, n8, c8, rfl, k8, b8⟩
      have g8 := g7.trans (b8.mono g7.size)
      have rg := rg.below b8
      have n8l : n8 ≤ 300 := by have := k8.len_; omega
      clear g7 b8 HX7
      go_wp2_with fail
      refine (ris_any rg k8 n8l LP.out LQ.out false ⟨(fun e => by cases e), (fun e => absurd e EL'.out)⟩).mono ?_
      rintro e w9 ⟨rfl, b9⟩
      have G := Lib.hid (g8.trans (b9.mono g8.size))
      clear g8 b9 k8 rg
      go_wp2
      go_ret
      exact ⟨by first | rfl | (simp; done), G.out⟩
  · have t0 : ((nB : Int) != (sz d.Q : Int)) = true := by simp; omega
    have t0' : (nB != sz d.Q) = true := by simp; omega
    have qa := neq_code 1 1
    have HL := Lib.hid hl
    clear hl
    go_wp2_with fail
    refine (enc_arg gr.toGr0 HL.out (by omega)).mono ?_
    rintro e w5 ⟨rfl, b5⟩
    have g5 := g2.trans (b5.mono g2.size)
    have gr := gr.below b5
    have rg := rg.below b5
    have c3 := rg.c3
    clear g2 b5
    go_wp2_with fail
    refine (short_any (ha.below g5)).mono ?_
    rintro e w6 ⟨m, ys, rfl, ta, m6, rfl⟩
    obtain ⟨X, hX⟩ : ∃ X, val W ys = X := ⟨_, rfl⟩
    have hx := ta.nm
    rw [hX] at hx
    have dx : dl X ≤ 60 := by have := hx.dl_le; omega
    have x0 := hx.pos
    have drx := dr_le x0 dx
    have HX := Lib.hid hx
    clear hX hx ta
    by_cases el : El d.P d.Q X
    · have e1 := el.1
      have e2 := el.2.1
      have EL := Lib.hid el
      have EL' : Hid (El r.P r.Q X) := Lib.hid (by rw [RPQ.out.1, RPQ.out.2]; exact el)
      have XP : Hid (X < r.P) := Lib.hid (by rw [RPQ.out.1]; exact e2)
      have Q0 : Hid (0 ≤ r.Q) := Lib.hid (by rw [RPQ.out.2]; have := gr.safe.q3; omega)
      have LB := Lib.hid (lowr_bd gr.safe e1 e2)
      obtain ⟨Y, hY⟩ : ∃ Y, lowr d.P d.Q X = Y := ⟨_, rfl⟩
      have HY := Lib.hid hY
      have HY' : Hid (lowr r.P r.Q X = Y) := Lib.hid (by rw [RPQ.out.1, RPQ.out.2]; exact hY)
      have y1 : 1 ≤ Y := by rw [← hY]; exact LB.out.1
      have fit := nb_to_pow (x := Y - 1) (n := sz d.Q) (by omega)
      have FIT := Lib.hid fit
      clear el e2 hY fit
      by_cases hf : Y - 1 < 256 ^ sz d.Q
      · have t1 : decide ((nb (Y - 1) : Int) ≤ 8 * (sz d.Q : Int)) = true := by have := FIT.out.2 hf; simp; omega
        have HF := Lib.hid hf
        clear hf
        go_wp2_with fail
        refine (dec_any gr.toGr0 HX.out EL.out (by rw [HY.out]; exact HF.out)).mono ?_
        rintro e w7 ⟨gb, rfl, r7, b7, -⟩
        rw [HY.out] at r7
        have g7 := g5.trans (b7.mono g5.size)
        have rg := rg.below b7
        have HX7 := Lib.hid (HX.out.below b7)
        clear g5 b7 HX gr
        go_wp2_with fail
        refine (of_nm HX7.out (by omega)).mono ?_
        rintro e w8 ⟨B8, n8, c8, rfl, k8, b8⟩
        have g8 := g7.trans (b8.mono g7.size)
        have rg := rg.below b8
        have r8 := r7.below b8 r7.lt
        have n8l : n8 ≤ 300 := by have := k8.len_; omega
        clear g7 b8 r7 HX7
        go_wp2_with fail
        refine (ris_any rg k8 n8l LP.out LQ.out true ⟨(fun _ => EL'.out), (fun _ => rfl)⟩).mono ?_
        rintro e w9 ⟨rfl, b9⟩
        have g9 := g8.trans (b9.mono g8.size)
        have rg := rg.below b9
        have r9 := r8.below b9 r8.lt
        have k9 := k8.below b9
        clear g8 b9 r8 k8
        go_wp2_with fail
        refine (rdec_any rg k9 n8l LP.out LQ.out (by omega) e1 XP.out Q0.out).mono ?_
        rintro e w10 ⟨gc, rfl, r10, b10⟩
        rw [HY'.out] at r10
        rw [HY'.out]
        have g10 := g9.trans (b10.mono g9.size)
        have r9' := r9.below b10 r9.lt
        have cv1 := conv_any (c := sz d.Q) (rowAll r9' (bytesL_len (Y - 1) (sz d.Q)))
        have cv2 := conv_any (c := sz d.Q) (rowAll r10 (bytesL_len (Y - 1) (sz d.Q)))
        have s1 := str_eql (strOfNums (bytesL (Y - 1) (sz d.Q)))
        have G := Lib.hid g10
        clear g9 b10 r9 k9 r10 r9' g10 rg
        go_wp2
        go_ret
        exact ⟨by first | rfl | (simp; done), G.out⟩
      · have t1 : decide ((nb (Y - 1) : Int) ≤ 8 * (sz d.Q : Int)) = false := by
          have : ¬ nb (Y - 1) ≤ 8 * sz d.Q := fun h => hf (FIT.out.1 h)
          simp; omega
        have HF := Lib.hid hf
        have qc := eql_code 2 2
        clear hf
        go_wp2_with fail
        refine (dec_long gr.toGr0 HX.out EL.out (by rw [HY.out]; exact Int.not_lt.2 HF.out)).mono ?_
        rintro e w7 ⟨rfl, b7⟩
        have g7 := g5.trans (b7.mono g5.size)
        have rg := rg.below b7
        have HX7 := Lib.hid (HX.out.below b7)
        clear g5 b7 HX gr
        go_wp2_with fail
        refine (of_nm HX7.out (by omega)).mono ?_
        rintro e w8 ⟨B8, n8, c8, rfl, k8, b8⟩
        have g8 := g7.trans (b8.mono g7.size)
        have rg := rg.below b8
        have n8l : n8 ≤ 300 := by have := k8.len_; omega
        clear g7 b8 HX7
        go_wp2_with fail
        refine (ris_any rg k8 n8l LP.out LQ.out true ⟨(fun _ => EL'.out), (fun _ => rfl)⟩).mono ?_
        rintro e w9 ⟨rfl, b9⟩
        have g9 := g8.trans (b9.mono g8.size)
        have rg := rg.below b9
        have k9 := k8.below b9
        clear g8 b9 k8
        go_wp2_with fail
        refine (rdec_any rg k9 n8l LP.out LQ.out (by omega) e1 XP.out Q0.out).mono ?_
        rintro e w10 ⟨gc, rfl, -, b10⟩
        rw [HY'.out]
        have G := Lib.hid (g9.trans (b10.mono g9.size))
        clear g9 b10 k9 rg
        go_wp2
        go_ret
        exact ⟨by first | rfl | (simp; done), G.out⟩
    · have EL := Lib.hid el
      have EL' : Hid (¬ El r.P r.Q X) := Lib.hid (by rw [RPQ.out.1, RPQ.out.2]; exact el)
      have qc := eql_code 8 8
      clear el
      go_wp2_with fail
      refine (dec_no gr.toGr0 HX.out EL.out).mono ?_
      rintro e w7 ⟨rfl, b7⟩
      have g7 := g5.trans (b7.mono g5.size)
      have rg := rg.below b7
      have HX7 := Lib.hid (HX.out.below b7)
      clear g5 b7 HX gr
      go_wp2_with fail
      refine (of_nm HX7.out (by omega)).mono ?_
      rintro e w8 ⟨B8, n8, c8, rfl, k8, b8⟩
      have g8 := g7.trans (b8.mono g7.size)
      have rg := rg.below b8
      have n8l : n8 ≤ 300 := by have := k8.len_; omega
      clear g7 b8 HX7
      go_wp2_with fail
      refine (ris_any rg k8 n8l LP.out LQ.out false ⟨(fun e => by cases e), (fun e => absurd e EL'.out)⟩).mono ?_
      rintro e w9 ⟨rfl, b9⟩
      have G := Lib.hid (g8.trans (b9.mono g8.size))
      clear g8 b9 k8 rg
      go_wp2
      go_ret
      exact ⟨by first | rfl | (simp; done), G.out⟩
theorem groupEncodes_walk (i : Int) (hi : -9223372036854775808 ≤ i ∧ i ≤ 9223372036854775807) {zb : List Int} (hB : IsRow .u8 1 w bA nB cB zb) (ha : Told w aA na ca za) :
    Calls Tryz.prog 3 #[.int .i64 i, .slice bA nB cB, .slice aA na ca] w fun e w' => e = .returned (.bool true) ∧ Below w.heap.size w w' :=
  groupEncodes_walk0 i hi hB.rd (fun x hx => by have := bounds_u8 (hB.wf x hx); omega) (by have := hB.nc; omega) ha
end
end Go.Proofs.YtloajnaphenbjaaGreat
