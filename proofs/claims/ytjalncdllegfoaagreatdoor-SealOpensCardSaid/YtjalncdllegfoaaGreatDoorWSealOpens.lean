/-
  SealOpens answers true: what any letter says to any secret, or what is amiss first.
-/
import Derived.Test.YtjalncdllegfoaaGreatDoorSlq
import Derived.Test.YtjalncdllegfoaaGreatDoorU10
import Derived.Test.YtjalncdllegfoaaGreatDoorRft
namespace Go.Proofs.YtjalncdllegfoaaGreatDoor
open Go.RowKit
set_option linter.unusedVariables false
open Classical in
/-- What is amiss first with a letter. -/
noncomputable def opC (n : Nat) (lg el ok : Prop) : Int := if 1048576 < n then 1 else if lg then 2 else if el then (if ok then 0 else 15) else 8
theorem opC1 {n : Nat} {lg el ok : Prop} (h : 1048576 < n) : opC n lg el ok = 1 := if_pos h
theorem opC2 {n : Nat} {lg el ok : Prop} (h : ¬ 1048576 < n) (h2 : lg) : opC n lg el ok = 2 := by unfold opC; rw [if_neg h, if_pos h2]
theorem opC0 {n : Nat} {lg el ok : Prop} (h : ¬ 1048576 < n) (h2 : ¬ lg) (h3 : el) (h4 : ok) : opC n lg el ok = 0 := by unfold opC; rw [if_neg h, if_neg h2, if_pos h3, if_pos h4]
theorem opC15 {n : Nat} {lg el ok : Prop} (h : ¬ 1048576 < n) (h2 : ¬ lg) (h3 : el) (h4 : ¬ ok) : opC n lg el ok = 15 := by unfold opC; rw [if_neg h, if_neg h2, if_pos h3, if_neg h4]
theorem opC8 {n : Nat} {lg el ok : Prop} (h : ¬ 1048576 < n) (h2 : ¬ lg) (h3 : ¬ el) : opC n lg el ok = 8 := by unfold opC; rw [if_neg h, if_neg h2, if_neg h3]
section
variable {w : World} {b k : Nat} {d : Gd} {r : Rgd} {As Al Ab At : Option Addr} {ns cs nl cl nb' cb nt ct : Nat} {R S : Int} {bs ts : List Int}
theorem open_v (h : Gr w b d) (hT : Tabs w) (hs : Nm w As ns cs S) (hl : Nm w Al nl cl R) (hb : Bz w Ab nb' bs) (ht : Bz w At nt ts) :
    Calls Tryz.prog 12 #[.pointer (some ⟨b, 0, none⟩), .slice As ns cs, .agg #[.slice Al nl cl, .slice Ab nb' cb, .slice At nt ct]] w (OpV (opC nb' (64 < dl S) (El d.P d.Q R) (ts = slG d.P (gx d.P d.Q R S) R bs)) (slX d.P (gx d.P d.Q R S) R bs) w) := by
  by_cases h1 : 1048576 < nb'
  · rw [opC1 h1]; exact (open_many h1).mono fun _ _ hh => hh.v10 (by decide)
  by_cases h2 : 64 < dl S
  · rw [opC2 h1 h2]; exact (open_long h.toGr0 (by omega) hs h2).mono fun _ _ hh => hh.v10 (by decide)
  by_cases h3 : El d.P d.Q R
  · refine (open_ok h.toGr0 hT (by omega) hs (by omega) hl h3 hb ht).mono fun _ _ hh => ?_
    rcases hh with ⟨h4, hh⟩ | ⟨h4, hh⟩
    · rw [opC0 h1 h2 h3 h4]; exact hh.v (slX_dig _ _ _ _)
    · rw [opC15 h1 h2 h3 h4]; exact hh.v10 (by decide)
  · rw [opC8 h1 h2 h3]; exact (open_no h.toGr0 (by omega) hs (by omega) hl h3).mono fun _ _ hh => hh.v10 (by decide)
theorem ropen_v (h : Rg8 w b k r) (hs : Nm w As ns cs S) (ls : Li ns S) (hl : Nm w Al nl cl R) (ll : Li nl R) (hb : Bz w Ab nb' bs) (hn : nb' ≤ 10000 ∨ 1048576 < nb') (ht : Bz w At nt ts) :
    Calls Tryz.prog 13 #[.pointer (some ⟨b, 0, none⟩), .slice As ns cs, .agg #[.slice Al nl cl, .slice Ab nb' cb, .slice At nt ct]] w (OpD (opC nb' (64 < dl S) (El r.P r.Q R) (ts = slG r.P (gx r.P r.Q R S) R bs)) (slX r.P (gx r.P r.Q R S) R bs) w) := by
  by_cases h1 : 1048576 < nb'
  · rw [opC1 h1]; exact (ropen_many _ h1).mono fun _ _ hh => hh.v (by decide)
  by_cases h2 : 64 < dl S
  · rw [opC2 h1 h2]; exact (ropen_long _ (by omega) hs h2).mono fun _ _ hh => hh.v (by decide)
  by_cases h3 : El r.P r.Q R
  · refine (ropen_ok h (by omega) hs (by omega) ls.1 hl ll h3 hb ht).mono fun _ _ hh => ?_
    rcases hh with ⟨h4, A, c, rfl, hx, hw⟩ | ⟨h4, hh⟩
    · rw [opC0 h1 h2 h3 h4]; exact ⟨_, _, _, rfl, hx, hw⟩
    · rw [opC15 h1 h2 h3 h4]; exact hh.v (by decide)
  · rw [opC8 h1 h2 h3]; exact (ropen_no h (by omega) hs (by omega) hl ll h3).mono fun _ _ hh => hh.v (by decide)
end
set_option maxHeartbeats 32000000 in
set_option maxRecDepth 100000 in
theorem sealOpens_walk {w : World} (x : Int) (hx : -9223372036854775808 ≤ x ∧ x ≤ 9223372036854775807) {As Al Ab At : Option Addr} {ns cs nl cl nb' cb nt ct : Nat} {S R : Int} {bs ts : List Int}
    (hs : Nm w As ns cs S) (hl : Nm w Al nl cl R) (hb : Bz w Ab nb' bs) (hnb : nb' ≤ 140737488355328) (ht : Bz w At nt ts) (hnt : nt ≤ 140737488355328) (hT : Tabs w) :
    Calls Tryz.prog 4 #[.int .i64 x, .slice As ns cs, .agg #[.slice Al nl cl, .slice Ab nb' cb, .slice At nt ct]] w (AnsV (.bool true) w) := by
  have pz := three_box w (.slice Al nl cl) (.slice Ab nb' cb) (.slice At nt ct) 33
  have bz := B8.alloc w (.cells #[.slice Al nl cl, .slice Ab nb' cb, .slice At nt ct] 33)
  obtain ⟨wz, hwz⟩ : ∃ wz, w.alloc (.cells #[.slice Al nl cl, .slice Ab nb' cb, .slice At nt ct] 33) = wz := ⟨_, rfl⟩
  have SZ := Lib.hid (show w.heap.size < wz.heap.size by rw [← hwz]; simp)
  rw [hwz] at pz bz
  have PZ := Lib.hid pz
  have BZ := Lib.hid bz
  have HS := Lib.hid (bz.nm hs)
  have HL := Lib.hid (bz.nm hl)
  have HB := Lib.hid (bz.bz hb)
  have HTS := Lib.hid (bz.bz ht)
  have HX := Lib.hid hx
  have HT := Lib.hid (bz.tabs hT)
  clear hs hl hb ht hx hT pz bz
  go_enter Tryz.func4, Tryz.ntmps4
  go_wp2_with fail
  clear hwz
  refine (up10_any HT.out).mono ?_
  rintro e w0 ⟨rfl, b0⟩
  have B0 := Lib.hid (show B8 wz w0 from b0)
  clear b0
  go_wp2_with fail
  refine (known10_any x HX.out w0).mono ?_
  rintro e w1 ⟨b, d, b', r, rfl, gr, rg, hP, hQ, hG, b1⟩
  have q1 := g8_eq b
  have B1 := Lib.hid (B0.out.trans (show B8 w0 w1 from b1))
  have GR := Lib.hid gr
  have RG := Lib.hid rg
  have PQ := Lib.hid (And.intro hP (And.intro hQ hG))
  clear gr rg hP hQ hG b1 B0
  have x0 := (B1.out.cell (o := 0) SZ.out).trans PZ.out.1
  have LS := Lib.hid (ns_lit2 (B1.out.nm HL.out) (B1.out.nm HS.out) (g := w1.heap.size) rfl)
  have B2 := Lib.hid (B8.alloc w1 (.cells #[.slice Al nl cl, .slice As ns cs] 23))
  obtain ⟨w2, hw2⟩ : ∃ w2, w1.alloc (.cells #[.slice Al nl cl, .slice As ns cs] 23) = w2 := ⟨_, rfl⟩
  rw [hw2] at LS B2
  go_wp2_with fail
  refine (light10_any LS.out).mono ?_
  rintro e w3 ⟨⟨s, rfl, hs⟩, rfl⟩
  clear hw2 x0
  have G2 := Lib.hid (B1.out.trans B2.out)
  have x0 := (G2.out.cell (o := 0) SZ.out).trans PZ.out.1
  have x1 := (G2.out.cell (o := 1) SZ.out).trans PZ.out.2.1
  have x2 := (G2.out.cell (o := 2) SZ.out).trans PZ.out.2.2
  cases s with
  | false =>
    clear hs
    go_wp2_with fail
    go_ret
    exact ⟨rfl, BZ.out.trans G2.out⟩
  | true =>
  have hl := hs.1 rfl
  have LL := Lib.hid (show Li nl R from hl 0 (by decide))
  have LSS := Lib.hid (show Li ns S from hl 1 (by decide))
  clear hs hl LS
  by_cases g : 2000 < nb' ∧ nb' ≤ 1048576
  · have e1 : decide ((2000 : Int) < (nb' : Int)) = true := by simp; omega
    have e2 : decide ((nb' : Int) ≤ 1048576) = true := by simp; omega
    clear g
    go_wp2_with fail
    go_ret
    exact ⟨rfl, BZ.out.trans G2.out⟩
  have hn : nb' ≤ 10000 ∨ 1048576 < nb' := by omega
  have e12 : decide ((2000 : Int) < (nb' : Int)) = false ∨ (decide ((2000 : Int) < (nb' : Int)) = true ∧ decide ((nb' : Int) ≤ 1048576) = false) := by
    rcases Nat.lt_or_ge 2000 nb' with q | q
    · exact .inr ⟨by simp; omega, by simp; omega⟩
    · exact .inl (by simp; omega)
  have E12 := Lib.hid e12
  clear g e12
  obtain ⟨E, hE⟩ : ∃ E, gx d.P d.Q R S = E := ⟨_, rfl⟩
  obtain ⟨kc, hkc⟩ : ∃ kc, opC nb' (64 < dl S) (El d.P d.Q R) (ts = slG d.P E R bs) = kc := ⟨_, rfl⟩
  obtain ⟨X, hX⟩ : ∃ X, slX d.P E R bs = X := ⟨_, rfl⟩
  have VC := Lib.hid (show Calls Tryz.prog 12 #[.pointer (some ⟨b, 0, none⟩), .slice As ns cs, .agg #[.slice Al nl cl, .slice Ab nb' cb, .slice At nt ct]] w2 (OpV kc X w2) from by
    have h := open_v (cs := cs) (cl := cl) (cb := cb) (ct := ct) (B2.out.gr GR.out) (G2.out.tabs HT.out) (G2.out.nm HS.out) (G2.out.nm HL.out) (G2.out.bz HB.out) (G2.out.bz HTS.out)
    rwa [hE, hkc, hX] at h)
  have DC := Lib.hid (show ∀ W, B8 w2 W → Calls Tryz.prog 13 #[.pointer (some ⟨b', 0, none⟩), .slice As ns cs, .agg #[.slice Al nl cl, .slice Ab nb' cb, .slice At nt ct]] W (OpD kc X W) from fun W hW => by
    have h := ropen_v (cs := cs) (cl := cl) (cb := cb) (ct := ct) (RG.out.bel (B2.out.trans hW)) ((G2.out.trans hW).nm HS.out) LSS.out ((G2.out.trans hW).nm HL.out) LL.out ((G2.out.trans hW).bz HB.out) hn ((G2.out.trans hW).bz HTS.out)
    rwa [PQ.out.1, PQ.out.2.1, hE, hkc, hX] at h)
  clear hkc hX hE hn
  rcases Nat.lt_or_ge 1000 nt with g3 | g3
  · have e3 : decide ((1000 : Int) < (nt : Int)) = true := by simp; omega
    rcases E12.out with e1 | ⟨e1, e2⟩
    all_goals
      go_wp2_with fail
      go_ret
      exact ⟨rfl, BZ.out.trans G2.out⟩
  have e3 : decide ((1000 : Int) < (nt : Int)) = false := by simp; omega
  rcases E12.out with e1 | ⟨e1, e2⟩
  all_goals
    go_wp2_with fail
    refine VC.out.mono ?_
    rintro e w4 ⟨A4, n4, c4, ev, rfl, hev, k4, b4⟩
    have D4 := Lib.hid b4
    have B4 := Lib.hid (G2.out.trans b4)
    have K4 := Lib.hid k4
    have HEV := Lib.hid hev
    clear k4 b4 hev x0 x1 x2
    have x0 := (B4.out.cell (o := 0) SZ.out).trans PZ.out.1
    have x1 := (B4.out.cell (o := 1) SZ.out).trans PZ.out.2.1
    have x2 := (B4.out.cell (o := 2) SZ.out).trans PZ.out.2.2
    go_wp2_with fail
    refine (DC.out w4 D4.out).mono ?_
    rintro e w5 ⟨A5, n5, c5, rfl, k5, b5⟩
    have B5 := Lib.hid (B4.out.trans b5)
    have cA := conv_any (c := c4) (b5.bz K4.out).rd
    have cB := conv_any (c := c5) k5.rd
    have sn := str_eql (strOfNums (okB kc X))
    clear b5 k5 x0 x1 x2
    go_wp2_with fail
    refine (code_e HEV.out w5).mono ?_
    rintro e w6 ⟨rfl, rfl⟩
    go_wp2_with fail
    go_ret
    exact ⟨by simp, BZ.out.trans B5.out⟩
end Go.Proofs.YtjalncdllegfoaaGreatDoor
