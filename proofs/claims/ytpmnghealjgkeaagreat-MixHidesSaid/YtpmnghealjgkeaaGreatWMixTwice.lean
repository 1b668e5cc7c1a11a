/-
  MixTwice answers true: what is mixed twice is mixed once, by the one permutation behind the other, and the scalars' sums.
-/
import Derived.Test.YtpmnghealjgkeaaGreatTw7
import Derived.Test.YtpmnghealjgkeaaGreatBv7
namespace Go.Proofs.YtpmnghealjgkeaaGreat
open Go.RowKit
set_option linter.unusedVariables false
/-- The batch, and the two lists of scalars, as they grow. -/
def TwR (TB : Nat → Trp) (D : Nat → Int) (q : Nat) (wb : World) (v1 v2 v3 i : Value) (wr : World) : Prop :=
  ∃ (j : Nat) (c : Nat → Nat) (B : Nat → Lsl) (R S : Nat → Rsl), j ≤ q ∧ i = .int .i64 j ∧ Col wr c ∧ Old wb c ∧
    Lst kCh 25 1 c wr wb.heap.size v1 j B ∧ Lst kNs 24 2 c wr wb.heap.size v2 j R ∧ Lst kNs 24 3 c wr wb.heap.size v3 j S ∧
    (∀ p, p < j → ((B p).n = 1 ∧ Trp.of ((B p).S 0) = TB p) ∧ ((R p).n = 1 ∧ ((R p).S 0).N = D (p + 1)) ∧ (S p).n = 1 ∧ ((S p).S 0).N = D (2 * p + 3)) ∧ B7 wb wr
/-- Both permutations at once, and the sums, as they grow. -/
def TwT (H : Nat → Int) (F : Nat → Int) (q : Nat) (wb : World) (v1 v2 i : Value) (wr : World) : Prop :=
  ∃ (j : Nat) (c : Nat → Nat) (L : Nat → Int) (T : Nat → Rsl), j ≤ q ∧ i = .int .i64 j ∧ Col wr c ∧ Old wb c ∧
    Lst kInt 3 1 c wr wb.heap.size v1 j L ∧ Lst kNs 24 2 c wr wb.heap.size v2 j T ∧
    (∀ p, p < j → L p = H p ∧ (T p).n = 1 ∧ ((T p).S 0).N = F p) ∧ B7 wb wr
def TwS (n : Nat) (w : World) (i : Value) (wr : World) : Prop := ∃ j : Nat, j ≤ n ∧ i = .int .i64 j ∧ B7 w wr
def lsl0 : Lsl := ⟨none, 0, 0, stp0⟩
def rsl0 : Rsl := ⟨none, 0, 0, fun _ => ⟨none, 0, 0, 0⟩⟩
theorem Bat.b7' {w w' : World} {A : Option Addr} {n c : Nat} {B : Nat → Lsl} (h : Bat w A n c B) (hb : B7 w w') : Bat w' A n c B := h.below hb
theorem Rls.b7' {w w' : World} {A : Option Addr} {n c : Nat} {B : Nat → Rsl} (h : Rls w A n c B) (hb : B7 w w') : Rls w' A n c B := h.below hb
set_option maxHeartbeats 32000000 in
set_option maxRecDepth 100000 in
theorem mixTwice_walk {w : World} (x : Int) (hx : -9223372036854775808 ≤ x ∧ x ≤ 9223372036854775807) {Am Ad Ap At : Option Addr} {nm cm nd cd np cp nt ct : Nat} {M D : Nat → Nsl} {ps ts : List Int}
    (hm : Ns w Am nm cm M) (hd : Ns w Ad nd cd D) (hp : Rd .i64 w Ap np ps) (ht : Rd .i64 w At nt ts) :
    Calls Tryz.prog 8 #[.int .i64 x, .slice Am nm cm, .slice Ad nd cd, .slice Ap np cp, .slice At nt ct] w (AnsV (.bool true) w) := by
  have HM := Lib.hid hm
  have HD := Lib.hid hd
  have HP := Lib.hid hp
  have HT := Lib.hid ht
  have HX := Lib.hid hx
  have he := ne_err0
  have he1 := pm_ne 1
  have he2 := eql_code 1 1
  clear hm hd hp ht hx
  go_enter Tryz.func8, Tryz.ntmps8
  go_wp2_with fail
  refine (up7_any w).mono ?_
  rintro e w0 ⟨rfl, b0⟩
  have B0 := Lib.hid (show B7 w w0 from b0)
  clear b0
  go_wp2_with fail
  refine (known_any x HX.out w0).mono ?_
  rintro e w1 ⟨A, n, c, A', n', c', rfl, kg, b1⟩
  have B1 := Lib.hid (B0.out.trans b1)
  have KGG := Lib.hid kg
  clear b1 kg B0
  go_wp2_with fail
  refine (kg_new (kix_lt x) KGG.out).mono ?_
  rintro e w2 ⟨b, d, rfl, gr, -, -, -, b2, -, -⟩
  have B2 := Lib.hid (B1.out.trans b2)
  have GR := Lib.hid gr
  have SF := Lib.hid gr.safe
  have EG := Lib.hid gr.el
  clear b2 gr KGG B1
  go_wp2_with fail
  refine (gscalars_any GR.out.toGr0).mono ?_
  rintro e w3 ⟨bs, As', cs', lows, Bs, cBs, Ss, cSs, rfl, -, b3, -⟩
  have B3 := Lib.hid (B2.out.trans b3)
  have GR3 := Lib.hid (B7.gr b3 GR.out)
  clear b3 GR B2
  go_wp2_with fail
  obtain ⟨q, hq⟩ : ∃ q, min nm 5 = q := ⟨_, rfl⟩
  have q5 : q ≤ 5 := by omega
  refine (elements_any GR3.out (B3.out.ns HM.out) 5 (by omega)).mono ?_
  rw [hq]
  rintro e w4 ⟨Al, cl, SL, rfl, hns, -, hel, -, b4⟩
  have b4 : B7 w3 w4 := b4
  have B4 := Lib.hid (B3.out.trans b4)
  have GR4 := Lib.hid (b4.gr GR3.out)
  have SA := Lib.hid hns
  have SE := Lib.hid (show ElS d.P d.Q SL q from fun i hi => by rw [(hel i hi).1]; exact elN_el SF.out.p2 SF.out.q1 EG.out M i)
  clear hns hel b4 hq B3 GR3
  by_cases g1 : np = q
  case neg =>
    have t1 : ((np : Int) != (q : Int)) = true := by simp; omega
    go_wp2_with fail
    go_ret
    exact ⟨rfl, B4.out⟩
  case pos =>
  have t1 : ((np : Int) != (q : Int)) = false := by simp; omega
  by_cases g2 : nt = q
  case neg =>
    have t2 : ((nt : Int) != (q : Int)) = true := by simp; omega
    go_wp2_with fail
    go_ret
    exact ⟨rfl, B4.out⟩
  case pos =>
  have t2 : ((nt : Int) != (q : Int)) = false := by simp; omega
  go_wp2_with fail
  refine (gg_any GR4.out).mono ?_
  rintro e w5 ⟨Bg, mg, cg, rfl, hg, b5, -⟩
  have b5 : B7 w4 w5 := b5
  have B5 := Lib.hid (B4.out.trans b5)
  have GR5 := Lib.hid (b5.gr GR4.out)
  have SA5 := Lib.hid (b5.ns SA.out)
  have KY := Lib.hid hg.nm
  clear hg b5 B4 GR4 SA t1 t2
  obtain rfl : q = np := g1.symm
  obtain rfl : q = nt := g2.symm
  obtain ⟨f, hf⟩ : ∃ f, dig ps = f := ⟨_, rfl⟩
  obtain ⟨g, hg⟩ : ∃ g, dig ts = g := ⟨_, rfl⟩
  have HFF := Lib.hid hf
  have HGG := Lib.hid hg
  obtain ⟨DD, hDD⟩ : ∃ DD, atN D nd = DD := ⟨_, rfl⟩
  have HDD := Lib.hid hDD
  have D0 := Lib.hid (show ∀ i, 0 ≤ DD i from fun i => by rw [← hDD]; exact atN_pos HD.out i)
  have DL := Lib.hid (show ∀ i, dl (DD i) ≤ 64 from fun i => by rw [← hDD]; exact atN_dl HD.out i)
  clear hf hg hDD
  go_wp2_with fail
  obtain ⟨wb, rfl⟩ : ∃ wb, wb = w5 := ⟨_, rfl⟩
  go_loopw [18, 19, 20, 21] (fun v1 v2 v3 i wr => TwR (fun p => sealN d.P d.Q d.G d.G (SL p).N (DD p)) DD q wb v1 v2 v3 i wr) (fun _ _ _ i _ => q - (intOf i).toNat)
  case atStart => exact ⟨0, fun _ => 0, fun _ => lsl0, fun _ => rsl0, fun _ => rsl0, Nat.zero_le _, rfl, Col.none _, fun _ _ => rfl, Lst.nil _ _ _ _ _ _ _, Lst.nil _ _ _ _ _ _ _, Lst.nil _ _ _ _ _ _ _, fun p hp => absurd hp (Nat.not_lt_zero p), B7.refl _⟩
  case round =>
    obtain ⟨j, c, B, R, S, hj, rfl, hcol, hold, hl1, hl2, hl3, hfa, hbl⟩ := hrel
    have COL := Lib.hid hcol
    have OLD := Lib.hid hold
    have L1 := Lib.hid hl1
    have L2 := Lib.hid hl2
    have L3 := Lib.hid hl3
    have FA := Lib.hid hfa
    have BL := Lib.hid hbl
    have BX := Lib.hid (B5.out.trans hbl)
    clear hcol hold hl1 hl2 hl3 hfa hbl
    rcases Nat.lt_or_ge j q with hlt | hge
    · --<L1
      have hjq : (j : Int) < (q : Int) := by omega
      have gns := BL.out.ns SA5.out
      obtain ⟨bo, off, rfl, lo, yo⟩ := gns.ex (by omega)
      have kA := yo j hlt
      have nj := gns.at_ j hlt
      have ee := SE.out j hlt
      obtain ⟨s, hs⟩ : ∃ s, SL j = s := ⟨_, rfl⟩
      have HSJ := Lib.hid hs
      rw [hs] at kA nj ee
      obtain ⟨Aj, n_j, cj, Nj⟩ := s
      simp only at kA nj ee
      have EE := Lib.hid ee
      have HDA := Lib.hid (show B7 wr (wr.alloc (.cells #[.slice Aj n_j cj] 23)).drew from (B7.alloc wr _).trans (B7.drewN _ 1))
      have HD1 := Lib.hid (show B7 wr wr.drew from B7.drewN _ 1)
      have NJ := Lib.hid nj
      have NSA := Lib.hid (show Ns (wr.alloc (.cells #[.slice Aj n_j cj] 23)).drew (some ⟨wr.heap.size, 0, none⟩) 1 1 (fun _ => ⟨Aj, n_j, cj, Nj⟩) from (B7.drewN _ 1).ns (ns_one nj))
      have SC := Lib.hid (show ∀ W, B7 wr W → Calls Tryz.prog 37 #[.slice Ad nd cd, .int .i64 (j : Int), .int .i64 1] W (ScP (fun t => DD (j + t)) 1 w.heap.size W) from fun W hW => by
        have h := scalars_any ((BX.out.trans hW).ns HD.out) HD.out.base (BX.out.trans hW).sz j 1 (by omega) (by omega)
        rw [HDD.out] at h
        exact h)
      clear yo nj ee hs gns
      go_wp2_with fail
      go_region_held3 (fun w' => w'.cell? ⟨bo, off + j, none⟩ = some (.slice Aj n_j cj)) (first | exact kA | exact kB | go_keep | assumption)
        (first
        | (go_at_call 37; (with_reducible refine (SC.out _ HDA.out).mono ?_); rintro e w6 ⟨AS, cS, SS, rfl, hS, hSF, -, b6⟩; have b6 : B7 (wr.alloc (.cells #[.slice Aj n_j cj] 23)).drew w6 := b6; have B6 := Lib.hid (HDA.out.trans b6); have NS := Lib.hid (b6.ns NSA.out); have RL := Lib.hid hS; have RF := Lib.hid (show (SS 0).N = DD j from (hSF 0 (by decide)).1); have kB := (Below.cell B6.out (p := ⟨bo, off + j, none⟩) lo).trans kA; clear hS hSF b6)
        | (go_at_call 37; (with_reducible refine (SC.out _ HD1.out).mono ?_); rintro e w6 ⟨AS, cS, SS, rfl, hS, hSF, -, b6⟩; have b6 : B7 wr.drew w6 := b6; have B6 := Lib.hid (HD1.out.trans b6); have NN := Lib.hid (B6.out.nm NJ.out); have RL := Lib.hid hS; have RF := Lib.hid (show (SS 0).N = DD j from (hSF 0 (by decide)).1); have kB := (Below.cell B6.out (p := ⟨bo, off + j, none⟩) lo).trans kA; clear hS hSF b6)
        | (go_at_call 16; (with_reducible refine (seal_one ((BL.out.trans B6.out).gr GR5.out) ((BL.out.trans B6.out).nm KY.out) NS.out RL.out (by rw [RF.out]; exact DL.out j) EG.out EE.out).mono ?_); rintro e w7 ⟨A7, c7, S7, rfl, lo7, hT7, b7⟩; have LO7 := Lib.hid (show Lo w7 wr.heap.size A7 1 c7 S7 from lo7.base B6.out.sz); have T7 := Lib.hid (show Trp.of (S7 0) = sealN d.P d.Q d.G d.G Nj (DD j) from by rw [hT7, RF.out]); have B7' := Lib.hid (B6.out.trans b7); have kC := (Below.cell B7'.out (p := ⟨bo, off + j, none⟩) lo).trans kA; clear lo7 hT7 b7)
        | (go_at_call 16; (with_reducible refine (seal_one (((BL.out.trans B6.out).trans (B7.alloc w6 _)).gr GR5.out) (((BL.out.trans B6.out).trans (B7.alloc w6 _)).nm KY.out) (ns_one NN.out) ((B7.alloc w6 _).ns RL.out) (by rw [RF.out]; exact DL.out j) EG.out EE.out).mono ?_); rintro e w7 ⟨A7, c7, S7, rfl, lo7, hT7, b7⟩; have b6' := B6.out.trans (B7.alloc w6 (.cells #[.slice Aj n_j cj] 23)); have LO7 := Lib.hid (show Lo w7 wr.heap.size A7 1 c7 S7 from lo7.base b6'.sz); have T7 := Lib.hid (show Trp.of (S7 0) = sealN d.P d.Q d.G d.G Nj (DD j) from by rw [hT7, RF.out]); have B7' := Lib.hid (b6'.trans b7); have kC := (Below.cell B7'.out (p := ⟨bo, off + j, none⟩) lo).trans kA; clear lo7 hT7 b7 b6'))
      all_goals
        clear kA kB kC
        have sz7 := B7'.out.sz
        have BL7 := Lib.hid ((BL.out.trans B7'.out).trans (B7.alloc w7 (.cells #[.slice A7 1 c7] 25)))
        have szb := BL7.out.sz
        have CA := Lib.hid (COL.out.below (B7'.out.trans (B7.alloc w7 (.cells #[.slice A7 1 c7] 25))).sz)
        have bx7 := B7'.out.trans (B7.alloc w7 (.cells #[.slice A7 1 c7] 25))
        have M1 := Lib.hid (L1.out.below bx7)
        have M2 := Lib.hid (L2.out.below bx7)
        have M3 := Lib.hid (L3.out.below bx7)
        have U1 := Lib.hid (show (w7.alloc (.cells #[.slice A7 1 c7] 25)).cell? ⟨w7.heap.size, 0, none⟩ = some (kCh.v ⟨A7, 1, c7, S7⟩) from one_at w7 _ _)
        have U2 := Lib.hid (show kCh.At (w7.alloc (.cells #[.slice A7 1 c7] 25)) ⟨A7, 1, c7, S7⟩ from LO7.out.ch.below (below_al _ _))
        have U3 := Lib.hid (show ∀ b, kCh.Bl ⟨A7, 1, c7, S7⟩ b → c b = 0 from fun b hb => COL.out b (LO7.out.bl hb))
        clear bx7
        go_wp2_with (at_builtin; refine wpList_lst rfl (.tmp 104) (.tmp 106) 45 rfl wb.heap.size 25 24 (.slice none 0 0) Tryz.underlying45 infoL7 rfl 1 c (by decide) CA.out u18 j 1 B ⟨A7, 1, c7, S7⟩ rfl M1.out w7.heap.size rfl U1.out U2.out U3.out (by unfold maxLen; omega) (by omega) szb ?_)
        rintro v8 w8 c8 n1 hg sc cl8
        have N1 := Lib.hid n1
        have N2 := Lib.hid (M2.out.other hg M1.out.row (by decide) (by decide) sc)
        have N3 := Lib.hid (M3.out.other hg M1.out.row (by decide) (by decide) sc)
        have OLD8 := Lib.hid (OLD.out.same sc szb)
        have COL8 := Lib.hid cl8
        have BL8 := Lib.hid (BL7.out.grown hg (fun g e => (M1.out.l.lt e).1))
        have BX8 := Lib.hid (B5.out.trans BL8.out)
        clear n1 hg sc cl8 M1 M2 M3 U1 U2 U3 CA
        have e1 : IntKind.i64.wrap ((j : Int) + 1) = ((j + 1 : Nat) : Int) := by rw [IntWalk.i64_in _ (by omega)]; omega
        go_wp2_with fail
        have con9 := scalars_any (BX8.out.ns HD.out) HD.out.base BX8.out.sz (j + 1) 1 (by omega) (by omega)
        rw [HDD.out] at con9
        refine con9.mono ?_
        clear con9
        rintro e w9 ⟨A9, c9, S9, rfl, hS9, hF9, hA9, b9⟩
        have b9 : B7 w8 w9 := b9
        have bx9 := b9.trans (B7.alloc w9 (.cells #[.slice A9 1 c9] 24))
        have BL9 := Lib.hid (BL8.out.trans bx9)
        have szb9 := BL9.out.sz
        have CA9 := Lib.hid (COL8.out.below bx9.sz)
        have M1 := Lib.hid (N1.out.below bx9)
        have M2 := Lib.hid (N2.out.below bx9)
        have M3 := Lib.hid (N3.out.below bx9)
        have F9 := Lib.hid (show (S9 0).N = DD (j + 1) from by have h := (hF9 0 (by decide)).1; simpa using h)
        have U1 := Lib.hid (show (w9.alloc (.cells #[.slice A9 1 c9] 24)).cell? ⟨w9.heap.size, 0, none⟩ = some (kNs.v ⟨A9, 1, c9, S9⟩) from one_at w9 _ _)
        have U2 := Lib.hid (show kNs.At (w9.alloc (.cells #[.slice A9 1 c9] 24)) ⟨A9, 1, c9, S9⟩ from hS9.below (below_al _ _))
        have U3 := Lib.hid (show ∀ b, kNs.Bl ⟨A9, 1, c9, S9⟩ b → c8 b = 0 from fun b hb => by
          rcases sc_bl hA9 hF9 hb with g | g
          · exact OLD8.out b (Nat.lt_of_lt_of_le g B5.out.sz)
          · exact COL8.out b g)
        clear hS9 hF9 hA9 b9 bx9 N1 N2 N3 e1
        go_wp2_with (at_builtin; refine wpList_lst rfl (.tmp 108) (.tmp 113) 47 rfl wb.heap.size 24 24 (.slice none 0 0) Tryz.underlying47 infoR7 rfl 2 c8 (by decide) CA9.out u19 j 1 R ⟨A9, 1, c9, S9⟩ rfl M2.out w9.heap.size rfl U1.out U2.out U3.out (by unfold maxLen; omega) (by omega) szb9 ?_)
        rintro v10 w10 c10 n2 hg sc cl10
        have N2 := Lib.hid n2
        have N1 := Lib.hid (M1.out.other hg M2.out.row (by decide) (by decide) sc)
        have N3 := Lib.hid (M3.out.other hg M2.out.row (by decide) (by decide) sc)
        have OLD10 := Lib.hid (OLD8.out.same sc szb9)
        have COL10 := Lib.hid cl10
        have BL10 := Lib.hid (BL9.out.grown hg (fun g e => (M2.out.l.lt e).1))
        have BX10 := Lib.hid (B5.out.trans BL10.out)
        clear n2 hg sc cl10 M1 M2 M3 U1 U2 U3 CA9
        have e2 : IntKind.i64.wrap (2 * (j : Int)) = 2 * (j : Int) := IntWalk.i64_in _ (by omega)
        have e3 : IntKind.i64.wrap (2 * (j : Int) + 3) = ((2 * j + 3 : Nat) : Int) := by rw [IntWalk.i64_in _ (by omega)]; omega
        go_wp2_with fail
        have con11 := scalars_any (BX10.out.ns HD.out) HD.out.base BX10.out.sz (2 * j + 3) 1 (by omega) (by omega)
        rw [HDD.out] at con11
        refine con11.mono ?_
        clear con11
        rintro e w11 ⟨A11, c11, S11, rfl, hS11, hF11, hA11, b11⟩
        have b11 : B7 w10 w11 := b11
        have bx11 := b11.trans (B7.alloc w11 (.cells #[.slice A11 1 c11] 24))
        have BL11 := Lib.hid (BL10.out.trans bx11)
        have szb11 := BL11.out.sz
        have CA11 := Lib.hid (COL10.out.below bx11.sz)
        have M1 := Lib.hid (N1.out.below bx11)
        have M2 := Lib.hid (N2.out.below bx11)
        have M3 := Lib.hid (N3.out.below bx11)
        have F11 := Lib.hid (show (S11 0).N = DD (2 * j + 3) from by have h := (hF11 0 (by decide)).1; simpa using h)
        have U1 := Lib.hid (show (w11.alloc (.cells #[.slice A11 1 c11] 24)).cell? ⟨w11.heap.size, 0, none⟩ = some (kNs.v ⟨A11, 1, c11, S11⟩) from one_at w11 _ _)
        have U2 := Lib.hid (show kNs.At (w11.alloc (.cells #[.slice A11 1 c11] 24)) ⟨A11, 1, c11, S11⟩ from hS11.below (below_al _ _))
        have U3 := Lib.hid (show ∀ b, kNs.Bl ⟨A11, 1, c11, S11⟩ b → c10 b = 0 from fun b hb => by
          rcases sc_bl hA11 hF11 hb with g | g
          · exact OLD10.out b (Nat.lt_of_lt_of_le g B5.out.sz)
          · exact COL10.out b g)
        clear hS11 hF11 hA11 b11 bx11 N1 N2 N3 e2 e3
        go_wp2_with (at_builtin; refine wpList_lst rfl (.tmp 115) (.tmp 121) 47 rfl wb.heap.size 24 24 (.slice none 0 0) Tryz.underlying47 infoR7 rfl 3 c10 (by decide) CA11.out u20 j 1 S ⟨A11, 1, c11, S11⟩ rfl M3.out w11.heap.size rfl U1.out U2.out U3.out (by unfold maxLen; omega) (by omega) szb11 ?_)
        rintro v12 w12 c12 n3 hg sc cl12
        have N3 := Lib.hid n3
        have N1 := Lib.hid (M1.out.other hg M3.out.row (by decide) (by decide) sc)
        have N2 := Lib.hid (M2.out.other hg M3.out.row (by decide) (by decide) sc)
        have OLD12 := Lib.hid (OLD10.out.same sc szb11)
        have COL12 := Lib.hid cl12
        have BL12 := Lib.hid (BL11.out.grown hg (fun g e => (M3.out.l.lt e).1))
        clear n3 hg sc cl12 M1 M2 M3 U1 U2 U3 CA11
        go_wp2_with fail
        go_roundw
        case rel =>
          refine ⟨j + 1, c12, _, _, _, by omega, by go_num, COL12.out, OLD12.out, N1.out, N2.out, N3.out, fun p hp => ?_, BL12.out⟩
          rcases Nat.lt_or_ge p j with g | g
          · rw [snocG_lt g, snocG_lt g, snocG_lt g]
            exact FA.out p g
          · obtain rfl : p = j := by omega
            rw [snocG_at, snocG_at, snocG_at]
            exact ⟨⟨rfl, by show _ = sealN d.P d.Q d.G d.G (SL p).N (DD p); rw [HSJ.out]; exact T7.out⟩, ⟨rfl, F9.out⟩, rfl, F11.out⟩
        case measure => simp [intOf]; omega
      --L1>
    obtain rfl : j = q := by omega
    have hjq : decide ((j : Int) < (j : Int)) = false := by simp
    obtain ⟨Ab, cb, rfl, -, hbat⟩ := L1.out.l.bat (by omega)
    obtain ⟨Ar, cr, rfl, -, hrls⟩ := L2.out.l.rls (by omega)
    obtain ⟨As, cs, rfl, -, hsls⟩ := L3.out.l.rls (by omega)
    have BAT := Lib.hid hbat
    have RLS := Lib.hid hrls
    have SLS := Lib.hid hsls
    have GRX := Lib.hid (BL.out.gr GR5.out)
    have KYX := Lib.hid (BL.out.nm KY.out)
    have bn1 := Lib.hid (show ∀ i, i < j → (B i).n = 1 from fun i hi => (FA.out i hi).1.1)
    have rn1 := Lib.hid (show ∀ i, i < j → (R i).n = 1 from fun i hi => (FA.out i hi).2.1.1)
    have sn1 := Lib.hid (show ∀ i, i < j → (S i).n = 1 from fun i hi => (FA.out i hi).2.2.1)
    have rdl := Lib.hid (show ∀ i, i < j → dl ((R i).S 0).N ≤ 64 from fun i hi => by rw [(FA.out i hi).2.1.2]; exact DL.out _)
    have sdl := Lib.hid (show ∀ i, i < j → dl ((S i).S 0).N ≤ 64 from fun i hi => by rw [(FA.out i hi).2.2.2]; exact DL.out _)
    have r0 := Lib.hid (show ∀ i, i < j → 0 ≤ ((R i).S 0).N from fun i hi => by rw [(FA.out i hi).2.1.2]; exact D0.out _)
    have s0 := Lib.hid (show ∀ i, i < j → 0 ≤ ((S i).S 0).N from fun i hi => by rw [(FA.out i hi).2.2.2]; exact D0.out _)
    have bel := Lib.hid (show ∀ i, i < j → ElT d.P d.Q (Trp.of ((B i).S 0)) from fun i hi => by rw [(FA.out i hi).1.2]; exact sealN_el SF.out.p2 SF.out.q1 EG.out EG.out (SE.out i hi) _)
    clear hbat hrls hsls L1 L2 L3 COL OLD FA BL GR5 KY SA5 B5
    by_cases hpf : PermF j f
    case neg =>
      have con := mix_no (cp := cp) GRX.out KYX.out BAT.out (HP.out.below BX.out) RLS.out bn1.out rn1.out (by omega) (by rw [HFF.out]; exact hpf)
      have CON := Lib.hid con
      clear con hpf
      go_wp2_with fail
      refine CON.out.mono ?_
      rintro e w9 ⟨rfl, b9⟩
      have B9 := Lib.hid (BX.out.trans b9)
      clear b9 CON
      go_wp2_with fail
      go_ret
      first
      | exact ⟨rfl, B9.out⟩
      | exact ⟨by simp, B9.out⟩
    case pos =>
    have PF := Lib.hid hpf
    have con := mix_yes (cp := cp) GRX.out KYX.out BAT.out (HP.out.below BX.out) RLS.out bn1.out rn1.out (by omega) (by rw [HFF.out]; exact hpf) EG.out bel.out rdl.out
    rw [HFF.out] at con
    have CON := Lib.hid con
    clear con hpf
    go_wp2_with fail
    refine CON.out.mono ?_
    rintro e w9 ⟨A9, c9, S9, rfl, h91, h92, b9⟩
    have b9 : B7 wr w9 := b9
    have BT9 := Lib.hid h91
    have F9 := Lib.hid h92
    have B9 := Lib.hid (BX.out.trans b9)
    have GR9 := Lib.hid (b9.gr GRX.out)
    have KY9 := Lib.hid (b9.nm KYX.out)
    have BAT9 := Lib.hid (BAT.out.b7' b9)
    have RLS9 := Lib.hid (RLS.out.b7' b9)
    have SLS9 := Lib.hid (SLS.out.b7' b9)
    have fi := Lib.hid (show ∀ i, i < j → (f i).toNat < j from fun i hi => by have := PF.out.1 i hi; omega)
    have el9 := Lib.hid (show ∀ i, i < j → ElT d.P d.Q (Trp.of ((S9 i).S 0)) from fun i hi => by
      rw [(h92 i hi).2.2]
      exact anewN_el SF.out.p2 SF.out.q1 EG.out EG.out (bel.out _ (fi.out i hi)) _)
    clear h91 h92 b9 CON GRX KYX BAT RLS SLS BX
    by_cases hpg : PermF j g
    case neg =>
      have con := mix_no (cp := ct) GR9.out KY9.out BT9.out (HT.out.below B9.out) SLS9.out (fun i hi => (F9.out i hi).1) sn1.out (by omega) (by rw [HGG.out]; exact hpg)
      have CON := Lib.hid con
      clear con hpg
      go_wp2_with fail
      refine CON.out.mono ?_
      rintro e w10 ⟨rfl, b10⟩
      have B10 := Lib.hid (B9.out.trans b10)
      clear b10 CON
      go_wp2_with fail
      go_ret
      first
      | exact ⟨rfl, B10.out⟩
      | exact ⟨by simp, B10.out⟩
    case pos =>
    have PG := Lib.hid hpg
    have con := mix_yes (cp := ct) GR9.out KY9.out BT9.out (HT.out.below B9.out) SLS9.out (fun i hi => (F9.out i hi).1) sn1.out (by omega) (by rw [HGG.out]; exact hpg) EG.out el9.out sdl.out
    rw [HGG.out] at con
    have CON := Lib.hid con
    clear con hpg
    go_wp2_with fail
    refine CON.out.mono ?_
    rintro e w10 ⟨A10, c10, S10, rfl, h101, h102, b10⟩
    have b10 : B7 w9 w10 := b10
    have BT10 := Lib.hid h101
    have B10 := Lib.hid (B9.out.trans b10)
    have GR10 := Lib.hid (b10.gr GR9.out)
    have KY10 := Lib.hid (b10.nm KY9.out)
    have BAT10 := Lib.hid (BAT9.out.b7' b10)
    have RLS10 := Lib.hid (RLS9.out.b7' b10)
    have SLS10 := Lib.hid (SLS9.out.b7' b10)
    have gi := Lib.hid (show ∀ i, i < j → (g i).toNat < j from fun i hi => by have := PG.out.1 i hi; omega)
    obtain ⟨F, hF⟩ : ∃ F : Nat → Int, F = fun p => (((R (g p).toNat).S 0).N + ((S p).S 0).N) % d.Q := ⟨_, rfl⟩
    have HFS := Lib.hid hF
    have F10 := Lib.hid (show ∀ i, i < j → (S10 i).n = 1 ∧ CanL (S10 i).S 1 ∧ Trp.of ((S10 i).S 0) = anewN d.P d.Q d.G d.G (Trp.of ((B (f (g i).toNat).toNat).S 0)) (F i) from fun i hi => by
      obtain ⟨k1, k2, k3⟩ := h102 i hi
      refine ⟨k1, k2, ?_⟩
      have k4 : Trp.of ((S10 i).S 0) = anewN d.P d.Q d.G d.G (Trp.of ((S9 (g i).toNat).S 0)) ((S i).S 0).N := k3
      have k5 : Trp.of ((S9 (g i).toNat).S 0) = anewN d.P d.Q d.G d.G (Trp.of ((B (f (g i).toNat).toNat).S 0)) ((R (g i).toNat).S 0).N := (F9.out _ (gi.out i hi)).2.2
      rw [k4, k5, anew_anew SF.out.p2 SF.out.q1 EG.out EG.out (r0.out _ (gi.out i hi)) (s0.out i hi), hF]
      exact (anewN_mod SF.out.q1).symm)
    clear h101 h102 b10 CON GR9 KY9 BT9 BAT9 RLS9 SLS9 B9 F9 el9 hF
    obtain ⟨H, hH⟩ : ∃ H : Nat → Int, H = fun p => f (g p).toNat := ⟨_, rfl⟩
    have HHS := Lib.hid hH
    have PH := Lib.hid (show PermF j H from by
      rw [hH]
      refine ⟨fun i hi => PF.out.1 _ (gi.out i hi), fun i k hk hi e => ?_⟩
      have g1 := gi.out i hi
      have g2 := gi.out k (by omega)
      have p1 := PG.out.1 i hi
      have p2 := PG.out.1 k (by omega)
      have p3 := PG.out.2 i k hk hi
      have e : f (g k).toNat = f (g i).toNat := e
      rcases Nat.lt_or_ge (g k).toNat (g i).toNat with q | q
      · exact PF.out.2 _ _ q g1 e
      · rcases Nat.lt_or_ge (g i).toNat (g k).toNat with q2 | q2
        · exact PF.out.2 _ _ q2 g2 e.symm
        · omega)
    clear hH
    clear hjq
    go_wp2_with fail
    obtain ⟨wc, rfl⟩ : ∃ wc, wc = w10 := ⟨_, rfl⟩
    go_loopw [28, 29, 30] (fun v1 v2 i wr => TwT H F j wc v1 v2 i wr) (fun _ _ i _ => j - (intOf i).toNat)
    case atStart => exact ⟨0, fun _ => 0, fun _ => 0, fun _ => rsl0, Nat.zero_le _, rfl, Col.none _, fun _ _ => rfl, Lst.nil _ _ _ _ _ _ _, Lst.nil _ _ _ _ _ _ _, fun p hp => absurd hp (Nat.not_lt_zero p), B7.refl _⟩
    case round =>
      obtain ⟨i, c, L, T, hi, rfl, hcol, hold, hl1, hl2, hfa, hbl⟩ := hrel
      have COL := Lib.hid hcol
      have OLD := Lib.hid hold
      have L1 := Lib.hid hl1
      have L2 := Lib.hid hl2
      have FA := Lib.hid hfa
      have BL := Lib.hid hbl
      have BY := Lib.hid (B10.out.trans hbl)
      clear hcol hold hl1 hl2 hfa hbl
      rcases Nat.lt_or_ge i j with hlt | hge2
      · --<L2
        have hij : (i : Int) < (j : Int) := by omega
        obtain ⟨gv, hgv⟩ : ∃ gv : Nat, g i = gv := ⟨(g i).toNat, by have := PG.out.1 i hlt; omega⟩
        have hgj : gv < j := by have := gi.out i hlt; omega
        have HGV := Lib.hid hgv
        have EH := Lib.hid (show f gv = H i by rw [HHS.out]; show f gv = f (g i).toNat; rw [hgv]; rfl)
        have EF := Lib.hid (show (((R gv).S 0).N + ((S i).S 0).N) % d.Q = F i by rw [HFS.out]; show _ = (((R (g i).toNat).S 0).N + ((S i).S 0).N) % d.Q; rw [hgv]; rfl)
        obtain ⟨bt, ot, rfl, lt, yt⟩ := rd_ex HT.out (by omega)
        obtain ⟨bp, op, rfl, lp, yp⟩ := rd_ex HP.out (by omega)
        have yt1 := yt i hlt
        have yp1 := yp gv hgj
        rw [HGG.out, hgv] at yt1
        rw [HFF.out] at yp1
        have z1 := (BY.out.cell (p := ⟨bt, ot + i, none⟩) lt).trans yt1
        have z2 := (BY.out.cell (p := ⟨bp, op + gv, none⟩) lp).trans yp1
        have hgj2 : (gv : Int) < (j : Int) := by omega
        have bx7 := B7.alloc wr (.cells #[.int .i64 (f gv)] 3)
        have BL7 := Lib.hid (BL.out.trans bx7)
        have szb := BL7.out.sz
        have CA := Lib.hid (COL.out.below bx7.sz)
        have M1 := Lib.hid (L1.out.below bx7)
        have M2 := Lib.hid (L2.out.below bx7)
        have U1 := Lib.hid (show (wr.alloc (.cells #[.int .i64 (f gv)] 3)).cell? ⟨wr.heap.size, 0, none⟩ = some (kInt.v (f gv)) from one_at wr _ _)
        clear bx7 yt yp yt1 yp1 hgv
        go_wp2_with (at_builtin; refine wpList_lst rfl (.tmp 162) (.tmp 170) 46 rfl wc.heap.size 3 8 (.int .i64 0) Tryz.underlying46 infoI7 rfl 1 c (by decide) CA.out u28 i 1 L (f gv) rfl M1.out wr.heap.size rfl U1.out trivial (fun b hb => hb.elim) (by unfold maxLen; omega) (by omega) szb ?_)
        rintro v8 w8 c8 n1 hg sc cl8
        have N1 := Lib.hid n1
        have N2 := Lib.hid (M2.out.other hg M1.out.row (by decide) (by decide) sc)
        have OLD8 := Lib.hid (OLD.out.same sc szb)
        have COL8 := Lib.hid cl8
        have BL8 := Lib.hid (BL7.out.grown hg (fun g e => (M1.out.l.lt e).1))
        have BX8 := Lib.hid (B10.out.trans BL8.out)
        clear n1 hg sc cl8 M1 M2 U1 CA z1 z2
        have r1 := RLS10.out.b7' BL8.out
        have s1 := SLS10.out.b7' BL8.out
        obtain ⟨br, orr, rfl, lr, yr⟩ := r1.ex (by omega)
        obtain ⟨bs, os, rfl, ls, ys⟩ := s1.ex (by omega)
        have z2 := yr gv hgj
        have z4 := ys i hlt
        have nr := r1.at_ gv hgj
        have ns := s1.at_ i hlt
        obtain ⟨x1, y1, e1, l1, k1⟩ := nr.ex (by have := rn1.out gv hgj; omega)
        obtain ⟨x2, y2, e2, l2, k2⟩ := ns.ex (by have := sn1.out i hlt; omega)
        have z3 := k1 0 (by have := rn1.out gv hgj; omega)
        have z5 := k2 0 (by have := sn1.out i hlt; omega)
        have NR := Lib.hid (nr.at_ 0 (by have := rn1.out gv hgj; omega))
        have NS := Lib.hid (ns.at_ 0 (by have := sn1.out i hlt; omega))
        rw [e1, rn1.out gv hgj] at z2
        rw [e2, sn1.out i hlt] at z4
        rw [Nat.add_zero] at z3 z5
        obtain ⟨bt, ot, et, lt, yt⟩ := rd_ex HT.out (by omega)
        injection et with et
        injection et with et1 et2
        subst et1 et2
        have yt1 := yt i hlt
        rw [HGG.out, HGV.out] at yt1
        have z1 := (BX8.out.cell (p := ⟨_, _ + i, none⟩) lt).trans yt1
        have GR8 := Lib.hid (BL8.out.gr GR10.out)
        have BD8 := Lib.hid (show B7 w8 w8.drew from B7.drewN w8 1)
        have GRD := Lib.hid (show Gr0 w8.drew b d from (BD8.out.gr GR8.out).toGr0)
        have kA := And.intro z1 (And.intro z2 (And.intro z3 (And.intro z4 z5)))
        clear yr ys k1 k2 e1 e2 nr ns r1 s1 yt yt1
        go_wp2_with fail
        go_region_held3 (fun w' => w'.cell? ⟨bt, ot + i, none⟩ = some (.int .i64 (gv : Int)) ∧ w'.cell? ⟨br, orr + gv, none⟩ = some (.slice (some ⟨x1, y1, none⟩) 1 (R gv).c) ∧ w'.cell? ⟨x1, y1, none⟩ = some (.slice ((R gv).S 0).A ((R gv).S 0).n ((R gv).S 0).c) ∧ w'.cell? ⟨bs, os + i, none⟩ = some (.slice (some ⟨x2, y2, none⟩) 1 (S i).c) ∧ w'.cell? ⟨x2, y2, none⟩ = some (.slice ((S i).S 0).A ((S i).S 0).n ((S i).S 0).c)) (first | exact kA | exact kB | go_keep | assumption)
          (first
          | (go_at_call 33; (with_reducible refine (gscalars_any GRD.out).mono ?_); rintro e u5 ⟨bq, Aq, cq, lowq, Bq, cBq, Sq, cSq, rfl, md, b5, -⟩; have b5 : B7 w8 u5 := BD8.out.trans b5; have B5 := Lib.hid b5; have MD := Lib.hid md; have kB := And.intro ((b5.cell (p := ⟨bt, ot + i, none⟩) (Nat.lt_of_lt_of_le lt BX8.out.sz)).trans kA.1) (And.intro ((b5.cell (p := ⟨br, orr + gv, none⟩) lr).trans kA.2.1) (And.intro ((b5.cell (p := ⟨x1, y1, none⟩) l1).trans kA.2.2.1) (And.intro ((b5.cell (p := ⟨bs, os + i, none⟩) ls).trans kA.2.2.2.1) ((b5.cell (p := ⟨x2, y2, none⟩) l2).trans kA.2.2.2.2)))); clear md b5)
          | (go_at_call 34; (with_reducible refine (madd_any MD.out (B5.out.nm NR.out) (B5.out.nm NS.out) (rdl.out gv hgj) (sdl.out i hlt)).mono ?_); rintro e u6 ⟨B6, n6, c6, rfl, hc6, b6, hn6⟩; have b56 : B7 u5 u6 := b6; have B6' := Lib.hid (B5.out.trans b56); have HC6 := Lib.hid hc6; have HN6 := Lib.hid hn6; have Z56 := Lib.hid b56.sz; have kC := And.intro ((B6'.out.cell (p := ⟨bt, ot + i, none⟩) (Nat.lt_of_lt_of_le lt BX8.out.sz)).trans kA.1) (And.intro ((B6'.out.cell (p := ⟨br, orr + gv, none⟩) lr).trans kA.2.1) (And.intro ((B6'.out.cell (p := ⟨x1, y1, none⟩) l1).trans kA.2.2.1) (And.intro ((B6'.out.cell (p := ⟨bs, os + i, none⟩) ls).trans kA.2.2.2.1) ((B6'.out.cell (p := ⟨x2, y2, none⟩) l2).trans kA.2.2.2.2)))); clear hc6 b6 b56 hn6))
        all_goals
          clear kA kB kC z1 z2 z3 z4 z5
          have sz6 := B6'.out.sz
          have sz5 := B5.out.sz
          have sz56 := Z56.out
          have b7 := (B6'.out.trans (B7.alloc u6 (.cells #[.slice B6 n6 c6] 23))).trans (B7.alloc (u6.alloc (.cells #[.slice B6 n6 c6] 23)) (.cells #[.slice (some ⟨u6.heap.size, 0, none⟩) 1 1] 24))
          have BL9 := Lib.hid (BL8.out.trans b7)
          have szb9 := BL9.out.sz
          have CA9 := Lib.hid (COL8.out.below b7.sz)
          have M1 := Lib.hid (N1.out.below b7)
          have M2 := Lib.hid (N2.out.below b7)
          have U1 := Lib.hid (show ((u6.alloc (.cells #[.slice B6 n6 c6] 23)).alloc (.cells #[.slice (some ⟨u6.heap.size, 0, none⟩) 1 1] 24)).cell? ⟨u6.heap.size + 1, 0, none⟩ = some (kNs.v ⟨some ⟨u6.heap.size, 0, none⟩, 1, 1, fun _ => ⟨B6, n6, c6, (((R gv).S 0).N + ((S i).S 0).N) % d.Q⟩⟩) from by
            have h := one_at (u6.alloc (.cells #[.slice B6 n6 c6] 23)) (.slice (some ⟨u6.heap.size, 0, none⟩) 1 1) 24
            rw [show (u6.alloc (.cells #[.slice B6 n6 c6] 23)).heap.size = u6.heap.size + 1 by simp] at h
            exact h)
          have U2 := Lib.hid (show kNs.At ((u6.alloc (.cells #[.slice B6 n6 c6] 23)).alloc (.cells #[.slice (some ⟨u6.heap.size, 0, none⟩) 1 1] 24)) ⟨some ⟨u6.heap.size, 0, none⟩, 1, 1, fun _ => ⟨B6, n6, c6, (((R gv).S 0).N + ((S i).S 0).N) % d.Q⟩⟩ from (ns_one HC6.out.nm).below (below_al _ _))
          have U3 := Lib.hid (show ∀ b, kNs.Bl ⟨some ⟨u6.heap.size, 0, none⟩, 1, 1, fun _ => ⟨B6, n6, c6, (((R gv).S 0).N + ((S i).S 0).N) % d.Q⟩⟩ b → c8 b = 0 from fun b hb => by
            rcases hb with ⟨a, e, -, rfl⟩ | ⟨t, -, a, e, -, rfl⟩
            · injection e with e
              subst e
              exact COL8.out _ sz6
            · have := HN6.out a e
              exact COL8.out _ (by omega))
          have szb10 : wc.heap.size ≤ ((u6.alloc (.cells #[.slice B6 n6 c6] 23)).alloc (.cells #[.slice (some ⟨u6.heap.size, 0, none⟩) 1 1] 24)).heap.size := szb9
          clear b7 szb9
          go_wp2_with (at_builtin; refine wpList_lst rfl (.tmp 195) (.tmp 198) 47 rfl wc.heap.size 24 24 (.slice none 0 0) Tryz.underlying47 infoR7 rfl 2 c8 (by decide) CA9.out u29 i 1 T ⟨some ⟨u6.heap.size, 0, none⟩, 1, 1, fun _ => ⟨B6, n6, c6, (((R gv).S 0).N + ((S i).S 0).N) % d.Q⟩⟩ rfl M2.out (u6.heap.size + 1) rfl U1.out U2.out U3.out (by unfold maxLen; omega) (by omega) szb10 ?_)
          rintro v10 w10' c10' n2 hg sc cl10
          have N2' := Lib.hid n2
          have N1' := Lib.hid (M1.out.other hg M2.out.row (by decide) (by decide) sc)
          have OLD10 := Lib.hid (OLD8.out.same sc szb10)
          have COL10 := Lib.hid cl10
          have BL10 := Lib.hid (BL9.out.grown hg (fun g e => (M2.out.l.lt e).1))
          clear n2 hg sc cl10 M1 M2 U1 U2 U3 CA9 szb10
          go_wp2_with fail
          go_roundw
          case rel =>
            refine ⟨i + 1, c10', _, _, by omega, by go_num, COL10.out, OLD10.out, N1'.out, N2'.out, fun p hp => ?_, BL10.out⟩
            rcases Nat.lt_or_ge p i with g | g
            · rw [snocG_lt g, snocG_lt g]
              exact FA.out p g
            · obtain rfl : p = i := by omega
              rw [snocG_at, snocG_at]
              exact ⟨EH.out, rfl, EF.out⟩
          case measure => simp [intOf]; omega
        --L2>
      obtain rfl : i = j := by omega
      have hij : decide ((i : Int) < (i : Int)) = false := by simp
      obtain ⟨Aa, ca, rfl, -, -, hints⟩ := L1.out.l.ints
      obtain ⟨Aq, cq, rfl, -, htls⟩ := L2.out.l.rls (by omega)
      have INT := Lib.hid hints
      have TLS := Lib.hid htls
      have GRY := Lib.hid (BL.out.gr GR10.out)
      have KYY := Lib.hid (BL.out.nm KY10.out)
      have BATY := Lib.hid (BAT10.out.b7' BL.out)
      have BTY := Lib.hid (BT10.out.b7' BL.out)
      have dm : ∀ p, p < i → dig ((List.range i).map L) p = H p := fun p hp => by rw [dig_map hp]; exact (FA.out p hp).1
      have PD := Lib.hid (show PermF i (dig ((List.range i).map L)) from (permF_dig dm).2 PH.out)
      have DM := Lib.hid dm
      have con := mix_yes (cp := ca) GRY.out KYY.out BATY.out INT.out TLS.out bn1.out (fun p hp => (FA.out p hp).2.1) (by omega) PD.out EG.out bel.out (fun p hp => by rw [(FA.out p hp).2.2, HFS.out]; exact rest_dl GRY.out _)
      have CON := Lib.hid con
      clear hints htls L1 L2 COL OLD dm con
      go_wp2_with fail
      refine CON.out.mono ?_
      rintro e w12 ⟨A12, c12, S12, rfl, h121, h122, b12⟩
      have b12 : B7 wr w12 := b12
      have BT12 := Lib.hid h121
      have BTZ := Lib.hid (BTY.out.b7' b12)
      have B12 := Lib.hid (BY.out.trans b12)
      have F12 := Lib.hid (show ∀ p, p < i → (S12 p).n = 1 ∧ CanL (S12 p).S 1 ∧ Trp.of ((S12 p).S 0) = Trp.of ((S10 p).S 0) from fun p hp => by
        obtain ⟨k1, k2, k3⟩ := h122 p hp
        refine ⟨k1, k2, ?_⟩
        have k4 : Trp.of ((S12 p).S 0) = anewN d.P d.Q d.G d.G (Trp.of ((B (dig ((List.range i).map L) p).toNat).S 0)) ((T p).S 0).N := k3
        rw [k4, DM.out p hp, (FA.out p hp).2.2, (F10.out p hp).2.2, HHS.out])
      have t1 : ((i : Int) != (i : Int)) = false := by simp
      clear h121 h122 b12 CON FA GRY KYY BATY BTY
      go_wp2_with fail
      obtain ⟨wd, rfl⟩ : ∃ wd, wd = w12 := ⟨_, rfl⟩
      go_loopw [35] (fun t wr => TwS i wd t wr) (fun t _ => i - (intOf t).toNat)
      case atStart => exact ⟨0, Nat.zero_le _, rfl, B7.refl _⟩
      case round =>
        clear t1 hij
        obtain ⟨p, hp, rfl, hbl⟩ := hrel
        have HBD := Lib.hid hbl
        clear hbl
        rcases Nat.lt_or_ge p i with hlt | hge3
        · --<L3
          have hpn : (p : Int) < (i : Int) := by omega
          have h5 := BTZ.out.b7' HBD.out
          have h6 := BT12.out.b7' HBD.out
          obtain ⟨bo, of, rfl, lo, yo⟩ := h5.ex (by omega)
          obtain ⟨bo', of', rfl, lo', yo'⟩ := h6.ex (by omega)
          have z1 := yo p hlt
          have z2 := yo' p hlt
          have c1 := h5.at_ p hlt
          have c2 := h6.at_ p hlt
          obtain ⟨u1, u2, -⟩ := F10.out p hlt
          obtain ⟨v1, v2, v3⟩ := F12.out p hlt
          rw [u1] at z1 c1
          rw [v1] at z2 c2
          have SQ := Lib.hid (fun q => same7_q (q := q) c1 c2 u2 v2 (fun t ht => by obtain rfl : t = 0 := (by omega); exact v3.symm))
          clear yo yo' c1 c2 u1 u2 v1 v2 v3 h5 h6
          go_wp2_with fail
          go_quiet ((go_at_call 20; exact SQ.out _))
          go_wp2_with fail
          go_roundw
          case rel => exact ⟨p + 1, by omega, by go_num, HBD.out.trans (B7.drewN _ _)⟩
          case measure => simp [intOf]; omega
          --L3>
        obtain rfl : p = i := by omega
        have hpn : decide ((p : Int) < (p : Int)) = false := by simp
        go_wp2_with fail
        go_ret
        exact ⟨rfl, B12.out.trans HBD.out⟩
end Go.Proofs.YtpmnghealjgkeaaGreat
