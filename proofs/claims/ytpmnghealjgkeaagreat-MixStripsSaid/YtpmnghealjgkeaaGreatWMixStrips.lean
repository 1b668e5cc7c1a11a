/-
  MixStrips answers true: a share taken off a letter, and sealed on to another key; turned; opened, as the document has it, or what is amiss first.
-/
import Derived.Test.YtpmnghealjgkeaaGreatB7
import Derived.Test.YtpmnghealjgkeaaGreatR7x
import Derived.Test.YtpmnghealjgkeaaGreatR7u
import Derived.Test.YtpmnghealjgkeaaGreatK7
import Derived.Test.YtpmnghealjgkeaaGreatL7z
import Derived.Test.YtpmnghealjgkeaaGreatLv7
namespace Go.Proofs.YtpmnghealjgkeaaGreat
open Go.RowKit
set_option linter.unusedVariables false
theorem ns_two {w : World} {A A' : Option Addr} {n c n' c' : Nat} {N M : Int} (h : Nm w A n c N) (h' : Nm w A' n' c' M) : Ns (w.alloc (.cells #[.slice A n c, .slice A' n' c'] 23)) (some ⟨w.heap.size, 0, none⟩) 2 2 (fun i => if i = 0 then ⟨A, n, c, N⟩ else ⟨A', n', c', M⟩) :=
  ⟨Nat.le_refl _, by omega, fun _ => ⟨w.heap.size, 0, rfl, by simp, fun i hi => by
    rcases (show i = 0 ∨ i = 1 by omega) with q | q <;> subst q <;> simp [World.cell?_alloc_at]⟩, fun i hi => by
    rcases (show i = 0 ∨ i = 1 by omega) with q | q <;> subst q
    · exact h.below (below_al _ _)
    · exact h'.below (below_al _ _)⟩
def StrR (n : Nat) (w : World) (i : Value) (wr : World) : Prop := ∃ k : Nat, k ≤ n ∧ i = .int .i64 k ∧ B7 w wr
set_option maxHeartbeats 16000000 in
set_option maxRecDepth 100000 in
theorem mixStrips_walk {w : World} (x : Int) (hx : -9223372036854775808 ≤ x ∧ x ≤ 9223372036854775807) {Av Ak Ar Al : Option Addr} {nv cv nk ck nr cr nl cl : Nat} {R : Nat → Nsl} {V K : Int} {S : Nat → Stp}
    (hv : Nm w Av nv cv V) (hk : Nm w Ak nk ck K) (hl : Ch w Al nl cl S) (h72 : nl * 72 ≤ 140737488355328) (hr : Ns w Ar nr cr R) :
    Calls Tryz.prog 5 #[.int .i64 x, .slice Av nv cv, .slice Ak nk ck, .slice Al nl cl, .slice Ar nr cr] w (AnsV (.bool true) w) := by
  have HV := Lib.hid hv
  have HK := Lib.hid hk
  have HR := Lib.hid hr
  have HL := Lib.hid hl
  have HX := Lib.hid hx
  have H72 := Lib.hid h72
  have heq := eq_none
  have nl60 := hl.c60
  clear hv hk hr hl hx h72
  go_enter Tryz.func5, Tryz.ntmps5
  go_wp2_with fail
  refine (up7_any w).mono ?_
  rintro e w0 ⟨rfl, b0⟩
  have B0 := Lib.hid (show B7 w w0 from b0)
  clear b0
  go_wp2_with fail
  refine (known7_any x HX.out w0).mono ?_
  rintro e w1 ⟨b, d, b', r, rfl, gr, rg, eP, eQ, eG, b1⟩
  have B1 := Lib.hid (B0.out.trans b1)
  have GR := Lib.hid gr
  have RG := Lib.hid rg
  have EP := Lib.hid eP
  have EQ := Lib.hid eQ
  have EG := Lib.hid eG
  clear b1 gr rg eP eQ eG B0
  have heqb := heq b
  clear heq
  go_wp2_with fail
  refine (few7_any nl nl60 w1).mono ?_
  rintro e w2 ⟨⟨q1, rfl, -⟩, rfl⟩
  cases q1 with
  | false =>
    go_wp2_with fail
    go_ret
    exact ⟨rfl, B1.out⟩
  | true =>
  rcases Nat.lt_or_ge 40 nr with g | g
  · have e1 : decide ((nr : Int) ≤ 40) = false := by simp; omega
    have e2 : ¬ (nr : Int) ≤ 40 := by omega
    go_wp2_with fail
    go_ret
    exact ⟨rfl, B1.out⟩
  have e1 : decide ((nr : Int) ≤ 40) = true := by simp; omega
  have e2 : (nr : Int) ≤ 40 := by omega
  go_wp2_with fail
  refine (light7_any (B1.out.ns HR.out)).mono ?_
  rintro e w2 ⟨⟨q1, rfl, hq⟩, rfl⟩
  cases q1 with
  | false =>
    clear hq
    go_wp2_with fail
    go_ret
    exact ⟨rfl, B1.out⟩
  | true =>
  have LR := Lib.hid (hq.1 rfl)
  clear hq
  have B2 := Lib.hid (B1.out.trans (B7.alloc w1 (.cells #[.slice Av nv cv, .slice Ak nk ck] 23)))
  go_wp2_with fail
  refine (light7_any (ns_two (B1.out.nm HV.out) (B1.out.nm HK.out))).mono ?_
  rintro e w2 ⟨⟨q1, rfl, hq⟩, rfl⟩
  cases q1 with
  | false =>
    clear hq
    go_wp2_with fail
    go_ret
    exact ⟨rfl, B2.out⟩
  | true =>
  have LV := Lib.hid (show Li nv V from hq.1 rfl 0 (by decide))
  have LK := Lib.hid (show Li nk K from hq.1 rfl 1 (by decide))
  clear hq
  go_wp2_with fail
  refine (pairs7_any (B2.out.ch HL.out) H72.out).mono ?_
  rintro e w3 ⟨A3, c3, S3, rfl, h1, h2, h3⟩
  have B3 := Lib.hid (B2.out.trans h3)
  have N3 := Lib.hid h1
  have P3 := Lib.hid h2
  clear h1 h2
  have GR3 := Lib.hid (B7.gr h3 (B7.gr (B7.alloc w1 (.cells #[.slice Av nv cv, .slice Ak nk ck] 23)) GR.out))
  have RG3 := Lib.hid ((RG.out.below (B7.alloc w1 (.cells #[.slice Av nv cv, .slice Ak nk ck] 23))).below h3)
  clear h3 GR RG B1 B2
  go_wp2_with fail
  refine (light7_any N3.out).mono ?_
  rintro e w4 ⟨⟨q1, rfl, hq⟩, rfl⟩
  cases q1 with
  | false =>
    clear hq
    go_wp2_with fail
    go_ret
    exact ⟨rfl, B3.out⟩
  | true =>
  have LL := Lib.hid ((pairs_lis P3.out).1 (hq.1 rfl))
  clear hq N3 P3
  obtain ⟨C1, hC1⟩ : ∃ C, stripC d.P d.Q V K S nl R nr = C := ⟨_, rfl⟩
  obtain ⟨C2, hC2⟩ : ∃ C, turnC d.P d.Q S nl = C := ⟨_, rfl⟩
  have R1 := Lib.hid (show C1 ≠ 0 → 1 ≤ C1 ∧ C1 ≤ 15 by rw [← hC1]; exact fitC_rng)
  have R2 := Lib.hid (show C2 ≠ 0 → 1 ≤ C2 ∧ C2 ≤ 15 by rw [← hC2]; exact fitC_rng)
  have HC1 := Lib.hid hC1
  have HC2 := Lib.hid hC2
  clear hC1 hC2
  go_wp2_with fail
  refine ((pm_strip GR3.out (B3.out.nm HV.out) (B3.out.nm HK.out) (B3.out.ch HL.out) (B3.out.ns HR.out)).mono fun e w' g => (LetP.v (HC1.out ▸ g) R1.out)).mono ?_
  rintro e w5 ⟨A5, c5, S5, E5, rfl, h1, h2, h3, h4, h5⟩
  obtain ⟨n5, hn5⟩ : ∃ n5, lenV C1 nl = n5 := ⟨_, rfl⟩
  rw [hn5] at h2 h3 h4 ⊢
  have N5 := Lib.hid hn5
  have E5' := Lib.hid h1
  have H5 := Lib.hid h2
  have K5 := Lib.hid h3
  have T5 := Lib.hid h4
  have B5 := Lib.hid (B3.out.trans h5)
  have GR5 := Lib.hid (B7.gr h5 GR3.out)
  have RG5 := Lib.hid (RG3.out.below h5)
  clear h1 h2 h3 h4 h5 hn5 GR3 RG3 B3
  go_wp2_with fail
  refine ((pm_turn GR5.out (B5.out.ch HL.out)).mono fun e w' g => (LetP.v (HC2.out ▸ g) R2.out)).mono ?_
  rintro e w6 ⟨A6, c6, S6, E6, rfl, h1, h2, h3, h4, h5⟩
  obtain ⟨n6, hn6⟩ : ∃ n6, lenV C2 nl = n6 := ⟨_, rfl⟩
  rw [hn6] at h2 h3 h4 ⊢
  have N6 := Lib.hid hn6
  have E6' := Lib.hid h1
  have H6 := Lib.hid h2
  have K6 := Lib.hid h3
  have T6 := Lib.hid h4
  have B6 := Lib.hid (B5.out.trans h5)
  have H56 := Lib.hid (B7.ch h5 H5.out)
  have GR6 := Lib.hid (B7.gr h5 GR5.out)
  have RG6 := Lib.hid (RG5.out.below h5)
  clear h1 h2 h3 h4 h5 hn6 GR5 RG5 B5 H5
  go_wp2_with fail
  refine ((pm_open GR6.out (B6.out.ch HL.out)).mono fun e w' g => (NumP.v (HC2.out ▸ g) R2.out)).mono ?_
  rintro e w7 ⟨A7, c7, S7, E7, rfl, h1, h2, h3, h4, h5⟩
  rw [N6.out] at h2 h3 h4 ⊢
  have E7' := Lib.hid h1
  have H7 := Lib.hid h2
  have K7 := Lib.hid h3
  have T7 := Lib.hid h4
  have B7' := Lib.hid (B6.out.trans h5)
  have H57 := Lib.hid (B7.ch h5 H56.out)
  have H67 := Lib.hid (B7.ch h5 H6.out)
  have RG7 := Lib.hid (RG6.out.below h5)
  clear h1 h2 h3 h4 h5 GR6 RG6 B6 H56 H6
  go_wp2_with fail
  have con8 := rstrip7_any RG7.out (B7'.out.nm HV.out) LV.out (B7'.out.nm HK.out) LK.out (B7'.out.ch HL.out) LL.out (B7'.out.ns HR.out) LR.out
  rw [EP.out, EQ.out, EG.out, HC1.out] at con8
  refine (con8.mono fun e w' g => g.v).mono ?_
  clear con8
  rintro e w8 ⟨A8, c8, S8, rfl, h2, h3, h4, h5⟩
  rw [N5.out] at h2 h3 h4 ⊢
  have H8 := Lib.hid h2
  have K8 := Lib.hid h3
  have T8 := Lib.hid h4
  have B8 := Lib.hid (B7'.out.trans h5)
  have H58 := Lib.hid (B7.ch h5 H57.out)
  have H68 := Lib.hid (B7.ch h5 H67.out)
  have H78 := Lib.hid (B7.ns h5 H7.out)
  have RG8 := Lib.hid (RG7.out.below h5)
  clear h2 h3 h4 h5 RG7 B7' H57 H67 H7
  go_wp2_with fail
  have con9 := rturn7_any RG8.out (B8.out.ch HL.out) LL.out
  rw [EP.out, EQ.out, HC2.out] at con9
  refine (con9.mono fun e w' g => g.v).mono ?_
  clear con9
  rintro e w9 ⟨A9, c9, S9, rfl, h2, h3, h4, h5⟩
  rw [N6.out] at h2 h3 h4 ⊢
  have H9 := Lib.hid h2
  have K9 := Lib.hid h3
  have T9 := Lib.hid h4
  have B9 := Lib.hid (B8.out.trans h5)
  have H59 := Lib.hid (B7.ch h5 H58.out)
  have H69 := Lib.hid (B7.ch h5 H68.out)
  have H79 := Lib.hid (B7.ns h5 H78.out)
  have H89 := Lib.hid (B7.ch h5 H8.out)
  clear h2 h3 h4 h5 RG8 B8 H58 H68 H78 H8
  go_wp2_with fail
  refine (same7_yes H59.out H89.out K5.out K8.out (fun i hi => (T5.out i hi).trans (T8.out i hi).symm)).mono ?_
  rintro e w10 ⟨rfl, q9, rfl⟩
  have b9 : B7 w9 (w9.drewN q9) := B7.drewN _ _
  have HA := Lib.hid (b9.ch H69.out)
  have HB := Lib.hid (b9.ch H9.out)
  clear b9
  go_wp2_with fail
  refine (same7_yes HA.out HB.out K6.out K9.out (fun i hi => (T6.out i hi).trans (T9.out i hi).symm)).mono ?_
  rintro e w11 ⟨rfl, q10, rfl⟩
  go_wp2_with fail
  refine (code_e E5'.out _).mono ?_
  rintro e w12 ⟨rfl, rfl⟩
  have t1 : ((C1 : Int) == C1) = true := by simp
  have t2 : ((C2 : Int) == C2) = true := by simp
  have t3 : ((C1 : Int) != C1) = false := by simp
  have t4 : ((C2 : Int) != C2) = false := by simp
  have t5 : ((n6 : Int) != (n6 : Int)) = false := by simp
  go_wp2_with fail
  refine (code_e E6'.out _).mono ?_
  rintro e w12 ⟨rfl, rfl⟩
  go_wp2_with fail
  refine (code_e E7'.out _).mono ?_
  rintro e w12 ⟨rfl, rfl⟩
  have n60 := H79.out.c60
  go_wp2_with fail
  go_loopw [27] (fun i wr => StrR n6 w9 i wr) (fun i _ => n6 - (intOf i).toNat)
  case atStart => exact ⟨0, Nat.zero_le _, rfl, B7.drewN _ _⟩
  case round =>
    obtain ⟨p, hp, rfl, hbl⟩ := hrel
    rcases Nat.lt_or_ge p n6 with hlt3 | hge3
    · --<L3
      have g := hbl.ns H79.out
      have g' := hbl.ch H9.out
      obtain ⟨bo, off, rfl, hbo, hcell⟩ := g.ex (by omega)
      obtain ⟨bo', off', rfl, hbo', hcell'⟩ := g'.ex (by omega)
      have x0 := hcell p hlt3
      have y0 := (hcell' p hlt3).c1
      have p1 := g.at_ p hlt3
      have q1 := (g'.at_ p hlt3).q
      have l1 := K7.out p hlt3
      have m1 := (K9.out p hlt3).2.1
      have ee : (S7 p).N = (S9 p).Q := (T7.out p hlt3).trans (congrArg Trp.b (T9.out p hlt3)).symm
      obtain ⟨s, hs⟩ : ∃ s, S7 p = s := ⟨_, rfl⟩
      obtain ⟨s', hs'⟩ : ∃ s', S9 p = s' := ⟨_, rfl⟩
      rw [hs] at x0 p1 l1 ee
      rw [hs'] at y0 q1 m1 ee
      obtain ⟨A1, n1, c1, N1⟩ := s
      obtain ⟨X1, x1, y1, X2, x2, y2, X3, x3, y3, Z1, Z2, Z3⟩ := s'
      simp only at x0 p1 l1 ee y0 q1 m1
      subst ee
      obtain rfl : x2 = n1 := by omega
      have t1 := p1.c60
      have R1 := Lib.hid (p1.can l1)
      have R1' := Lib.hid (q1.can m1)
      have hkn : (p : Int) < (n6 : Int) := by omega
      have HQ := Lib.hid hbl
      clear p1 q1 l1 m1 hs hs' hcell hcell' g g' hbl
      go_wp2_with fail
      go_quiet ((go_at_call 29; exact same_q R1.out R1'.out t1))
      go_wp2_with fail
      go_roundw
      case rel => exact ⟨p + 1, by omega, by go_num, HQ.out.trans (B7.drewN _ _)⟩
      case measure => simp [intOf]; omega
      --L3>
    · obtain rfl : p = n6 := by omega
      have hkn : decide ((p : Int) < (p : Int)) = false := by simp
      go_wp2_with fail
      go_ret
      exact ⟨rfl, B9.out.trans hbl⟩
end Go.Proofs.YtpmnghealjgkeaaGreat
