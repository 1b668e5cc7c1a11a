/-
  MixSeals answers true: elements sealed, a letter sealed anew, as the document has it, or what is amiss first.
-/
import Derived.Test.YtpmnghealjgkeaaGreatB7
import Derived.Test.YtpmnghealjgkeaaGreatR7s
import Derived.Test.YtpmnghealjgkeaaGreatR7w
import Derived.Test.YtpmnghealjgkeaaGreatK7
import Derived.Test.YtpmnghealjgkeaaGreatL7z
import Derived.Test.YtpmnghealjgkeaaGreatLv7
namespace Go.Proofs.YtpmnghealjgkeaaGreat
open Go.RowKit
set_option linter.unusedVariables false
set_option maxHeartbeats 16000000 in
set_option maxRecDepth 100000 in
theorem mixSeals_walk {w : World} (x : Int) (hx : -9223372036854775808 ≤ x ∧ x ≤ 9223372036854775807) {Ak Am Ar Al : Option Addr} {nk ck nm cm nr cr nl cl : Nat} {M R : Nat → Nsl} {K : Int} {S : Nat → Stp}
    (hk : Nm w Ak nk ck K) (hm : Ns w Am nm cm M) (hr : Ns w Ar nr cr R) (hl : Ch w Al nl cl S) (h72 : nl * 72 ≤ 140737488355328) :
    Calls Tryz.prog 3 #[.int .i64 x, .slice Ak nk ck, .slice Am nm cm, .slice Ar nr cr, .slice Al nl cl] w (AnsV (.bool true) w) := by
  have HK := Lib.hid hk
  have HM := Lib.hid hm
  have HR := Lib.hid hr
  have HL := Lib.hid hl
  have HX := Lib.hid hx
  have H72 := Lib.hid h72
  have heq := eq_none
  have nm60 := hm.c60
  have nl60 := hl.c60
  clear hm hk hr hl hx h72
  go_enter Tryz.func3, Tryz.ntmps3
  go_wp2_with fail
  refine (up7_any w).mono ?_
  rintro e w0 ⟨rfl, b0⟩
  have B0 := Lib.hid (show B7 w w0 from b0)
  clear b0
  go_wp2_with fail
  refine (known7_any x HX.out w0).mono ?_
  rintro e w1 ⟨b, d, b', r, rfl, gr, rg, eP, eQ, eG, b1⟩
  have B1 := Lib.hid (B0.out.trans b1)
  have GR := Lib.hid gr
  have RG := Lib.hid rg
  have EP := Lib.hid eP
  have EQ := Lib.hid eQ
  have EG := Lib.hid eG
  clear b1 gr rg eP eQ eG B0
  have heqb := heq b
  clear heq
  go_wp2_with fail
  refine (few7_any nm nm60 w1).mono ?_
  rintro e w2 ⟨⟨q1, rfl, -⟩, rfl⟩
  cases q1 with
  | false =>
    go_wp2_with fail
    go_ret
    exact ⟨rfl, B1.out⟩
  | true =>
  go_wp2_with fail
  refine (few7_any nl nl60 w1).mono ?_
  rintro e w2 ⟨⟨q1, rfl, -⟩, rfl⟩
  cases q1 with
  | false =>
    go_wp2_with fail
    go_ret
    exact ⟨rfl, B1.out⟩
  | true =>
  rcases Nat.lt_or_ge 40 nr with g | g
  · have e1 : decide ((nr : Int) ≤ 40) = false := by simp; omega
    have e2 : ¬ (nr : Int) ≤ 40 := by omega
    go_wp2_with fail
    go_ret
    exact ⟨rfl, B1.out⟩
  have e1 : decide ((nr : Int) ≤ 40) = true := by simp; omega
  have e2 : (nr : Int) ≤ 40 := by omega
  go_wp2_with fail
  refine (light7_any (B1.out.ns HM.out)).mono ?_
  rintro e w2 ⟨⟨q1, rfl, hq⟩, rfl⟩
  cases q1 with
  | false =>
    clear hq
    go_wp2_with fail
    go_ret
    exact ⟨rfl, B1.out⟩
  | true =>
  have LM := Lib.hid (hq.1 rfl)
  clear hq
  go_wp2_with fail
  refine (light7_any (B1.out.ns HR.out)).mono ?_
  rintro e w2 ⟨⟨q1, rfl, hq⟩, rfl⟩
  cases q1 with
  | false =>
    clear hq
    go_wp2_with fail
    go_ret
    exact ⟨rfl, B1.out⟩
  | true =>
  have LR := Lib.hid (hq.1 rfl)
  clear hq
  have B2 := Lib.hid (B1.out.trans (B7.alloc w1 (.cells #[.slice Ak nk ck] 23)))
  go_wp2_with fail
  refine (light7_any (ns_one (B1.out.nm HK.out))).mono ?_
  rintro e w2 ⟨⟨q1, rfl, hq⟩, rfl⟩
  cases q1 with
  | false =>
    clear hq
    go_wp2_with fail
    go_ret
    exact ⟨rfl, B2.out⟩
  | true =>
  have LK := Lib.hid (show Li nk K from hq.1 rfl 0 (by decide))
  clear hq
  go_wp2_with fail
  refine (pairs7_any (B2.out.ch HL.out) H72.out).mono ?_
  rintro e w3 ⟨A3, c3, S3, rfl, h1, h2, h3⟩
  have B3 := Lib.hid (B2.out.trans h3)
  have N3 := Lib.hid h1
  have P3 := Lib.hid h2
  clear h1 h2
  have GR3 := Lib.hid (B7.gr h3 (B7.gr (B7.alloc w1 (.cells #[.slice Ak nk ck] 23)) GR.out))
  have RG3 := Lib.hid ((RG.out.below (B7.alloc w1 (.cells #[.slice Ak nk ck] 23))).below h3)
  clear h3 GR RG B1 B2
  go_wp2_with fail
  refine (light7_any N3.out).mono ?_
  rintro e w4 ⟨⟨q1, rfl, hq⟩, rfl⟩
  cases q1 with
  | false =>
    clear hq
    go_wp2_with fail
    go_ret
    exact ⟨rfl, B3.out⟩
  | true =>
  have LL := Lib.hid ((pairs_lis P3.out).1 (hq.1 rfl))
  clear hq N3 P3
  obtain ⟨C1, hC1⟩ : ∃ C, sealC d.P d.Q K M nm R nr = C := ⟨_, rfl⟩
  obtain ⟨C2, hC2⟩ : ∃ C, anewC d.P d.Q K S nl R nr = C := ⟨_, rfl⟩
  have R1 := Lib.hid (show C1 ≠ 0 → 1 ≤ C1 ∧ C1 ≤ 15 by rw [← hC1]; exact fitC_rng)
  have R2 := Lib.hid (show C2 ≠ 0 → 1 ≤ C2 ∧ C2 ≤ 15 by rw [← hC2]; exact fitC_rng)
  have HC1 := Lib.hid hC1
  have HC2 := Lib.hid hC2
  clear hC1 hC2
  go_wp2_with fail
  refine ((pm_seal GR3.out (B3.out.nm HK.out) (B3.out.ns HM.out) (B3.out.ns HR.out)).mono fun e w' g => (LetP.v (HC1.out ▸ g) R1.out)).mono ?_
  rintro e w5 ⟨A5, c5, S5, E5, rfl, h1, h2, h3, h4, h5⟩
  obtain ⟨n5, hn5⟩ : ∃ n5, lenV C1 nm = n5 := ⟨_, rfl⟩
  rw [hn5] at h2 h3 h4 ⊢
  have N5 := Lib.hid hn5
  have E5' := Lib.hid h1
  have H5 := Lib.hid h2
  have K5 := Lib.hid h3
  have T5 := Lib.hid h4
  have B5 := Lib.hid (B3.out.trans h5)
  have GR5 := Lib.hid (B7.gr h5 GR3.out)
  have RG5 := Lib.hid (RG3.out.below h5)
  clear h1 h2 h3 h4 h5 hn5 GR3 RG3 B3
  go_wp2_with fail
  refine ((pm_anew GR5.out (B5.out.nm HK.out) (B5.out.ch HL.out) (B5.out.ns HR.out)).mono fun e w' g => (LetP.v (HC2.out ▸ g) R2.out)).mono ?_
  rintro e w6 ⟨A6, c6, S6, E6, rfl, h1, h2, h3, h4, h5⟩
  obtain ⟨n6, hn6⟩ : ∃ n6, lenV C2 nl = n6 := ⟨_, rfl⟩
  rw [hn6] at h2 h3 h4 ⊢
  have N6 := Lib.hid hn6
  have E6' := Lib.hid h1
  have H6 := Lib.hid h2
  have K6 := Lib.hid h3
  have T6 := Lib.hid h4
  have B6 := Lib.hid (B5.out.trans h5)
  have H56 := Lib.hid (B7.ch h5 H5.out)
  have RG6 := Lib.hid (RG5.out.below h5)
  clear h1 h2 h3 h4 h5 hn6 GR5 RG5 B5 H5
  go_wp2_with fail
  have con7 := rseal7_any RG6.out (B6.out.nm HK.out) LK.out (B6.out.ns HM.out) LM.out (B6.out.ns HR.out) LR.out
  rw [EP.out, EQ.out, EG.out, HC1.out] at con7
  refine (con7.mono fun e w' g => g.v).mono ?_
  clear con7
  rintro e w7 ⟨A7, c7, S7, rfl, h2, h3, h4, h5⟩
  rw [N5.out] at h2 h3 h4 ⊢
  have H7 := Lib.hid h2
  have K7 := Lib.hid h3
  have T7 := Lib.hid h4
  have B7' := Lib.hid (B6.out.trans h5)
  have H57 := Lib.hid (B7.ch h5 H56.out)
  have H67 := Lib.hid (B7.ch h5 H6.out)
  have RG7 := Lib.hid (RG6.out.below h5)
  clear h2 h3 h4 h5 RG6 B6 H56 H6
  go_wp2_with fail
  have con8 := ranew7_any RG7.out (B7'.out.nm HK.out) LK.out (B7'.out.ch HL.out) LL.out (B7'.out.ns HR.out) LR.out
  rw [EP.out, EQ.out, EG.out, HC2.out] at con8
  refine (con8.mono fun e w' g => g.v).mono ?_
  clear con8
  rintro e w8 ⟨A8, c8, S8, rfl, h2, h3, h4, h5⟩
  rw [N6.out] at h2 h3 h4 ⊢
  have H8 := Lib.hid h2
  have K8 := Lib.hid h3
  have T8 := Lib.hid h4
  have B8 := Lib.hid (B7'.out.trans h5)
  have H58 := Lib.hid (B7.ch h5 H57.out)
  have H68 := Lib.hid (B7.ch h5 H67.out)
  have H78 := Lib.hid (B7.ch h5 H7.out)
  clear h2 h3 h4 h5 RG7 B7' H57 H67 H7
  go_wp2_with fail
  refine (same7_yes H58.out H78.out K5.out K7.out (fun i hi => (T5.out i hi).trans (T7.out i hi).symm)).mono ?_
  rintro e w9 ⟨rfl, q9, rfl⟩
  have b9 : B7 w8 (w8.drewN q9) := B7.drewN _ _
  have H69 := Lib.hid (b9.ch H68.out)
  have H89 := Lib.hid (b9.ch H8.out)
  clear b9
  go_wp2_with fail
  refine (same7_yes H69.out H89.out K6.out K8.out (fun i hi => (T6.out i hi).trans (T8.out i hi).symm)).mono ?_
  rintro e w10 ⟨rfl, q10, rfl⟩
  go_wp2_with fail
  refine (code_e E5'.out _).mono ?_
  rintro e w11 ⟨rfl, rfl⟩
  have t1 : ((C1 : Int) == C1) = true := by simp
  go_wp2_with fail
  refine (code_e E6'.out _).mono ?_
  rintro e w11 ⟨rfl, rfl⟩
  have t2 : ((C2 : Int) == C2) = true := by simp
  go_wp2_with fail
  go_ret
  first
  | exact ⟨rfl, B8.out.trans (B7.drewN _ _)⟩
  | exact ⟨by simp, B8.out.trans (B7.drewN _ _)⟩
end Go.Proofs.YtpmnghealjgkeaaGreat
