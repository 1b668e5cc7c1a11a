/-
  ShareChecks answers true: Public and Check answer what the document says.
-/
import Derived.Test.YtkecfdeepmhggaaGreatPnc
import Derived.Test.YtkecfdeepmhggaaGreatK9
import Derived.Test.YtkecfdeepmhggaaGreatL9z
import Derived.Test.YtkecfdeepmhggaaGreatRfn
namespace Go.Proofs.YtkecfdeepmhggaaGreat
open Go.RowKit
set_option linter.unusedVariables false
set_option maxRecDepth 100000 in
theorem gp_eq9 (b : Nat) : ∀ w : World, (binOp .eql 24 (.pointer (some ⟨b, 0, none⟩)) (.pointer none)).run Tryz.prog w = .ok (.bool false) w := fun _ => rfl
/-- A list of one number. -/
theorem ns_one9 {w W1 : World} {A : Option Addr} {n c : Nat} {N : Int} (h : Nm w A n c N) (h1 : w.alloc (.cells #[.slice A n c] 39) = W1) : Ns W1 (some ⟨w.heap.size, 0, none⟩) 1 1 (fun _ => ⟨A, n, c, N⟩) :=
  ⟨Nat.le_refl _, by omega, fun _ => ⟨w.heap.size, 0, rfl, by rw [← h1]; simp, fun i hi => by
    obtain rfl : i = 0 := by omega
    rw [← h1]; simp [World.cell?_alloc_at]⟩, fun i hi => h.below (h1 ▸ below_al w _)⟩
set_option maxHeartbeats 16000000 in
set_option maxRecDepth 100000 in
theorem shareChecks_walk {w : World} (x : Int) (hx : -9223372036854775808 ≤ x ∧ x ≤ 9223372036854775807) {A : Option Addr} {n c : Nat} {S : Nat → Nsl} {s : Shr} (hl : Ns w A n c S) (hs : s.At w) :
    Calls Tryz.prog 4 #[.int .i64 x, .slice A n c, .agg #[.int .i64 s.I, .slice s.A s.n s.c]] w (AnsV (.bool true) w) := by
  have HX := Lib.hid hx
  obtain ⟨I, As, ns, cs, V⟩ := s
  have HIr := Lib.hid hs.1
  have hV : Nm w As ns cs V := hs.2
  simp only
  have bl := below_al w (.cells #[.int .i64 I, .slice As ns cs] 41)
  obtain ⟨s0, s1⟩ := sh_box w (.int .i64 I) (.slice As ns cs)
  have LTB := Lib.hid (show w.heap.size < (w.alloc (.cells #[.int .i64 I, .slice As ns cs] 41)).heap.size by simp)
  obtain ⟨W1, hW1⟩ : ∃ W1, w.alloc (.cells #[.int .i64 I, .slice As ns cs] 41) = W1 := ⟨_, rfl⟩
  rw [hW1] at bl s0 s1 LTB
  have B1 := Lib.hid bl
  have HL := Lib.hid (hl.below bl)
  have HV := Lib.hid (hV.below bl)
  have C0 := Lib.hid s0
  have C1 := Lib.hid s1
  clear hx hl hs hV bl s0 s1
  go_enter Tryz.func4, Tryz.ntmps4
  go_wp2_with fail
  refine (up9_any _).mono ?_
  rintro e w2 ⟨rfl, b2⟩
  clear hW1
  have B2 := Lib.hid b2
  clear b2
  go_wp2_with fail
  refine (known9_any x HX.out w2).mono ?_
  rintro e w3 ⟨b, d, b', r, rfl, gr, rg, eP, eQ, eG, b3⟩
  have B3 := Lib.hid (B2.out.trans (b3.mono B2.out.size))
  have GR := Lib.hid gr
  have RG := Lib.hid rg
  have EP := Lib.hid (And.intro eP (And.intro eQ eG))
  have HL3 := Lib.hid (HL.out.below B3.out)
  have HV3 := Lib.hid (HV.out.below B3.out)
  have c1 := (B3.out.cell (p := ⟨w.heap.size, 1, none⟩) LTB.out).trans C1.out
  have c0 := (B3.out.cell (p := ⟨w.heap.size, 0, none⟩) LTB.out).trans C0.out
  have q1 := gp_eq9 b
  clear b3 gr rg eP eQ eG
  go_wp2_with fail
  refine (light9_any HL3.out).mono ?_
  rintro e w4 ⟨⟨l1, rfl, hl1⟩, rfl⟩
  have HL1 := Lib.hid hl1
  clear hl1
  cases l1 with
  | false =>
    go_wp2_with fail
    go_ret
    exact ⟨rfl, B1.out.trans (B3.out.mono B1.out.size)⟩
  | true =>
  obtain ⟨W4, hW4⟩ : ∃ W, w3.alloc (.cells #[.slice As ns cs] 39) = W := ⟨_, rfl⟩
  have O4 := Lib.hid (ns_one9 HV3.out hW4)
  have B4 := Lib.hid (show Below w3.heap.size w3 W4 from hW4 ▸ below_al w3 _)
  go_wp2_with fail
  clear hW4
  refine (light9_any O4.out).mono ?_
  rintro e w5 ⟨⟨l2, rfl, hl2⟩, rfl⟩
  have HL2 := Lib.hid hl2
  clear hl2
  cases l2 with
  | false =>
    go_wp2_with fail
    go_ret
    exact ⟨rfl, (B1.out.trans (B3.out.mono B1.out.size)).trans (B4.out.mono (B1.out.trans (B3.out.mono B1.out.size)).size)⟩
  | true =>
  have LS := Lib.hid (HL1.out.1 (by trivial))
  have LV := Lib.hid (show Li ns V from (HL2.out.1 (by trivial)).2.2 0 (by omega))
  have c0' := (B4.out.cell (p := ⟨w.heap.size, 0, none⟩) (Nat.lt_of_lt_of_le LTB.out B3.out.size)).trans c0
  have c1' := (B4.out.cell (p := ⟨w.heap.size, 1, none⟩) (Nat.lt_of_lt_of_le LTB.out B3.out.size)).trans c1
  have CC := Lib.hid (And.intro c0' c1')
  have BB := Lib.hid (show Below w.heap.size w W4 from (B1.out.trans (B3.out.mono B1.out.size)).trans (B4.out.mono (B1.out.trans (B3.out.mono B1.out.size)).size))
  have LT4 := Lib.hid (Nat.lt_of_lt_of_le (Nat.lt_of_lt_of_le LTB.out B3.out.size) B4.out.size)
  clear HL1 HL2 O4 c0 c1
  obtain ⟨Cp, hCp⟩ : ∃ C, pubC d.P d.Q (fun i => (S i).N) n I = C := ⟨_, rfl⟩
  obtain ⟨Cc, hCc⟩ : ∃ C, chC d.P d.Q d.G (fun i => (S i).N) n I V = C := ⟨_, rfl⟩
  have RP := Lib.hid (show Cp = 0 ∨ (1 ≤ Cp ∧ Cp ≤ 15) from hCp ▸ pubC_rng)
  have RC := Lib.hid (show Cc = 0 ∨ (1 ≤ Cc ∧ Cc ≤ 15) from hCc ▸ chC_rng)
  have HCP := Lib.hid hCp
  have HCC := Lib.hid hCc
  clear hCp hCc
  go_wp2_with fail
  refine (ppublic_any (GR.out.below B4.out) (HL3.out.below B4.out) I).mono ?_
  rintro e w6 h6
  have h6v := PublP.v h6
  rw [HCP.out] at h6v
  obtain ⟨D6, m6, k6, rfl, h6a, h6b, b6⟩ := h6v
  have B6 := Lib.hid (B4.out.trans (b6.mono B4.out.size))
  have A6 := Lib.hid (And.intro h6a h6b)
  have d0 := (b6.cell (p := ⟨w.heap.size, 0, none⟩) LT4.out).trans CC.out.1
  have d1 := (b6.cell (p := ⟨w.heap.size, 1, none⟩) LT4.out).trans CC.out.2
  have LT6 := Lib.hid (Nat.lt_of_lt_of_le LT4.out b6.size)
  have B46 := Lib.hid b6
  clear h6 h6a h6b b6 c0' c1'
  go_wp2_with fail
  have k7 := pcheck_any (s := ⟨I, As, ns, cs, V⟩) (GR.out.below B6.out) (HL3.out.below B6.out) ⟨HIr.out, HV3.out.below B6.out⟩
  simp only at k7
  rw [HCC.out] at k7
  refine k7.mono ?_
  rintro e w7 ⟨rfl, b7⟩
  have B7 := Lib.hid (B6.out.trans (b7.mono B6.out.size))
  have e0 := (b7.cell (p := ⟨w.heap.size, 0, none⟩) LT6.out).trans d0
  have e1 := (b7.cell (p := ⟨w.heap.size, 1, none⟩) LT6.out).trans d1
  have LT7 := Lib.hid (Nat.lt_of_lt_of_le LT6.out b7.size)
  have B67 := Lib.hid b7
  clear b7 d0 d1 k7
  go_wp2_with fail
  have k8 := rpublic_any (RG.out.below B7.out) (HL3.out.below B7.out) (fun _ => LS.out.2.2) I
  rw [EP.out.1, EP.out.2.1, HCP.out] at k8
  refine k8.mono ?_
  rintro e w8 ⟨D8, m8, k8', rfl, h8, b8⟩
  have B8' := Lib.hid (B7.out.trans (b8.mono B7.out.size))
  have H8 := Lib.hid h8
  have f0 := (b8.cell (p := ⟨w.heap.size, 0, none⟩) LT7.out).trans e0
  have f1 := (b8.cell (p := ⟨w.heap.size, 1, none⟩) LT7.out).trans e1
  have B68 := Lib.hid (B67.out.trans (b8.mono B67.out.size))
  clear b8 h8 e0 e1 k8
  go_wp2_with fail
  have k9 := rcheck_any (s := ⟨I, As, ns, cs, V⟩) (RG.out.below B8'.out) (HL3.out.below B8'.out) (fun _ => LS.out.2.2) ⟨HIr.out, HV3.out.below B8'.out⟩ LV.out
  simp only at k9
  rw [EP.out.1, EP.out.2.1, EP.out.2.2, HCC.out] at k9
  refine k9.mono ?_
  rintro e w9 ⟨rfl, b9⟩
  have B9 := Lib.hid (B8'.out.trans (b9.mono B8'.out.size))
  have H9 := Lib.hid (H8.out.below b9)
  have B69 := Lib.hid (B68.out.trans (b9.mono B68.out.size))
  have BF := Lib.hid ((B1.out.trans (B3.out.mono B1.out.size)).trans (B9.out.mono (B1.out.trans (B3.out.mono B1.out.size)).size))
  clear b9 f0 f1 H8 k9
  have ec := fun W => code9_any RC.out W
  by_cases g : Cp = 0
  · subst g
    have h9 := H9.out
    rw [if_pos rfl] at h9
    have T9 := Lib.hid h9
    have LL := Lib.hid (show m8 ≤ 100000 by
      have h1 := h9.len_
      have h2 := RG.out.p3 (w' := w9) h9 (by rw [EP.out.1]; exact pubI_le GR.out.safe.p2 _ n)
      omega)
    have C6 := Lib.hid (A6.out.1 rfl)
    have EC := Lib.hid ec
    clear h9 ec
    go_wp2_with fail
    refine (to_new9 T9.out LL.out).mono ?_
    rintro e wT ⟨DT, mT, kT, rfl, hT, -, bT⟩
    have HT := Lib.hid hT
    have BT := Lib.hid (BF.out.trans (bT.mono BF.out.size))
    have C6T := Lib.hid (C6.out.below (B69.out.trans (bT.mono B69.out.size)))
    clear hT bT
    go_wp2_with fail
    refine (same9 C6T.out HT.out rfl).mono ?_
    rintro e wS ⟨rfl, q, rfl⟩
    have BS := Lib.hid (below_drewN BT.out q)
    go_wp2_with fail
    refine (code9_any (c := 0) (.inl rfl) _).mono ?_
    rintro e wX ⟨rfl, rfl⟩
    go_wp2_with fail
    refine (EC.out _).mono ?_
    rintro e wX ⟨rfl, rfl⟩
    go_wp2_with fail
    go_ret
    exact ⟨by simp, BS.out⟩
  · obtain ⟨rfl, rfl, rfl⟩ := A6.out.2 g
    have e3 : (Cp == 0) = false := by simp [g]
    have e4 : decide (Cp = 0) = false := by simp [g]
    have EC := Lib.hid ec
    have EP2 := Lib.hid (fun W => code9_any RP.out W)
    clear ec g
    go_wp2_with fail
    refine (EP2.out _).mono ?_
    rintro e wX ⟨rfl, rfl⟩
    go_wp2_with fail
    refine (EC.out _).mono ?_
    rintro e wX ⟨rfl, rfl⟩
    go_wp2_with fail
    go_ret
    exact ⟨by simp, BF.out⟩
end Go.Proofs.YtkecfdeepmhggaaGreat
