/-
  Several texts in one: P9c, P9d, P9k, H9, U9, A9.
-/
import Derived.Test.YtkecfdeepmhggaaPnb
import Derived.Test.YtkecfdeepmhggaaRfo
import Derived.Test.YtkecfdeepmhggaaSg0
import Derived.Test.YtkecfdeepmhggaaRfn
import Derived.Test.YtkecfdeepmhggaaPna
import Derived.Test.YtkecfdeepmhggaaMn
import Derived.Test.YtkecfdeepmhggaaPkf
import Derived.Test.YtkecfdeepmhggaaMxx
import Derived.Test.YtkecfdeepmhggaaKnx
import Derived.Test.YtkecfdeepmhggaaOwk
/-
  Layer 9, the program: Public and Check.
-/
namespace Go.Proofs.Ytkecfdeepmhggaa
open Go.RowKit
set_option linter.unusedVariables false
theorem pubC_ok {P Q y : Int} {N : Nat → Int} {n : Nat} (h : 1 ≤ n ∧ n ≤ 32 ∧ PlI y) (hx : ∀ t, t < n → El P Q (N t)) : pubC P Q N n y = 0 := by unfold pubC; rw [if_pos h, if_pos hx]
theorem pubC_el {P Q y : Int} {N : Nat → Int} {n : Nat} (h : 1 ≤ n ∧ n ≤ 32 ∧ PlI y) (hx : ¬ ∀ t, t < n → El P Q (N t)) : pubC P Q N n y = 8 := by unfold pubC; rw [if_pos h, if_neg hx]
theorem pubC_arg {P Q y : Int} {N : Nat → Int} {n : Nat} (h : ¬ (1 ≤ n ∧ n ≤ 32 ∧ PlI y)) : pubC P Q N n y = 1 := by unfold pubC; rw [if_neg h]
theorem chC_arg {P Q G I V : Int} {N : Nat → Int} {n : Nat} (h : ¬ (1 ≤ n ∧ n ≤ 32 ∧ PlI I)) : chC P Q G N n I V = 1 := by unfold chC; rw [if_neg h]
theorem chC_long {P Q G I V : Int} {N : Nat → Int} {n : Nat} (h : 1 ≤ n ∧ n ≤ 32 ∧ PlI I) (hl : 64 < dl V) : chC P Q G N n I V = 2 := by unfold chC; rw [if_pos h, if_pos hl]
theorem chC_el {P Q G I V : Int} {N : Nat → Int} {n : Nat} (h : 1 ≤ n ∧ n ≤ 32 ∧ PlI I) (hl : ¬ 64 < dl V) (hx : ¬ ∀ t, t < n → El P Q (N t)) : chC P Q G N n I V = 8 := by unfold chC; rw [if_pos h, if_neg hl, if_neg hx]
theorem chC_ok {P Q G I V : Int} {N : Nat → Int} {n : Nat} (h : 1 ≤ n ∧ n ≤ 32 ∧ PlI I) (hl : ¬ 64 < dl V) (hx : ∀ t, t < n → El P Q (N t)) (e : gx P Q G V = pubI P Q N I n) : chC P Q G N n I V = 0 := by unfold chC; rw [if_pos h, if_neg hl, if_pos hx, if_pos e]
theorem chC_no {P Q G I V : Int} {N : Nat → Int} {n : Nat} (h : 1 ≤ n ∧ n ≤ 32 ∧ PlI I) (hl : ¬ 64 < dl V) (hx : ∀ t, t < n → El P Q (N t)) (e : ¬ gx P Q G V = pubI P Q N I n) : chC P Q G N n I V = 7 := by unfold chC; rw [if_pos h, if_neg hl, if_pos hx, if_neg e]
/-- What Public answers. -/
def PublP (P Q : Int) (N : Nat → Int) (n : Nat) (y : Int) (w : World) (e : Ending) (w' : World) : Prop :=
  (pubC P Q N n y = 0 ∧ Ans (pubI P Q N y n) w e w') ∨ (pubC P Q N n y ≠ 0 ∧ Err1 (pubC P Q N n y) w e w')
section
variable {w : World} {b : Nat} {d : Gd} {A : Option Addr} {n c : Nat} {S : Nat → Nsl}
/-- An error, or none. -/
def erv9 (c : Int) : Value := if c = 0 then .nilIface else .iface 51 (.int .i64 c)
theorem erv9_no {c : Int} (h : c = 0) : erv9 c = .nilIface := if_pos h
theorem erv9_yes {c : Int} (h : c ≠ 0) : erv9 c = .iface 51 (.int .i64 c) := if_neg h
set_option maxHeartbeats 4000000 in
theorem pcheck_any (h : Gr w b d) (hl : Ns w A n c S) {s : Shr} (hs : s.At w) :
    Calls Try.prog 12 #[.pointer (some ⟨b, 0, none⟩), .slice A n c, .agg #[.int .i64 s.I, .slice s.A s.n s.c]] w (fun e w' => e = .returned (erv9 (chC d.P d.Q d.G (fun i => (S i).N) n s.I s.N)) ∧ Below w.heap.size w w') := by
  obtain ⟨I, As, ns, cs, V⟩ := s
  have hV : Nm w As ns cs V := hs.2
  simp only
  have HG := Lib.hid h
  have HL := Lib.hid hl
  have HV := Lib.hid hV
  have he0 := neq0_9
  have he1 := neq1_9
  obtain ⟨C, hC⟩ : ∃ C, chC d.P d.Q d.G (fun i => (S i).N) n I V = C := ⟨_, rfl⟩
  rw [hC]
  have HC := Lib.hid hC
  clear h hl hs hV hC
  have bl := below_al w (.cells #[.int .i64 I, .slice As ns cs] 42)
  obtain ⟨s0, s1⟩ := sh_box w (.int .i64 I) (.slice As ns cs)
  have LTB := Lib.hid (show w.heap.size < (w.alloc (.cells #[.int .i64 I, .slice As ns cs] 42)).heap.size by simp)
  obtain ⟨W1, hW1⟩ : ∃ W1, w.alloc (.cells #[.int .i64 I, .slice As ns cs] 42) = W1 := ⟨_, rfl⟩
  rw [hW1] at bl s0 s1 LTB
  have B1 := Lib.hid bl
  clear bl
  go_enter Try.func12, Try.ntmps12
  go_wp2_with fail
  refine (ppoly_any b n _).mono ?_
  rintro e w1 ⟨rfl, rfl⟩
  clear hW1
  by_cases g1 : 1 ≤ (n : Int) ∧ (n : Int) ≤ 32
  · have d1 : decide (1 ≤ (n : Int) ∧ (n : Int) ≤ 32) = true := decide_eq_true g1
    rw [d1]
    go_wp2_with fail
    refine (pindex_any I W1).mono ?_
    rintro e w1 ⟨rfl, rfl⟩
    by_cases g2 : PlI I
    · have d2 : decide (PlI I) = true := decide_eq_true g2
      rw [d2]
      have n1 : 1 ≤ n := by omega
      have n32 : n ≤ 32 := by omega
      have FIT := Lib.hid (show 1 ≤ n ∧ n ≤ 32 ∧ PlI I from ⟨n1, n32, g2⟩)
      have Y := Lib.hid g2
      clear g1 g2 d1 d2
      rcases Nat.lt_or_ge 64 (dl V) with g | g
      · have EX := Lib.hid (HC.out.symm.trans (chC_long FIT.out g))
        have HCON := Lib.hid (gbase_long (HG.out.below B1.out) (HV.out.below B1.out) g)
        clear g
        go_wp2_with fail
        refine HCON.out.mono ?_
        rintro e w2 ⟨rfl, b2⟩
        have B2 := Lib.hid (B1.out.trans (b2.mono B1.out.size))
        clear b2
        go_wp2_with fail
        go_ret
        exact ⟨by rw [EX.out]; rfl, B2.out⟩
      · have NL := Lib.hid (show ¬ 64 < dl V by omega)
        have HCON := Lib.hid (gbase_any (HG.out.below B1.out) (HV.out.below B1.out) g)
        clear g
        go_wp2_with fail
        refine HCON.out.mono ?_
        rintro e w2 ⟨D2, m2, c2, rfl, h2, b2, -⟩
        have B2 := Lib.hid (B1.out.trans (b2.mono B1.out.size))
        have H2 := Lib.hid h2
        have t0 := (b2.cell (p := ⟨w.heap.size, 0, none⟩) LTB.out).trans s0
        clear b2 h2 s0 s1 HCON
        go_wp2_with fail
        refine (ppub_any (HG.out.below B2.out) (HL.out.below B2.out) n1 n32 I (by have := Y.out.1; omega) Y.out.2).mono ?_
        rintro e w3 (⟨hx, D, m, cap, rfl, h3, b3, -⟩ | ⟨⟨i, hi, hne⟩, rfl, b3⟩)
        · have HX := Lib.hid hx
          have H3 := Lib.hid h3
          have B3 := Lib.hid (B2.out.trans (b3.mono B2.out.size))
          have H23 := Lib.hid (H2.out.below b3)
          clear h3 b3 hx
          go_wp2_with fail
          refine (eqs_any H23.out.rd H3.out.rd H23.out.c60 H3.out.c60).mono ?_
          rintro e w4 ⟨⟨q, rfl, hq⟩, k, rfl⟩
          have eg := gx_pow8 HG.out.safe.p2 HG.out.safe.q1 HG.out.el HV.out.pos
          have hq2 : q = true ↔ gx d.P d.Q d.G V = pubI d.P d.Q (fun i => (S i).N) I n := by
            rw [hq, ← eg]
            exact ⟨fun g => dg_inj H23.out.pos H3.out.pos g, fun g => by rw [g]⟩
          have HQ := Lib.hid hq2
          clear hq hq2 eg
          cases q with
          | true =>
            have EX := Lib.hid (HC.out.symm.trans (chC_ok FIT.out NL.out HX.out (HQ.out.1 rfl)))
            go_wp2_with fail
            go_ret
            exact ⟨by rw [EX.out]; rfl, below_drewN B3.out _⟩
          | false =>
            have EX := Lib.hid (HC.out.symm.trans (chC_no FIT.out NL.out HX.out (fun g => by have := HQ.out.2 g; cases this)))
            go_wp2_with fail
            go_ret
            exact ⟨by rw [EX.out]; rfl, below_drewN B3.out _⟩
        · have EX := Lib.hid (HC.out.symm.trans (chC_el FIT.out NL.out (fun k => hne (k i hi))))
          have B3 := Lib.hid (B2.out.trans (b3.mono B2.out.size))
          clear b3 hne hi
          go_wp2_with fail
          go_ret
          exact ⟨by rw [EX.out]; rfl, B3.out⟩
    · have d2 : decide (PlI I) = false := decide_eq_false g2
      rw [d2]
      have EX := Lib.hid (HC.out.symm.trans (chC_arg (fun k => g2 k.2.2)))
      clear d2 g2
      go_wp2_with fail
      go_ret
      exact ⟨by rw [EX.out]; rfl, B1.out⟩
  · have d1 : decide (1 ≤ (n : Int) ∧ (n : Int) ≤ 32) = false := decide_eq_false g1
    rw [d1]
    have EX := Lib.hid (HC.out.symm.trans (chC_arg (fun k => g1 (by have := k.1; have := k.2.1; omega))))
    clear d1 g1
    go_wp2_with fail
    go_ret
    exact ⟨by rw [EX.out]; rfl, B1.out⟩
end
end Go.Proofs.Ytkecfdeepmhggaa
/-
  Layer 9, the program: Deal.
-/
namespace Go.Proofs.Ytkecfdeepmhggaa
open Go.RowKit
set_option linter.unusedVariables false
/-- Shares in new memory: newer than base. -/
structure ShB (w : World) (base : Nat) (A : Option Addr) (n c : Nat) (T : Nat → Shr) : Prop where
  sh : Shs w A n c T
  top : ∀ a, A = some a → base ≤ a.block
  els : ∀ i, i < n → ∀ a, (T i).A = some a → base ≤ a.block
theorem ShB.below {w w' : World} {base : Nat} {A : Option Addr} {n c : Nat} {T : Nat → Shr} (h : ShB w base A n c T) (hb : Below w.heap.size w w') : ShB w' base A n c T := ⟨h.sh.below hb, h.top, h.els⟩
/-- What Deal answers. -/
def DealP (P Q G : Int) (S : Nat → Nsl) (n : Nat) (m : Int) (w : World) (e : Ending) (w' : World) : Prop :=
  (dlC S n m ≠ 0 ∧ e = .returned (.tuple #[.slice none 0 0, .slice none 0 0, .iface 51 (.int .i64 (dlC S n m))]) ∧ Below w.heap.size w w') ∨
  (dlC S n m = 0 ∧ ∃ (q : Nat) (As : Option Addr) (cs : Nat) (T : Nat → Shr) (Ac : Option Addr) (cc : Nat) (U : Nat → Nsl), m = q ∧ e = .returned (.tuple #[.slice As q cs, .slice Ac n cc, .nilIface]) ∧ ShB w' w.heap.size As q cs T ∧ ShF Q S n T q ∧ NsB w' w.heap.size Ac n cc U ∧ ComF P Q G S U n ∧ Below w.heap.size w w')
theorem infoS9p : (Try.prog.info? 42).map (fun i => (i.zero, i.size, i.bytes)) = some (some (.agg #[.int .i64 0, .slice none 0 0]), 2, 32) := by kernel_rfl
theorem run_makeS9 (n : Nat) {C : Int} (hC : C = n) (hn : n ≤ 1000000) (w : World) : (Instr.makeSlice 37 (.int .i64 C) (.int .i64 C)).run Try.prog w =
    .ok (.slice (some ⟨w.heap.size, 0, none⟩) n n) (w.alloc (.cells (madeCells #[.int .i64 0, .slice none 0 0] (n * 2)) 42)) := by
  subst hC
  obtain ⟨i0, hi, hz0, hz1, hz2⟩ := info_parts infoS9p
  have hr := run_make (P := Try.prog) w 37 42 i0 (.agg #[.int .i64 0, .slice none 0 0]) Try.underlying37 hi hz0 .i64 .i64 n n (by omega) (by omega) (by rw [hz2]; omega) (by omega)
  rw [hz1] at hr
  simpa [Value.cells] using hr
theorem mid_row2 {w : World} {g o : Nat} {cur : Array Value} {t : TypeId} {x y : Value} (hg : w.heap[g]? = some (.cells cur t (0, 0))) :
    ((w.setCell ⟨g, o, none⟩ x).setCell ⟨g, o + 1, none⟩ y).heap[g]? = some (.cells ((cur.setIfInBounds o x).setIfInBounds (o + 1) y) t (0, 0)) :=
  heap_setCell_same _ g (o + 1) _ _ y (heap_setCell_same w g o _ _ x hg)
theorem mid_bo2 (w : World) (g o : Nat) (x y : Value) : Bo g w ((w.setCell ⟨g, o, none⟩ x).setCell ⟨g, o + 1, none⟩ y) := (Bo.set g o w x).trans (Bo.set g _ _ y)
theorem cell_in9 {w : World} {g o : Nat} {cur : Array Value} {t : TypeId} (hg : w.heap[g]? = some (.cells cur t (0, 0))) (ho : o < cur.size) : ∃ v, w.cell? ⟨g, o, none⟩ = some v := ⟨cur[o], by rw [cell_of_row w g _ cur t _ hg, Array.getElem?_eq_getElem ho]⟩
/-- The loop that makes the shares. -/
def DpR (Q : Int) (S : Nat → Nsl) (n m : Nat) (w : World) (i : Value) (wr : World) : Prop :=
  ∃ (j : Nat) (cur : Array Value) (T : Nat → Shr), j ≤ m ∧ i = .int .i64 j ∧ wr.heap[w.heap.size]? = some (.cells cur 42 (0, 0)) ∧ cur.size = m * 2 ∧
    (∀ p, p < j → (cur[p * 2]? = some (.int .i64 (T p).I) ∧ cur[p * 2 + 1]? = some (.slice (T p).A (T p).n (T p).c)) ∧ Cn wr (T p).A (T p).n (T p).c (T p).N ∧ ∀ a, (T p).A = some a → w.heap.size < a.block) ∧ ShF Q S n T j ∧ Below w.heap.size w wr
set_option maxHeartbeats 4000000 in
set_option maxRecDepth 100000 in
theorem pdeal_any {w : World} {b : Nat} {d : Gd} {A : Option Addr} {n c : Nat} {S : Nat → Nsl} (h : Gr w b d) (hl : Ns w A n c S) (m : Int) :
    Calls Try.prog 11 #[.pointer (some ⟨b, 0, none⟩), .slice A n c, .int .i64 m] w (DealP d.P d.Q d.G S n m w) := by
  have HG := Lib.hid h
  have HL := Lib.hid hl
  have he0 := neq0_9
  have he1 := neq1_9 2
  clear h hl
  go_enter Try.func11, Try.ntmps11
  go_wp2_with fail
  refine (ppoly_any b n w).mono ?_
  rintro e w1 ⟨rfl, rfl⟩
  by_cases g1 : 1 ≤ (n : Int) ∧ (n : Int) ≤ 32
  · have d1 : decide (1 ≤ (n : Int) ∧ (n : Int) ≤ 32) = true := decide_eq_true g1
    rw [d1]
    go_wp2_with fail
    refine (pindex_any m w).mono ?_
    rintro e w1 ⟨rfl, rfl⟩
    by_cases g2 : PlI m
    · have d2 : decide (PlI m) = true := decide_eq_true g2
      rw [d2]
      have n1 : 1 ≤ n := by omega
      have n32 : n ≤ 32 := by omega
      obtain ⟨q, rfl⟩ : ∃ q : Nat, m = q := ⟨m.toNat, by have := g2.1; omega⟩
      have q255 : q ≤ 255 := by have := g2.2; omega
      have EC := Lib.hid (show dlC S n q = if ∃ i, i < n ∧ 64 < dl (S i).N then 2 else 0 from if_pos ⟨n1, n32, g2⟩)
      clear g1 g2 d1 d2
      go_wp2_with fail
      refine (pcom_any HG.out HL.out n32).mono ?_
      rintro e w1 (⟨hx, rfl, b1⟩ | ⟨hx, Ac, cc, U, rfl, hU, hF, b1⟩)
      · have ec : dlC S n q = 2 := by rw [EC.out, if_pos hx]
        have B1 := Lib.hid b1
        have EX := Lib.hid ec
        clear hx b1 ec
        go_wp2_with fail
        refine bodyPost_ret (v := .tuple #[.slice none 0 0, .slice none 0 0, .iface 51 (.int .i64 2)]) (by simp [results, Try.results11, go_sem]) rfl ?_
        exact .inl ⟨by rw [EX.out]; decide, by rw [EX.out], B1.out⟩
      · have ec : dlC S n q = 0 := by rw [EC.out, if_neg (fun ⟨i, hi, g⟩ => by have := hx i hi; omega)]
        have EX := Lib.hid ec
        have HX := Lib.hid hx
        have HU := Lib.hid hU
        have HF := Lib.hid hF
        have B1 := Lib.hid b1
        have hmk := fun W => run_makeS9 q (C := (q : Int)) rfl (by omega) W
        obtain ⟨Z, hZ⟩ : ∃ Z : Array Value, Z = madeCells #[.int .i64 0, .slice none 0 0] (q * 2) := ⟨_, rfl⟩
        rw [← hZ] at hmk
        have HZ := Lib.hid (show Z.size = q * 2 by rw [hZ]; exact size_madeCells _ _)
        clear hx b1 ec hU hF hZ EC
        go_wp2_with fail
        clear hmk
        go_loopw [39] (fun i wr => DpR d.Q S n q w1 i wr) (fun i _ => q - (intOf i).toNat)
        case atStart => exact ⟨0, Z, fun _ => ⟨0, none, 0, 0, 0⟩, Nat.zero_le _, rfl, heap_alloc_new w1 _, HZ.out, fun p hp => absurd hp (Nat.not_lt_zero p), fun p hp => absurd hp (Nat.not_lt_zero p), (Below.refl _ _).alloc (Nat.le_refl _) _⟩
        case round =>
          obtain ⟨j, cur, T, hj, rfl, hrow, hcs, hcl, hsf, hbw⟩ := hrel
          have HR := Lib.hid hrow
          have HCS := Lib.hid hcs
          have HCL := Lib.hid hcl
          have HSF := Lib.hid hsf
          have HBW := Lib.hid hbw
          have HB := Lib.hid (B1.out.trans (hbw.mono B1.out.size))
          clear hrow hcs hcl hsf hbw
          rcases Nat.lt_or_ge j q with hlt | hge
          · have hjn : ((j : Nat) : Int) < (q : Int) := by omega
            have ew : IntKind.i64.wrap ((j : Int) + 1) = (j : Int) + 1 := IntWalk.i64_in _ (by omega)
            go_wp2_with fail
            refine (pvalue_any (HG.out.below HB.out) (HL.out.below HB.out) (by omega) n32 HX.out ((j : Int) + 1) (by omega) (by omega)).mono ?_
            rintro e w4 ⟨D4, m4, c4, rfl, h4, b4, hn4⟩
            have R4 := Lib.hid (show w4.heap[w1.heap.size]? = some (.cells cur 42 (0, 0)) from (b4.block _ (Array.getElem?_eq_some_iff.1 HR.out).1).trans HR.out)
            have sz0 := (Array.getElem?_eq_some_iff.1 HR.out).1
            have H4 := Lib.hid h4
            have B4 := Lib.hid b4
            have N4 := Lib.hid (show ∀ a, D4 = some a → w1.heap.size < a.block from fun a ha => Nat.lt_of_lt_of_le sz0 (hn4 a ha))
            obtain ⟨v0, x0⟩ := cell_in9 R4.out (o := j * 2) (by have := HCS.out; omega)
            obtain ⟨v1, x1⟩ := cell_in9 R4.out (o := j * 2 + 1) (by have := HCS.out; omega)
            have f0 := frozen_of_row w4 w1.heap.size (j * 2) _ _ R4.out
            have f1 := frozen_of_row w4 w1.heap.size (j * 2 + 1) _ _ R4.out
            have B5 := Lib.hid (mid_bo2 w4 w1.heap.size (j * 2) (.int .i64 ((j : Int) + 1)) (.slice D4 m4 c4))
            have R5 := Lib.hid (mid_row2 (o := j * 2) (x := .int .i64 ((j : Int) + 1)) (y := .slice D4 m4 c4) R4.out)
            clear h4 b4 hn4
            go_wp2_with fail
            have hcs := HCS.out
            go_roundw
            case rel =>
              have hN := N4.out
              refine ⟨j + 1, _, fun p => if p = j then ⟨(j : Int) + 1, D4, m4, c4, hrN d.Q (fun i => (S i).N) ((j : Int) + 1) n n⟩ else T p, by omega, by go_num, R5.out, by simpa using hcs, fun p hp => ?_, fun p hp => ?_, B5.out.below (HBW.out.trans (B4.out.mono HBW.out.size)) (Nat.le_refl _)⟩
              · rcases Nat.lt_or_ge p j with g1 | g1
                · obtain ⟨⟨c0, c1⟩, k1, k2⟩ := HCL.out p g1
                  simp only [if_neg (show ¬ p = j by omega)]
                  refine ⟨⟨?_, ?_⟩, B5.out.cn (k1.below B4.out) (fun a ha => by have := k2 a ha; omega), k2⟩
                  · rw [Array.getElem?_setIfInBounds_ne (by omega), Array.getElem?_setIfInBounds_ne (by omega)]; exact c0
                  · rw [Array.getElem?_setIfInBounds_ne (by omega), Array.getElem?_setIfInBounds_ne (by omega)]; exact c1
                · obtain rfl : p = j := by omega
                  simp only [if_true]
                  refine ⟨⟨?_, ?_⟩, B5.out.cn H4.out (fun a ha => by have := hN a ha; omega), hN⟩
                  · rw [Array.getElem?_setIfInBounds_ne (by omega), Array.getElem?_setIfInBounds_self_of_lt (by omega)]
                  · rw [Array.getElem?_setIfInBounds_self_of_lt (by simp; omega)]
              · rcases Nat.lt_or_ge p j with g1 | g1
                · simp only [if_neg (show ¬ p = j by omega)]; exact HSF.out p g1
                · obtain rfl : p = j := by omega
                  simp only [if_true]
                  exact ⟨trivial, by rw [hrN_is, vlN_is], H4.out.len_⟩
            case measure => simp [intOf]; omega
          · obtain rfl : j = q := by omega
            have hjn : decide ((j : Int) < (j : Int)) = false := by simp
            go_wp2_with fail
            refine bodyPost_ret (v := .tuple #[.slice (some ⟨w1.heap.size, 0, none⟩) j j, .slice Ac n cc, .nilIface]) (by simp [results, Try.results11, go_sem]) rfl ?_
            have hb1 := B1.out.size
            refine .inr ⟨EX.out, j, _, _, T, Ac, cc, U, rfl, rfl, ⟨⟨Nat.le_refl _, by omega, fun hn => ⟨w1.heap.size, 0, rfl, (Array.getElem?_eq_some_iff.1 HR.out).1, fun p hp => ?_⟩, fun p hp => ⟨by have := (HSF.out p hp).1; omega, (HCL.out p hp).2.1.nm⟩⟩, fun a ha => by injection ha with ha; subst ha; exact hb1, fun p hp a ha => by have := (HCL.out p hp).2.2 a ha; omega⟩, HSF.out, HU.out.below HBW.out, HF.out, HB.out⟩
            rw [Nat.zero_add, cell_of_row wr _ _ _ _ _ HR.out, cell_of_row wr _ _ _ _ _ HR.out]
            exact (HCL.out p hp).1
    · have d2 : decide (PlI m) = false := decide_eq_false g2
      rw [d2]
      have ec : dlC S n m = 1 := if_neg (fun k => g2 k.2.2)
      have EX := Lib.hid ec
      clear ec d2 g2
      go_wp2_with fail
      refine bodyPost_ret (v := .tuple #[.slice none 0 0, .slice none 0 0, .iface 51 (.int .i64 1)]) (by simp [results, Try.results11, go_sem]) rfl ?_
      exact .inl ⟨by rw [EX.out]; decide, by rw [EX.out], Below.refl _ _⟩
  · have d1 : decide (1 ≤ (n : Int) ∧ (n : Int) ≤ 32) = false := decide_eq_false g1
    rw [d1]
    have ec : dlC S n m = 1 := if_neg (fun k => g1 (by have := k.1; have := k.2.1; omega))
    have EX := Lib.hid ec
    clear ec d1 g1
    go_wp2_with fail
    refine bodyPost_ret (v := .tuple #[.slice none 0 0, .slice none 0 0, .iface 51 (.int .i64 1)]) (by simp [results, Try.results11, go_sem]) rfl ?_
    exact .inl ⟨by rw [EX.out]; decide, by rw [EX.out], Below.refl _ _⟩
end Go.Proofs.Ytkecfdeepmhggaa
/-
  Layer 9, the program: Weight and Combine.
-/
namespace Go.Proofs.Ytkecfdeepmhggaa
open Go.RowKit Go.Maps
set_option linter.unusedVariables false
theorem wgC_yes9 {Q : Int} {X : Nat → Int} {n : Nat} {y : Int} (h : PlsI Q X n ∧ ∃ u, u < n ∧ X u = y) : wgC Q X n y = 0 := by unfold wgC; rw [if_pos h]
theorem cbC_arg {Q : Int} {S : Nat → Shr} {n : Nat} (h : ¬ PlsI Q (fun i => (S i).I) n) : cbC Q S n = 1 := by unfold cbC; rw [if_neg h]
theorem cbC_long {Q : Int} {S : Nat → Shr} {n : Nat} (h : PlsI Q (fun i => (S i).I) n) (hl : ∃ i, i < n ∧ 64 < dl (S i).N) : cbC Q S n = 2 := by unfold cbC; rw [if_pos h, if_pos hl]
theorem cbC_ok {Q : Int} {S : Nat → Shr} {n : Nat} (h : PlsI Q (fun i => (S i).I) n) (hl : ∀ i, i < n → dl (S i).N ≤ 64) : cbC Q S n = 0 := by unfold cbC; rw [if_pos h, if_neg (fun ⟨i, hi, g⟩ => by have := hl i hi; omega)]
/-- A number, or what is amiss. -/
def NumE (code N : Int) (w : World) (e : Ending) (w' : World) : Prop := (code = 0 ∧ Ans N w e w') ∨ (code ≠ 0 ∧ Err1 code w e w')
section
variable {w : World} {b : Nat} {d : Gd} {A : Option Addr} {n c : Nat}
set_option maxHeartbeats 4000000 in
set_option maxRecDepth 100000 in
theorem pwgt_any {X : Nat → Int} (h : Gr w b d) (hl : Ils w A n c X) (y : Int) (hy : -9223372036854775808 ≤ y ∧ y ≤ 9223372036854775807) :
    Calls Try.prog 22 #[.pointer (some ⟨b, 0, none⟩), .slice A n c, .int .i64 y] w (NumE (wgC d.Q X n y) (wgN d.Q X y n) w) := by
  have HG := Lib.hid h
  have HL := Lib.hid hl
  have he0 := neq0_9
  have he1 := neq1_9 1
  have hkey : keyOf Try.prog 3 (.int .i64 y) = some (.int .i64 y) := keyOf_int_mk Try.underlying3 (WalkArith.wf_i64 hy)
  clear h hl
  go_enter Try.func22, Try.ntmps22
  go_wp2_with fail
  refine (pidx_any HG.out HL.out).mono ?_
  rintro e w1 (⟨hp, m, rfl, hown, b1⟩ | ⟨hp, rfl, b1⟩)
  · have HP := Lib.hid hp
    have B1 := Lib.hid b1
    have LTm := Lib.hid hown.lt
    obtain ⟨s, hs⟩ : ∃ s : Bool, s = true ↔ ∃ u, u < n ∧ X u = y := by
      by_cases q : ∃ u, u < n ∧ X u = y
      · exact ⟨true, fun _ => q, fun _ => rfl⟩
      · exact ⟨false, fun k => (by cases k), fun k => absurd k q⟩
    have ehas := has_Sx X n y s hs
    cases s with
    | false =>
      have EX := Lib.hid (wgC_no (Q := d.Q) (X := X) (n := n) (y := y) (fun k => by have := hs.2 k.2; cases this))
      clear hs hp b1
      go_wp2_with (first
        | (at_lookup; refine wpList_lookup_own_unit _ rfl _ _ 76 rfl 3 88 law9 Try.underlying76 (zero9 _) m n _ rfl hown _ _ rfl hkey ?_; rw [ehas])
        | fail)
      go_ret2
      exact .inr ⟨by rw [EX.out]; decide, by rw [EX.out]; rfl, B1.out.trans ((Below.refl _ _).alloc B1.out.size _)⟩
    | true =>
      have hex := hs.1 rfl
      have EX := Lib.hid (wgC_yes9 ⟨hp, hex⟩)
      have PY := Lib.hid (show PlI y by obtain ⟨u, hu, rfl⟩ := hex; exact hp.2.2.2.1 u hu)
      clear hs hp b1 hex
      go_wp2_with (first
        | (at_lookup; refine wpList_lookup_own_unit _ rfl _ _ 76 rfl 3 88 law9 Try.underlying76 (zero9 _) m n _ rfl hown _ _ rfl hkey ?_; rw [ehas])
        | fail)
      have b2 := Lib.hid (B1.out.trans (((Below.refl w1.heap.size w1).alloc (Nat.le_refl _) (.cells #[] 88)).mono B1.out.size))
      refine (pweight_any (HG.out.below b2.out) (HL.out.below b2.out) HP.out y PY.out).mono ?_
      rintro e w3 ⟨D3, m3, c3, rfl, h3, b3, hn3⟩
      have H3 := Lib.hid h3
      have B3 := Lib.hid (b2.out.trans (b3.mono b2.out.size))
      have N3 := Lib.hid (show ∀ a, D3 = some a → w.heap.size ≤ a.block from fun a ha => Nat.le_trans b2.out.size (hn3 a ha))
      clear h3 b3 hn3
      go_wp2_with fail
      go_ret2
      exact .inl ⟨EX.out, D3, m3, c3, rfl, H3.out, B3.out, N3.out⟩
  · have EX := Lib.hid (wgC_no (Q := d.Q) (X := X) (n := n) (y := y) (fun k => hp k.1))
    have B1 := Lib.hid b1
    clear hp b1
    go_wp2_with fail
    go_ret2
    exact .inr ⟨by rw [EX.out]; decide, by rw [EX.out]; rfl, B1.out⟩
/-! ### Combine -/
theorem inI9 : (Try.prog.info? 3).map (fun i => (i.zero, i.size, i.bytes)) = some (some (.int .i64 0), 1, 8) := by kernel_rfl
theorem mdI9 (n : Nat) : madeCells (Value.cells (.int .i64 0)) (n * 1) = ((List.replicate n 0).map (Value.int .i64)).toArray := by
  apply Array.ext'
  rw [Nat.mul_one]
  show (madeCells #[Value.int .i64 0] n).toList = _
  rw [toList_madeCells_one]; simp
theorem run_makeI9 (n : Nat) {C : Int} (hC : C = n) (hn : n ≤ 1000000) (w : World) : (Instr.makeSlice 23 (.int .i64 C) (.int .i64 C)).run Try.prog w =
    .ok (.slice (some ⟨w.heap.size, 0, none⟩) n n) (w.alloc (.cells ((List.replicate n 0).map (Value.int .i64)).toArray 3)) := by
  subst hC
  obtain ⟨i0, hi, hz0, hz1, hz2⟩ := info_parts inI9
  have hr := run_make (P := Try.prog) w 23 3 i0 (.int .i64 0) Try.underlying23 hi hz0 .i64 .i64 n n (by omega) (by omega) (by rw [hz2]; omega) (by omega)
  rw [hz1, mdI9] at hr
  simpa using hr
theorem cbN_rng9 {Q : Int} {x v : Nat → Int} {n : Nat} (hQ : 1 ≤ Q) : ∀ m, 0 ≤ cbN Q x v n m ∧ cbN Q x v n m ≤ Q
  | 0 => ⟨Int.le_refl _, by show (0 : Int) ≤ Q; omega⟩
  | m + 1 => ⟨Int.emod_nonneg _ (by omega), Int.le_of_lt (Int.emod_lt_of_pos _ (by omega))⟩
/-- The loop that gathers the indices. -/
def CiR (S : Nat → Shr) (n : Nat) (w : World) (i : Value) (wr : World) : Prop :=
  ∃ (j : Nat) (cur : Array Value), j ≤ n ∧ i = .int .i64 j ∧ wr.heap[w.heap.size]? = some (.cells cur 3 (0, 0)) ∧ cur.size = n ∧ (∀ p, p < j → cur[p]? = some (.int .i64 (S p).I)) ∧ Below w.heap.size w wr
/-- The loop that adds up. -/
def CsR9 (Q : Int) (S : Nat → Shr) (n : Nat) (w : World) (v i : Value) (wr : World) : Prop :=
  ∃ (j : Nat) (B : Option Addr) (m cap : Nat), j ≤ n ∧ i = .int .i64 j ∧ v = .slice B m cap ∧ Cn wr B m cap (cbN Q (fun i => (S i).I) (fun i => (S i).N) n j) ∧ (∀ a, B = some a → w.heap.size ≤ a.block) ∧ (∀ p, p < j → dl (S p).N ≤ 64) ∧ Below w.heap.size w wr
set_option maxHeartbeats 4000000 in
set_option maxRecDepth 100000 in
theorem pcomb_any {S : Nat → Shr} (h : Gr w b d) (hl : Shs w A n c S) (hn : n ≤ 1000) :
    Calls Try.prog 13 #[.pointer (some ⟨b, 0, none⟩), .slice A n c] w (NumE (cbC d.Q S n) (cbN d.Q (fun i => (S i).I) (fun i => (S i).N) n n) w) := by
  have Q5 := Lib.hid h.q255
  have HG := Lib.hid h
  have HL := Lib.hid hl
  have LQ := Lib.hid h.lq
  have he0 := neq0_9
  have he1 := neq1_9
  have hmk := fun W => run_makeI9 n (C := (n : Int)) rfl (by omega) W
  obtain ⟨Z, hZ⟩ : ∃ Z : Array Value, Z = ((List.replicate n 0).map (Value.int .i64)).toArray := ⟨_, rfl⟩
  rw [← hZ] at hmk
  have HZ := Lib.hid (show Z.size = n by rw [hZ]; simp)
  clear h hl hZ
  go_enter Try.func13, Try.ntmps13
  go_wp2_with fail
  clear hmk
  go_loopw [21] (fun i wr => CiR S n w i wr) (fun i _ => n - (intOf i).toNat)
  case atStart => exact ⟨0, Z, Nat.zero_le _, rfl, heap_alloc_new w _, HZ.out, fun p hp => absurd hp (Nat.not_lt_zero p), (Below.refl _ _).alloc (Nat.le_refl _) _⟩
  case round =>
    obtain ⟨j, cur, hj, rfl, hrow, hcs, hcl, hbw⟩ := hrel
    have HR := Lib.hid hrow
    have HCS := Lib.hid hcs
    have HCL := Lib.hid hcl
    have HB := Lib.hid hbw
    clear hrow hcs hcl hbw
    rcases Nat.lt_or_ge j n with hlt | hge
    · have hjn : (j : Int) < (n : Int) := by omega
      obtain ⟨bA, off, rfl, hbA, hc⟩ := HL.out.ex (by omega)
      obtain ⟨c0, c1⟩ := hc j hlt
      have c0' := (HB.out.cell (p := ⟨bA, off + j * 2, none⟩) hbA).trans c0
      have c1' := (HB.out.cell (p := ⟨bA, off + j * 2 + 1, none⟩) hbA).trans c1
      have sz0 := (Array.getElem?_eq_some_iff.1 HR.out).1
      obtain ⟨v0, x0⟩ := cell_in9 HR.out (o := j) (by have := HCS.out; omega)
      have f0 := frozen_of_row wr w.heap.size j _ _ HR.out
      have R2 := Lib.hid (heap_setCell_same wr _ j _ _ (.int .i64 (S j).I) HR.out)
      have B2 := Lib.hid (show Below w.heap.size w (wr.setCell ⟨w.heap.size, j, none⟩ (.int .i64 (S j).I)) from (Bo.set w.heap.size j wr _).below HB.out (Nat.le_refl _))
      clear c0 c1 hc
      go_wp2_with fail
      go_roundw
      case rel =>
        have hb := below_al (wr.setCell ⟨w.heap.size, j, none⟩ (.int .i64 (S j).I)) (.cells #[.int .i64 (S j).I, .slice (S j).A (S j).n (S j).c] 42)
        refine ⟨j + 1, _, by omega, by go_num, (hb.block w.heap.size (by simpa using sz0)).trans R2.out, by simp [HCS.out], fun p hp => ?_, B2.out.trans (hb.mono B2.out.size)⟩
        rcases Nat.lt_or_ge p j with g | g
        · rw [Array.getElem?_setIfInBounds_ne (by omega)]; exact HCL.out p g
        · obtain rfl : p = j := by omega
          rw [Array.getElem?_setIfInBounds_self_of_lt (by rw [HCS.out]; exact hlt)]
      case measure => simp [intOf]; omega
    · obtain rfl : j = n := by omega
      have hjn : decide ((j : Int) < (j : Int)) = false := by simp
      have HI := Lib.hid (show Ils wr (some ⟨w.heap.size, 0, none⟩) j j (fun i => (S i).I) from ⟨Nat.le_refl _, HL.out.c60, fun hn => ⟨w.heap.size, 0, rfl, (Array.getElem?_eq_some_iff.1 HR.out).1, fun p hp => by rw [Nat.zero_add, cell_of_row wr _ _ _ _ _ HR.out]; exact HCL.out p hp⟩, fun p hp => (HL.out.at_ p hp).1⟩)
      go_wp2_with fail
      refine (pidx_any (HG.out.below HB.out) HI.out).mono ?_
      rintro e w1 (⟨hp, m, rfl, -, b1⟩ | ⟨hp, rfl, b1⟩)
      · have HP := Lib.hid hp
        have B1 := Lib.hid (HB.out.trans (b1.mono HB.out.size))
        have HI1 := Lib.hid (HI.out.below b1)
        have n1 := hp.1
        clear hp b1
        go_wp2_with fail
        clear hjn
        go_loopw [11, 43] (fun v i wr => CsR9 d.Q S j w1 v i wr) (fun _ i _ => j - (intOf i).toNat)
        case atStart => exact ⟨0, none, 0, 0, Nat.zero_le _, rfl, rfl, ⟨by rw [show cbN d.Q (fun i => (S i).I) (fun i => (S i).N) j 0 = 0 from rfl, dg_zero]; exact Rd.nil _ _ _, Nat.le_refl _, by omega, Int.le_refl _⟩, fun a ha => (by cases ha), fun p hp => absurd hp (Nat.not_lt_zero p), Below.refl _ _⟩
        case round =>
          obtain ⟨t, D, m', cap, ht, rfl, rfl, hc, hnw, hdl, hbw⟩ := hrel
          have HC := Lib.hid hc
          have HN := Lib.hid hnw
          have HD := Lib.hid hdl
          have HW := Lib.hid hbw
          have HBW := Lib.hid (B1.out.trans (hbw.mono B1.out.size))
          clear hc hnw hdl hbw
          rcases Nat.lt_or_ge t j with hlt | hge
          · have htn : (t : Int) < (j : Int) := by omega
            obtain ⟨bA, off, rfl, hbA, hcA⟩ := HL.out.ex (by omega)
            obtain ⟨c0, c1⟩ := hcA t hlt
            have c0' := (HBW.out.cell (p := ⟨bA, off + t * 2, none⟩) hbA).trans c0
            have c1' := (HBW.out.cell (p := ⟨bA, off + t * 2 + 1, none⟩) hbA).trans c1
            have bl := Lib.hid (below_al wr (.cells #[.int .i64 (S t).I, .slice (S t).A (S t).n (S t).c] 42))
            have BL := Lib.hid (HBW.out.trans (bl.out.mono HBW.out.size))
            have HS := Lib.hid ((HL.out.at_ t hlt).below BL.out)
            have HI2 := Lib.hid (HI1.out.below (HW.out.trans (bl.out.mono HW.out.size)))
            have PT := Lib.hid (HP.out.2.2.2.1 t hlt)
            clear c0 c1 hcA
            go_wp2_with fail
            refine (pweighed_any (HG.out.below BL.out) HI2.out HP.out HS.out PT.out).mono ?_
            rintro e w4 (⟨hl4, rfl, b4⟩ | ⟨hl4, D4, m4, c4, rfl, h4, b4, hn4⟩)
            · have EX := Lib.hid (cbC_long HP.out ⟨t, hlt, hl4⟩)
              have B4 := Lib.hid (BL.out.trans (b4.mono BL.out.size))
              have e2 := he1 2
              clear hl4 b4
              go_wp2_with fail
              go_ret2
              exact .inr ⟨by rw [EX.out]; decide, by rw [EX.out]; rfl, B4.out⟩
            · have L4 := Lib.hid hl4
              have H4 := Lib.hid h4
              have W4 := Lib.hid (bl.out.trans (b4.mono bl.out.size))
              have B4 := Lib.hid (BL.out.trans (b4.mono BL.out.size))
              have LP : dl ((S t).N * wgN d.Q (fun i => (S i).I) (S t).I j % d.Q) ≤ 64 := by
                have h1 := dl_mono (Int.emod_nonneg ((S t).N * wgN d.Q (fun i => (S i).I) (S t).I j) (show d.Q ≠ 0 by have := Q5.out; omega)) (Int.le_of_lt (Int.emod_lt_of_pos _ (show 0 < d.Q by have := Q5.out; omega)))
                have := LQ.out
                omega
              have rc := cbN_rng9 (Q := d.Q) (x := fun i => (S i).I) (v := fun i => (S i).N) (n := j) (by have := Q5.out; omega) t
              have LC : dl (cbN d.Q (fun i => (S i).I) (fun i => (S i).N) j t) ≤ 64 := by
                have h1 := dl_mono rc.1 rc.2
                have := LQ.out
                omega
              clear hl4 h4 b4 hn4 rc
              go_wp2_with fail
              refine (gscalars_any (HG.out.below B4.out).toGr0).mono ?_
              rintro e w5 ⟨bs, Am, cm, low, Bm, cB, Sm, cS, rfl, md, b5, -⟩
              have MD := Lib.hid md
              have B5 := Lib.hid b5
              clear md b5
              go_wp2_with fail
              refine (madd_any MD.out (HC.out.below (W4.out.trans (B5.out.mono W4.out.size))).nm (H4.out.below B5.out).nm LC LP).mono ?_
              rintro e w6 ⟨D6, m6, c6, rfl, h6, b6, hn6⟩
              have H6 := Lib.hid h6
              have B6 := Lib.hid (W4.out.trans ((B5.out.trans (b6.mono B5.out.size)).mono W4.out.size))
              have N6 := Lib.hid (show ∀ a, D6 = some a → wr.heap.size ≤ a.block from fun a ha => Nat.le_trans (W4.out.trans (B5.out.mono W4.out.size)).size (hn6 a ha))
              have E6 := Lib.hid (show (cbN d.Q (fun i => (S i).I) (fun i => (S i).N) j t + (S t).N * wgN d.Q (fun i => (S i).I) (S t).I j % d.Q) % d.Q = cbN d.Q (fun i => (S i).I) (fun i => (S i).N) j (t + 1) by
                rw [cbN, Int.add_emod_emod, Int.mul_comm (S t).N])
              clear h6 b6 hn6
              go_wp2_with fail
              go_roundw
              case rel =>
                refine ⟨t + 1, D6, m6, c6, by omega, by go_num, rfl, E6.out ▸ H6.out, fun a ha => Nat.le_trans HW.out.size (N6.out a ha), fun p hp => ?_, HW.out.trans (B6.out.mono HW.out.size)⟩
                rcases Nat.lt_or_ge p t with g | g
                · exact HD.out p g
                · obtain rfl : p = t := by omega
                  exact L4.out
              case measure => simp [intOf]; omega
          · obtain rfl : t = j := by omega
            have htn : decide ((t : Int) < (t : Int)) = false := by simp
            have EX := Lib.hid (cbC_ok HP.out HD.out)
            go_wp2_with fail
            go_ret2
            exact .inl ⟨EX.out, D, m', cap, rfl, HC.out, HBW.out, fun a ha => Nat.le_trans B1.out.size (HN.out a ha)⟩
      · have EX := Lib.hid (cbC_arg hp)
        have B1 := Lib.hid (HB.out.trans (b1.mono HB.out.size))
        clear hp b1
        go_wp2_with fail
        go_ret2
        exact .inr ⟨by rw [EX.out]; decide, by rw [EX.out]; rfl, B1.out⟩
end
end Go.Proofs.Ytkecfdeepmhggaa
/-
  What the laws of layer 9 ask of answers: a number or an error in one form; whether two numbers are told alike.
-/
namespace Go.Proofs.Ytkecfdeepmhggaa
open Go.RowKit
set_option linter.unusedVariables false
/-- A number, or nothing and an error. -/
def NumV9 (c N : Int) (w : World) (e : Ending) (w' : World) : Prop := ∃ B m cap, e = .returned (.tuple #[.slice B m cap, erv9 c]) ∧ (c = 0 → Cn w' B m cap N) ∧ (c ≠ 0 → B = none ∧ m = 0 ∧ cap = 0) ∧ Below w.heap.size w w'
theorem NumE.v {c N : Int} {w w' : World} {e : Ending} (h : NumE c N w e w') : NumV9 c N w e w' := by
  rcases h with ⟨h0, B, m, cap, rfl, h1, h2, -⟩ | ⟨h0, rfl, h2⟩
  · exact ⟨B, m, cap, by rw [erv9_no h0], fun _ => h1, fun k => absurd h0 k, h2⟩
  · exact ⟨none, 0, 0, by rw [erv9_yes h0], fun k => absurd k h0, fun _ => ⟨rfl, rfl, rfl⟩, h2⟩
theorem PublP.v {P Q y : Int} {N : Nat → Int} {n : Nat} {w w' : World} {e : Ending} (h : PublP P Q N n y w e w') : NumV9 (pubC P Q N n y) (pubI P Q N y n) w e w' := NumE.v h
theorem erv_ErV {c : Int} (h : c = 0 ∨ (1 ≤ c ∧ c ≤ 15)) : ErV (erv9 c) c := by
  by_cases g : c = 0
  · exact .inl ⟨g, erv9_no g⟩
  · exact .inr ⟨by omega, erv9_yes g⟩
theorem pubC_rng {P Q y : Int} {N : Nat → Int} {n : Nat} : pubC P Q N n y = 0 ∨ (1 ≤ pubC P Q N n y ∧ pubC P Q N n y ≤ 15) := by
  unfold pubC
  split
  · split <;> omega
  · omega
theorem chC_rng {P Q G I V : Int} {N : Nat → Int} {n : Nat} : chC P Q G N n I V = 0 ∨ (1 ≤ chC P Q G N n I V ∧ chC P Q G N n I V ≤ 15) := by
  unfold chC
  split
  · split
    · omega
    · split
      · split <;> omega
      · omega
  · omega
theorem dlC_rng {S : Nat → Nsl} {n : Nat} {m : Int} : dlC S n m = 0 ∨ (1 ≤ dlC S n m ∧ dlC S n m ≤ 15) := by
  unfold dlC
  split
  · split <;> omega
  · omega
theorem wgC_rng {Q y : Int} {X : Nat → Int} {n : Nat} : wgC Q X n y = 0 ∨ (1 ≤ wgC Q X n y ∧ wgC Q X n y ≤ 15) := by
  unfold wgC
  split <;> omega
theorem cbC_rng {Q : Int} {S : Nat → Shr} {n : Nat} : cbC Q S n = 0 ∨ (1 ≤ cbC Q S n ∧ cbC Q S n ≤ 15) := by
  unfold cbC
  split
  · split <;> omega
  · omega
/-- Two numbers, told without noughts, are told alike. -/
theorem same9 {w : World} {A A' : Option Addr} {n c n' c' : Nat} {N N' : Int} (h : Cn w A n c N) (h' : Cn w A' n' c' N') (e : N = N') :
    Calls Try.prog 16 #[.slice A n c, .slice A' n' c'] w fun e w' => e = .returned (.bool true) ∧ ∃ q, w' = w.drewN q := by
  subst e
  have e1 : n' = n := h'.len_.trans h.len_.symm
  subst e1
  exact same_yes h.rd h'.rd h.c60
theorem same9q {w : World} {A A' : Option Addr} {n c n' c' : Nat} {N N' : Int} (h : Cn w A n c N) (h' : Cn w A' n' c' N') (e : N = N') {q : Nat} :
    Calls Try.prog 16 #[.slice A n c, .slice A' n' c'] (w.drewN q) fun e w'' => e = .returned (.bool true) ∧ ∃ m, w'' = w.drewN m :=
  (same9 (h.below (below_drewN (Below.refl _ _) q)) (h'.below (below_drewN (Below.refl _ _) q)) e).mono fun _ _ ⟨h1, m, h2⟩ => ⟨h1, q + m, by rw [h2, World.drewN_drewN]⟩
theorem Nm.cn9 {w : World} {A : Option Addr} {n c : Nat} {N : Int} (h : Nm w A n c N) (hn : n = dl N) : Cn w A n c N := by
  obtain ⟨⟨xs, h1, h2, h3⟩, h4, h5, h6⟩ := h
  have e := strip_ex W_two h2
  rw [h3] at e
  have hl : (dg W N).length = xs.length := by rw [h1.len]; exact hn.symm
  rw [hl, List.take_length] at e
  exact ⟨e ▸ h1, h4, h5, h6⟩
end Go.Proofs.Ytkecfdeepmhggaa
/-
  The document's examples of layer 9: up answers true. What one and scalar answer.
-/
namespace Go.Proofs.Ytkecfdeepmhggaa
open Go.RowKit
set_option linter.unusedVariables false
/-- What Deal answers where nothing is amiss. -/
def DealY (P Q G : Int) (S : Nat → Nsl) (n q : Nat) (w : World) (e : Ending) (w' : World) : Prop :=
  ∃ (As : Option Addr) (cs : Nat) (T : Nat → Shr) (Ac : Option Addr) (cc : Nat) (U : Nat → Nsl), e = .returned (.tuple #[.slice As q cs, .slice Ac n cc, .nilIface]) ∧ ShB w' w.heap.size As q cs T ∧ ShF Q S n T q ∧ NsB w' w.heap.size Ac n cc U ∧ ComF P Q G S U n ∧ Below w.heap.size w w'
theorem pdeal_ok {w : World} {b : Nat} {d : Gd} {A : Option Addr} {n c : Nat} {S : Nat → Nsl} (h : Gr w b d) (hl : Ns w A n c S) (h1 : 1 ≤ n) (h2 : n ≤ 32) (hS : ∀ i, i < n → dl (S i).N ≤ 64) (q : Nat) (q1 : 1 ≤ q) (q2 : q ≤ 255) :
    Calls Try.prog 11 #[.pointer (some ⟨b, 0, none⟩), .slice A n c, .int .i64 q] w (DealY d.P d.Q d.G S n q w) := by
  have e0 : dlC S n q = 0 := by
    unfold dlC
    rw [if_pos ⟨h1, h2, show PlI (q : Int) from ⟨by omega, by omega⟩⟩, if_neg (fun ⟨i, hi, g⟩ => by have := hS i hi; omega)]
  refine (pdeal_any h hl q).mono ?_
  rintro e w' (⟨hn, -⟩ | ⟨-, q', As, cs, T, Ac, cc, U, hq, rfl, k1, k2, k3, k4, k5⟩)
  · exact absurd e0 hn
  · obtain rfl : q = q' := by omega
    exact ⟨As, cs, T, Ac, cc, U, rfl, k1, k2, k3, k4, k5⟩
/-- Is a number of one digit this one? -/
theorem one9_any {w : World} {A : Option Addr} {c : Nat} {N : Int} (h : Nm w A 1 c N) (v : Int) (e : N = v) :
    Calls Try.prog 23 #[.slice A 1 c, .int .u64 v] w (fun e w' => e = .returned (.bool true) ∧ w = w') := by
  subst e
  obtain ⟨⟨xs, h1, h2, h3⟩, -, -, -⟩ := h
  obtain ⟨bb, off, x, rfl, hb, hx, hcell⟩ := h1.at_ (j := 0) (by omega)
  rw [Nat.add_zero] at hcell
  have hl := h1.len
  obtain ⟨y, hy⟩ : ∃ y, xs = [y] := List.length_eq_one_iff.1 hl
  subst hy
  have hxy : y = x := by simpa using hx
  subst hxy
  have hN : y = N := by simpa [val] using h3
  subst hN
  clear h1 h2 h3 hl hx
  go_enter Try.func23, Try.ntmps23
  go_wp2_with fail
  go_ret
  exact ⟨by simp, rfl⟩
theorem dl_one9 {N : Int} (h0 : 1 ≤ N) (h1 : N < W) : dl N = 1 := by
  have h2 := dl_le (N := N) (by omega) (k := 1) (by rwa [show W ^ 1 = W by decide])
  have h3 := dl_zero (N := N) (by omega)
  omega
set_option maxRecDepth 100000 in
theorem eq_err9 (c : Int) : ∀ w : World, (binOp .eql 29 (.iface 51 (.int .i64 c)) (.iface 51 (.int .i64 c))).run Try.prog w = .ok (.bool (c == c)) w := fun _ => rfl
set_option maxRecDepth 100000 in
theorem eq_nil9 : ∀ w : World, (binOp .eql 29 .nilIface .nilIface).run Try.prog w = .ok (.bool true) w := fun _ => rfl
/-- Two numbers. -/
theorem ns_two9 {w U1 U2 U3 : World} {x y : Int} (x0 : 0 ≤ x) (x1 : x < W) (y0 : 0 ≤ y) (y1 : y < W) (h1 : w.alloc (.cells #[.int .u64 x] 54) = U1) (h2 : U1.alloc (.cells #[.int .u64 y] 54) = U2)
    (h3 : U2.alloc (.cells #[.slice (some ⟨w.heap.size, 0, none⟩) 1 1, .slice (some ⟨U1.heap.size, 0, none⟩) 1 1] 25) = U3) :
    Ns U3 (some ⟨U2.heap.size, 0, none⟩) 2 2 (fun i => if i = 0 then ⟨some ⟨w.heap.size, 0, none⟩, 1, 1, x⟩ else ⟨some ⟨U1.heap.size, 0, none⟩, 1, 1, y⟩) ∧ Below w.heap.size w U3 := by
  have n1 := lit9 w x0 x1
  have n2 := lit9 U1 y0 y1
  have b1 := below_al w (.cells #[.int .u64 x] 54)
  have b2 := below_al U1 (.cells #[.int .u64 y] 54)
  have b3 := below_al U2 (.cells #[.slice (some ⟨w.heap.size, 0, none⟩) 1 1, .slice (some ⟨U1.heap.size, 0, none⟩) 1 1] 25)
  rw [h1] at n1 b1
  rw [h2] at n2 b2
  rw [h3] at b3
  refine ⟨⟨Nat.le_refl _, by omega, fun _ => ⟨U2.heap.size, 0, rfl, by rw [← h3]; simp, fun i hi => ?_⟩, fun i hi => ?_⟩, (b1.trans (b2.mono b1.size)).trans (b3.mono (Nat.le_trans b1.size b2.size))⟩
  · rcases i with _ | i
    · rw [← h3]; simp [World.cell?_alloc_at]
    · obtain rfl : i = 0 := by omega
      rw [← h3]; simp [World.cell?_alloc_at]
  · rcases i with _ | i
    · exact (n1.below b2).below b3
    · obtain rfl : i = 0 := by omega
      exact n2.below b3
theorem sh_two9 {w U1 U2 U3 : World} {x y : Int} (x0 : 0 ≤ x) (x1 : x < W) (y0 : 0 ≤ y) (y1 : y < W) (h1 : w.alloc (.cells #[.int .u64 x] 54) = U1) (h2 : U1.alloc (.cells #[.int .u64 y] 54) = U2)
    (h3 : U2.alloc (.cells #[.int .i64 1, .slice (some ⟨w.heap.size, 0, none⟩) 1 1, .int .i64 2, .slice (some ⟨U1.heap.size, 0, none⟩) 1 1] 42) = U3) :
    Shs U3 (some ⟨U2.heap.size, 0, none⟩) 2 2 (fun i => if i = 0 then ⟨1, some ⟨w.heap.size, 0, none⟩, 1, 1, x⟩ else ⟨2, some ⟨U1.heap.size, 0, none⟩, 1, 1, y⟩) ∧ Below w.heap.size w U3 := by
  have n1 := lit9 w x0 x1
  have n2 := lit9 U1 y0 y1
  have b1 := below_al w (.cells #[.int .u64 x] 54)
  have b2 := below_al U1 (.cells #[.int .u64 y] 54)
  have b3 := below_al U2 (.cells #[.int .i64 1, .slice (some ⟨w.heap.size, 0, none⟩) 1 1, .int .i64 2, .slice (some ⟨U1.heap.size, 0, none⟩) 1 1] 42)
  rw [h1] at n1 b1
  rw [h2] at n2 b2
  rw [h3] at b3
  refine ⟨⟨Nat.le_refl _, by omega, fun _ => ⟨U2.heap.size, 0, rfl, by rw [← h3]; simp, fun i hi => ?_⟩, fun i hi => ?_⟩, (b1.trans (b2.mono b1.size)).trans (b3.mono (Nat.le_trans b1.size b2.size))⟩
  · rcases i with _ | i
    · rw [← h3]; constructor <;> simp [World.cell?_alloc_at]
    · obtain rfl : i = 0 := by omega
      rw [← h3]; constructor <;> simp [World.cell?_alloc_at]
  · rcases i with _ | i
    · exact ⟨⟨show (-9223372036854775808 : Int) ≤ 1 by decide, show (1 : Int) ≤ 9223372036854775807 by decide⟩, (n1.below b2).below b3⟩
    · obtain rfl : i = 0 := by omega
      exact ⟨⟨show (-9223372036854775808 : Int) ≤ 2 by decide, show (2 : Int) ≤ 9223372036854775807 by decide⟩, n2.below b3⟩
/-- 1 and 2. -/
def x12 (i : Nat) : Int := if i = 0 then 1 else 2
theorem ils_two9 (w : World) : Ils (w.alloc (.cells #[.int .i64 1, .int .i64 2] 3)) (some ⟨w.heap.size, 0, none⟩) 2 2 x12 :=
  ⟨Nat.le_refl _, by omega, fun _ => ⟨w.heap.size, 0, rfl, by simp, fun i hi => by
    rcases i with _ | i
    · simp [World.cell?_alloc_at, x12]
    · obtain rfl : i = 0 := by omega
      simp [World.cell?_alloc_at, x12]⟩, fun i hi => by unfold x12; split <;> decide⟩
theorem pls_two9 : PlsI 50273 x12 2 := ⟨by decide, by decide, by decide, fun i hi => by unfold x12 PlI; split <;> decide, fun i j hi hj => by
  obtain rfl : i = 1 := by omega
  obtain rfl : j = 0 := by omega
  decide⟩
theorem pr_ex9 : Pr 50273 := (k_safe (k := 0) (by decide)).1.qr
theorem vdoc_21 : vdoc 50273 2 1 = 1 := (vdoc_uniq pr_ex9 (by decide) ⟨0, by decide⟩ (by decide) (by decide)).symm
theorem vdoc_12 : vdoc 50273 1 2 = 50272 := (vdoc_uniq pr_ex9 (by decide) ⟨-1, by decide⟩ (by decide) (by decide)).symm
theorem wg_one9 : wgN 50273 x12 1 2 = 2 := by
  simp only [wgN, x12]
  simp [vdoc_21]
theorem wg_two9 : wgN 50273 x12 2 2 = 50272 := by
  simp only [wgN, x12]
  simp [vdoc_12]
theorem vl_13 : vlN 50273 (fun i => if i = 0 then 7 else 2) 3 2 = 13 := by decide
theorem cb_7 : cbN 50273 (fun i => if i = 0 then 1 else 2) (fun i => if i = 0 then 9 else 11) 2 2 = 7 := by
  have e : (fun i : Nat => if i = 0 then (1 : Int) else 2) = x12 := rfl
  rw [e]
  show ((0 + wgN 50273 x12 1 2 * 9) % 50273 + wgN 50273 x12 2 2 * 11) % 50273 = 7
  rw [wg_one9, wg_two9]
  decide
set_option maxHeartbeats 8000000 in
set_option maxRecDepth 100000 in
theorem up9_any (w : World) : Calls Try.prog 7 #[] w (fun e w' => e = .returned (.bool true) ∧ Below w.heap.size w w') := by
  have he0 := neq0_9
  have he1 := eq_nil9
  have he2 : ∀ w : World, (binOp .eql 29 (.iface 51 (.int .i64 1)) (.iface 51 (.int .i64 1))).run Try.prog w = .ok (.bool true) w := fun w => eq_err9 1 w
  go_enter Try.func7, Try.ntmps7
  go_wp2_with fail
  refine (known_any 0 (by decide) w).mono ?_
  rintro e w1 ⟨A, n, c, A', n', c', rfl, kg, b1⟩
  have B1 := Lib.hid b1
  have KGG := Lib.hid kg
  clear b1 kg
  go_wp2_with fail
  refine (kg_new (kix_lt 0) KGG.out).mono ?_
  rintro e w2 ⟨b, d, rfl, gr, -, hQ, -, b2, -, -⟩
  have HQ := Lib.hid (show d.Q = 50273 from hQ)
  have B2 := Lib.hid (B1.out.trans (b2.mono B1.out.size))
  have GR := Lib.hid gr
  clear b2 gr KGG B1 hQ
  obtain ⟨U1, hU1⟩ : ∃ U, w2.alloc (.cells #[.int .u64 7] 54) = U := ⟨_, rfl⟩
  obtain ⟨U2, hU2⟩ : ∃ U, U1.alloc (.cells #[.int .u64 2] 54) = U := ⟨_, rfl⟩
  obtain ⟨U3, hU3⟩ : ∃ U, U2.alloc (.cells #[.slice (some ⟨w2.heap.size, 0, none⟩) 1 1, .slice (some ⟨U1.heap.size, 0, none⟩) 1 1] 25) = U := ⟨_, rfl⟩
  obtain ⟨L3, b3⟩ := ns_two9 (x := 7) (y := 2) (by decide) (by decide) (by decide) (by decide) hU1 hU2 hU3
  have HL3 := Lib.hid L3
  have B3 := Lib.hid (B2.out.trans (b3.mono B2.out.size))
  have GR3 := Lib.hid (GR.out.below b3)
  clear L3 b3
  go_wp2_with fail
  clear hU1 hU2 hU3
  refine (pdeal_ok GR3.out HL3.out (by decide) (by decide) (fun i hi => by
    have h7 : dl (7 : Int) ≤ 64 := dl_sm9 (by decide) (by decide)
    have h2 : dl (2 : Int) ≤ 64 := dl_sm9 (by decide) (by decide)
    rcases i with _ | i
    · exact h7
    · exact h2) 3 (by decide) (by decide)).mono ?_
  rintro e w4 ⟨As, cs, T, Ac, cc, U, rfl, k1, k2, -, -, b4⟩
  obtain ⟨gs, os, rfl, lgs, hcs⟩ := k1.sh.ex (by decide)
  have V13 := Lib.hid (show (T 2).N = 13 by
    have := (k2 2 (by decide)).2.1
    rw [HQ.out] at this
    rw [this]
    exact (congrArg (fun f => vlN 50273 f 3 2) (by funext i; show (if i = 0 then (_ : Nsl) else _).N = _; split <;> rfl)).trans vl_13)
  have T2 := Lib.hid (show Nm w4 (T 2).A 1 (T 2).c (T 2).N by
    have h1 := (k1.sh.at_ 2 (by decide)).2
    have h2 : (T 2).n = 1 := by rw [(k2 2 (by decide)).2.2, V13.out]; exact dl_one9 (by decide) (by decide)
    rw [h2] at h1
    exact h1)
  have TN := Lib.hid (show (T 2).n = 1 by rw [(k2 2 (by decide)).2.2, V13.out]; exact dl_one9 (by decide) (by decide))
  have LG := Lib.hid lgs
  have c5 := Lib.hid (hcs 2 (by decide)).2
  have B4 := Lib.hid (B3.out.trans (b4.mono B3.out.size))
  have GR4 := Lib.hid (GR3.out.below b4)
  clear b4 k1 k2 lgs hcs HL3 GR3 B3
  obtain ⟨V1, hV1⟩ : ∃ U, w4.alloc (.cells #[.int .i64 1, .int .i64 2] 3) = U := ⟨_, rfl⟩
  have I1 := ils_two9 w4
  have bv := below_al w4 (.cells #[.int .i64 1, .int .i64 2] 3)
  rw [hV1] at I1 bv
  have HI1 := Lib.hid I1
  have BV := Lib.hid bv
  clear I1 bv
  go_wp2_with fail
  clear hV1
  refine (pwgt_any (GR4.out.below BV.out) HI1.out 1 ⟨by decide, by decide⟩).mono ?_
  rintro e w5 hw5
  have hwc : wgC d.Q x12 2 1 = 0 := by rw [HQ.out]; exact wgC_yes9 ⟨pls_two9, 0, by decide, rfl⟩
  rcases hw5 with ⟨-, D5, m5, c5', rfl, h5, b5, -⟩ | ⟨hn, -⟩
  rotate_left
  · exact absurd hwc hn
  rw [HQ.out, wg_one9] at h5
  obtain rfl : m5 = 1 := h5.len_.trans (dl_one9 (by decide) (by decide))
  have H5 := Lib.hid h5.nm
  have B45 := Lib.hid (BV.out.trans (b5.mono BV.out.size))
  have GR5 := Lib.hid (GR4.out.below B45.out)
  clear h5 b5 hwc HI1 BV
  obtain ⟨Y1, hY1⟩ : ∃ U, w5.alloc (.cells #[.int .u64 9] 54) = U := ⟨_, rfl⟩
  obtain ⟨Y2, hY2⟩ : ∃ U, Y1.alloc (.cells #[.int .u64 11] 54) = U := ⟨_, rfl⟩
  obtain ⟨Y3, hY3⟩ : ∃ U, Y2.alloc (.cells #[.int .i64 1, .slice (some ⟨w5.heap.size, 0, none⟩) 1 1, .int .i64 2, .slice (some ⟨Y1.heap.size, 0, none⟩) 1 1] 42) = U := ⟨_, rfl⟩
  obtain ⟨S3, b6⟩ := sh_two9 (x := 9) (y := 11) (by decide) (by decide) (by decide) (by decide) hY1 hY2 hY3
  have HS3 := Lib.hid S3
  have B6 := Lib.hid b6
  clear S3 b6
  go_wp2_with fail
  clear hY1 hY2 hY3
  refine (pcomb_any (GR5.out.below B6.out) HS3.out (by decide)).mono ?_
  rintro e w7 hw7
  have ei : (fun i => ((fun i : Nat => if i = 0 then (⟨1, some ⟨w5.heap.size, 0, none⟩, 1, 1, 9⟩ : Shr) else ⟨2, some ⟨Y1.heap.size, 0, none⟩, 1, 1, 11⟩) i).I) = fun i => if i = 0 then 1 else 2 := by funext i; show (if i = 0 then (_ : Shr) else _).I = _; split <;> rfl
  have ev : (fun i => ((fun i : Nat => if i = 0 then (⟨1, some ⟨w5.heap.size, 0, none⟩, 1, 1, 9⟩ : Shr) else ⟨2, some ⟨Y1.heap.size, 0, none⟩, 1, 1, 11⟩) i).N) = fun i => if i = 0 then 9 else 11 := by funext i; show (if i = 0 then (_ : Shr) else _).N = _; split <;> rfl
  have hcc : cbC d.Q (fun i : Nat => if i = 0 then (⟨1, some ⟨w5.heap.size, 0, none⟩, 1, 1, 9⟩ : Shr) else ⟨2, some ⟨Y1.heap.size, 0, none⟩, 1, 1, 11⟩) 2 = 0 := by
    refine cbC_ok ?_ fun i hi => ?_
    · rw [HQ.out]
      exact ei ▸ pls_two9
    · have h7 : dl (9 : Int) ≤ 64 := dl_sm9 (by decide) (by decide)
      have h2 : dl (11 : Int) ≤ 64 := dl_sm9 (by decide) (by decide)
      rcases i with _ | i
      · exact h7
      · exact h2
  rcases hw7 with ⟨-, D7, m7, c7, rfl, h7, b7, -⟩ | ⟨hn, -⟩
  rotate_left
  · exact absurd hcc hn
  rw [ei, ev, HQ.out, cb_7] at h7
  obtain rfl : m7 = 1 := h7.len_.trans (dl_one9 (by decide) (by decide))
  have H7 := Lib.hid h7.nm
  have B67 := Lib.hid (B6.out.trans (b7.mono B6.out.size))
  have GR7 := Lib.hid (GR5.out.below B67.out)
  clear h7 b7 hcc HS3 ei ev B6
  go_wp2_with fail
  refine (pcomb_any GR7.out (Shs.nil w7 fun _ => ⟨0, none, 0, 0, 0⟩) (by decide)).mono ?_
  rintro e w8 hw8
  have hcd : cbC d.Q (fun _ => (⟨0, none, 0, 0, 0⟩ : Shr)) 0 = 1 := cbC_arg fun k => by have := k.1; omega
  rw [hcd] at hw8
  rcases hw8 with ⟨hn, -⟩ | ⟨-, rfl, b8⟩
  · exact absurd hn (by decide)
  have B78 := Lib.hid b8
  have B58 := Lib.hid (B67.out.trans (b8.mono B67.out.size))
  have B48 := Lib.hid (B45.out.trans (B58.out.mono B45.out.size))
  have cl := (B48.out.cell (p := ⟨gs, os + 2 * 2 + 1, none⟩) LG.out).trans c5.out
  rw [TN.out] at cl
  have e13 := one9_any (T2.out.below B48.out) 13 V13.out
  have e2' := one9_any (H5.out.below B58.out) 2 rfl
  have e7 := one9_any (H7.out.below B78.out) 7 rfl
  have E13 := Lib.hid e13
  have E2 := Lib.hid e2'
  have E7 := Lib.hid e7
  have BF := Lib.hid (B4.out.trans (B48.out.mono B4.out.size))
  clear b8 hcd e13 e2' e7 B78 B58 B48 GR7 GR5 GR4
  go_wp2_with fail
  refine E13.out.mono ?_
  rintro e w9 ⟨rfl, rfl⟩
  go_wp2_with fail
  refine E2.out.mono ?_
  rintro e w9 ⟨rfl, rfl⟩
  go_wp2_with fail
  refine E7.out.mono ?_
  rintro e w9 ⟨rfl, rfl⟩
  go_wp2_with fail
  go_ret
  exact ⟨rfl, BF.out⟩
/-- A number of at most 40 digits. -/
def ScP (N : Int) (A : Option Addr) (n c : Nat) (w : World) (e : Ending) (w' : World) : Prop := ∃ m, e = .returned (.slice A m c) ∧ m ≤ 40 ∧ m ≤ n ∧ Nm w A m c N ∧ dl N ≤ 64 ∧ w = w'
end Go.Proofs.Ytkecfdeepmhggaa
/-
  Helpers of layer 9's own laws: a scalar of at most 40 digits; lists of such; the group that a law speaks of.
-/
namespace Go.Proofs.Ytkecfdeepmhggaa
open Go.RowKit
set_option linter.unusedVariables false
/-- A number of 40 digits at most. -/
def scN (s : Nsl) : Nsl := if 40 < s.n then ⟨s.A, 40, s.c, s.N % W ^ 40⟩ else s
theorem Nm.take9 {w : World} {A : Option Addr} {n c : Nat} {N : Int} (h : Nm w A n c N) {m : Nat} (hm : m ≤ n) : Nm w A m c (N % W ^ m) := by
  obtain ⟨⟨xs, h1, h2, h3⟩, h4, h5, h6⟩ := h
  have hl := h1.len
  have ht : (xs.take m).length = m := by rw [List.length_take]; omega
  have hd : Dig W (xs.take m) := fun x hx => h2 x (List.mem_of_mem_take hx)
  have hv : val W (xs.take m) = N % W ^ m := by
    have e := val_append W (xs.take m) (xs.drop m)
    rw [List.take_append_drop, ht, h3] at e
    have b1 := val_lt (b := W) (by decide) hd
    rw [ht] at b1
    rw [e, Int.add_mul_emod_self_left]
    exact (Int.emod_eq_of_lt (val_nonneg (by decide) hd) b1).symm
  exact ⟨⟨xs.take m, h1.take hm, hd, hv⟩, by omega, by omega, hv ▸ val_nonneg (by decide) hd⟩
theorem Nm.scN {w : World} {s : Nsl} (h : Nm w s.A s.n s.c s.N) : Nm w (scN s).A (scN s).n (scN s).c (scN s).N := by
  unfold Go.Proofs.Ytkecfdeepmhggaa.scN
  split
  · exact h.take9 (m := 40) (by omega)
  · exact h
theorem scN_le (s : Nsl) : (scN s).n ≤ 40 := by
  unfold scN
  split
  · exact Nat.le_refl _
  · omega
theorem Nm.dlsc {w : World} {s : Nsl} (h : Nm w s.A s.n s.c s.N) : dl (Go.Proofs.Ytkecfdeepmhggaa.scN s).N ≤ 64 := by
  have := h.scN.dl_le
  have := scN_le s
  omega
theorem Nm.possc {w : World} {s : Nsl} (h : Nm w s.A s.n s.c s.N) : 0 ≤ (Go.Proofs.Ytkecfdeepmhggaa.scN s).N := h.scN.pos
theorem scalar_any (s : Nsl) (w : World) (hc : s.n ≤ s.c) : Calls Try.prog 10 #[.slice s.A s.n s.c] w fun e w' => e = .returned (.slice (scN s).A (scN s).n (scN s).c) ∧ w = w' := by
  obtain ⟨A, n, c, N⟩ := s
  simp only at hc
  unfold scN
  simp only
  by_cases g : 40 < n
  · have d1 : decide ((40 : Int) < (n : Int)) = true := by simp; omega
    rw [if_pos g]
    go_enter Try.func10, Try.ntmps10
    have hnc2 : (40 : Int) ≤ (c : Int) := by omega
    go_wp2_with fail
    go_ret
    exact ⟨rfl, rfl⟩
  · have d1 : decide ((40 : Int) < (n : Int)) = false := by simp; omega
    rw [if_neg g]
    go_enter Try.func10, Try.ntmps10
    go_wp2_with fail
    go_ret
    exact ⟨rfl, rfl⟩
/-! ### Lists of numbers, side by side -/
theorem one_at9a (w : World) (u : Value) (t : TypeId) : (w.alloc (.cells #[u] t)).cell? ⟨w.heap.size, 0, none⟩ = some u := by simp [World.cell?_alloc_at]
theorem infoN9a : (Try.prog.info? 25).map (fun i => (i.zero, i.size, i.bytes)) = some (some (.slice none 0 0), 1, 24) := by kernel_rfl
theorem Owg.congr9 {κ : Type} {K : Kd κ} {e : TypeId} {w : World} {base : Nat} {v : Value} {n : Nat} {S T : Nat → κ} (h : Owg K e w base v n S) (he : ∀ i, i < n → S i = T i) : Owg K e w base v n T :=
  ⟨by
    have e1 : owgC K T n = owgC K S n := List.map_congr_left fun i hi => by rw [he i (List.mem_range.1 hi)]
    rw [e1]; exact h.own, fun i hi => he i hi ▸ h.at_ i hi, fun i hi => he i hi ▸ h.els i hi⟩
theorem Lst.congr9 {κ : Type} {K : Kd κ} {e : TypeId} {k : Nat} {c : Nat → Nat} {w : World} {base : Nat} {v : Value} {n : Nat} {S T : Nat → κ} (h : Lst K e k c w base v n S) (he : ∀ i, i < n → S i = T i) : Lst K e k c w base v n T :=
  ⟨h.l.congr9 he, h.row, fun i hi => he i hi ▸ h.con i hi⟩
theorem snoc_self9 {κ : Type} (S : Nat → κ) (n : Nat) : ∀ i, i < n + 1 → snocG S n (S n) i = S i := fun i hi => by
  rcases Nat.lt_or_ge i n with g | g
  · exact snocG_lt g
  · obtain rfl : i = n := by omega
    exact snocG_at
/-- What was there at the start has no colour. -/
def Old9 (w : World) (c : Nat → Nat) : Prop := ∀ b, b < w.heap.size → c b = 0
theorem Old9.same {w W : World} {c c' : Nat → Nat} (h : Old9 w c) (hs : SameC W c c') (hb : w.heap.size ≤ W.heap.size) : Old9 w c' := fun b g => (hs b (by omega)).trans (h b g)
theorem Kd.other9 {κ : Type} {K : Kd κ} {w w' : World} {c : Nat → Nat} {s : κ} (h : K.At w s) (hc : ∀ b, K.Bl s b → c b = 0) {v2 : Value} {k2 : Nat} (hg : w.grownBy w' v2.ownBlock) (h2 : ∀ g, v2.ownBlock = some g → c g = k2) (h0 : k2 ≠ 0) : K.At w' s :=
  K.stay h hg.size fun b hb => hg.block b (K.lt h hb) fun e => by have := h2 b e.symm; have := hc b hb; omega
end Go.Proofs.Ytkecfdeepmhggaa
