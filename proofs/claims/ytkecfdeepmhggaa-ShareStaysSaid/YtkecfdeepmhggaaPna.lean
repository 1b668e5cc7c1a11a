/-
  Several texts in one: P9a, P9b, P9m, P9w.
-/
import Derived.Test.YtkecfdeepmhggaaGro
import Derived.Test.YtkecfdeepmhggaaPkg
import Derived.Test.YtkecfdeepmhggaaRfo
import Derived.Test.YtkecfdeepmhggaaSq
import Derived.Test.YtkecfdeepmhggaaOwk
import Derived.Test.YtkecfdeepmhggaaRfn
import Derived.Maps.OwnSet
import Derived.Carry
import Derived.Test.YtkecfdeepmhggaaPkm
import Derived.Test.YtkecfdeepmhggaaNin
import Derived.Deep.RegionLaw
/-
  Layer 9, the program: isPolynomial, isIndex, number, tellsApart.
-/
namespace Go.Proofs.Ytkecfdeepmhggaa
open Go.RowKit
set_option linter.unusedVariables false
theorem pindex_any (i : Int) (w : World) : Calls Try.prog 32 #[.int .i64 i] w fun e w' => e = .returned (.bool (decide (PlI i))) ∧ w = w' := by
  rcases Int.lt_or_le i 1 with g | g
  · have e1 : decide (1 ≤ i) = false := by simp; omega
    have e2 : decide (PlI i) = false := decide_eq_false fun q => by have := q.1; omega
    go_enter Try.func32, Try.ntmps32
    go_wp2_with fail
    go_ret
    exact ⟨by rw [e2]; rfl, rfl⟩
  · have e1 : decide (1 ≤ i) = true := by simp; omega
    have e2 : decide (PlI i) = decide (i ≤ 255) := by rw [decide_eq_decide]; unfold PlI; omega
    go_enter Try.func32, Try.ntmps32
    go_wp2_with fail
    go_ret
    exact ⟨by rw [e2]; rfl, rfl⟩
theorem ppoly_any (b : Nat) (i : Int) (w : World) : Calls Try.prog 31 #[.pointer (some ⟨b, 0, none⟩), .int .i64 i] w fun e w' => e = .returned (.bool (decide (1 ≤ i ∧ i ≤ 32))) ∧ w = w' := by
  rcases Int.lt_or_le i 1 with g | g
  · have e1 : decide (1 ≤ i) = false := by simp; omega
    have e2 : decide (1 ≤ i ∧ i ≤ 32) = false := decide_eq_false fun q => by have := q.1; omega
    go_enter Try.func31, Try.ntmps31
    go_wp2_with fail
    go_ret
    exact ⟨by rw [e2]; rfl, rfl⟩
  · have e1 : decide (1 ≤ i) = true := by simp; omega
    have e2 : decide (1 ≤ i ∧ i ≤ 32) = decide (i ≤ 32) := by rw [decide_eq_decide]; omega
    go_enter Try.func31, Try.ntmps31
    go_wp2_with fail
    go_ret
    exact ⟨by rw [e2]; rfl, rfl⟩
/-- An index as a number: a new cell. -/
theorem pnum_any (i : Int) (h0 : 0 ≤ i) (h1 : i ≤ 255) (w : World) : Calls Try.prog 59 #[.int .i64 i] w fun e w' => e = .returned (.slice (some ⟨w.heap.size, 0, none⟩) 1 1) ∧ w' = w.alloc (.cells #[.int .u64 i] 54) := by
  have e1 : IntKind.u64.wrap i = i := IntWalk.u64_in _ (by omega)
  go_enter Try.func59, Try.ntmps59
  go_wp2_with fail
  go_ret
  exact ⟨rfl, rfl⟩
theorem num9 (w : World) {x : Int} (h0 : 0 ≤ x) (h1 : x ≤ 255) : Nm (w.alloc (.cells #[.int .u64 x] 54)) (some ⟨w.heap.size, 0, none⟩) 1 1 x :=
  lit9 w h0 (by have : (W : Int) = 18446744073709551616 := by decide
                omega)
theorem Gr.q255 {w : World} {b : Nat} {d : Gd} (h : Gr w b d) : 255 < d.Q := by
  have h1 := h.safe.q3
  have h2 := h.big
  rcases Int.lt_or_le 255 d.Q with g | g
  · exact g
  · have := (nb_iff (N := d.Q) (by omega) 8).2 (by have : (2 : Int) ^ 8 = 256 := by decide
                                                   omega)
    omega
theorem ptells_any {w : World} {b : Nat} {d : Gd} (h : Gr w b d) : Calls Try.prog 62 #[.pointer (some ⟨b, 0, none⟩)] w fun e w' => e = .returned (.bool true) ∧ Below w.heap.size w w' := by
  have Q5 := Lib.hid h.q255
  go_enter Try.func62, Try.ntmps62
  go_wp2_with fail
  refine (gq_any h.toGr0).mono ?_
  rintro e w1 ⟨B, m, cap, rfl, hc, hb, -⟩
  have HB := Lib.hid hb
  have hm := hc.len_
  rcases Nat.lt_or_ge 1 m with g | g
  · have e1 : decide ((1 : Int) < (m : Int)) = true := by simp; omega
    clear hb hc hm
    go_wp2_with fail
    go_ret
    exact ⟨rfl, HB.out⟩
  · have hp : 0 < m := by
      have h0 := dl_zero (N := d.Q) (by have := Q5.out; omega)
      have := Q5.out
      omega
    obtain rfl : m = 1 := by omega
    have e1 : decide ((1 : Int) < ((1 : Nat) : Int)) = false := by decide
    obtain ⟨bb, off, x, rfl, -, hx, hcell⟩ := hc.rd.at_ (j := 0) hp
    rw [Nat.add_zero] at hcell
    have hv := hc.pos
    have hl : (dg W d.Q).length = 1 := hm.symm
    have hx2 : x = d.Q := by
      have h3 := val_dg W_two hv
      obtain ⟨y, hy⟩ : ∃ y, dg W d.Q = [y] := List.length_eq_one_iff.1 hl
      rw [hy] at hx h3
      have : y = x := by simpa using hx
      subst this
      simpa [val] using h3
    have e2 : decide ((255 : Int) < x) = true := by rw [hx2]; simpa using Q5.out
    clear hb hc hm hv hl hx2 hx
    go_wp2_with fail
    go_ret
    exact ⟨rfl, HB.out⟩
end Go.Proofs.Ytkecfdeepmhggaa
/-
  Layer 9, the program: commitments; G's power by a scalar that is too long.
-/
namespace Go.Proofs.Ytkecfdeepmhggaa
open Go.RowKit
set_option linter.unusedVariables false
section
variable {w w' : World} {b : Nat} {d : Gd} {A A' : Option Addr} {n c n' c' : Nat} {X Y : Int}
theorem gpower_long (h : Gr0 w b d) (s : Value) (ha' : Nm w A' n' c' Y) (ly : 64 < dl Y) :
    Calls Try.prog 60 #[.pointer (some ⟨b, 0, none⟩), s, .slice A' n' c'] w (Err1 2 w) := by
  have q1 := h.c1
  go_enter Try.func60, Try.ntmps60
  go_wp2_with fail
  refine (div_long ha' h.q.nm (.inl ly)).mono ?_
  rintro e w1 ⟨rfl, b1⟩
  have B1 := Lib.hid b1
  clear b1
  go_wp2
  go_ret2
  exact ⟨rfl, B1.out⟩
theorem gbase_long (h : Gr w b d) (ha' : Nm w A' n' c' Y) (ly : 64 < dl Y) :
    Calls Try.prog 35 #[.pointer (some ⟨b, 0, none⟩), .slice A' n' c'] w (Err1 2 w) := by
  have q2 := h.c2
  go_enter Try.func35, Try.ntmps35
  go_wp2_with fail
  refine (gpower_long h.toGr0 _ ha' ly).mono ?_
  rintro e w3 ⟨rfl, b3⟩
  have B3 := Lib.hid b3
  clear b3
  go_wp2
  go_ret2
  exact ⟨rfl, B3.out⟩
end
theorem inN9 : (Try.prog.info? 25).map (fun i => (i.zero, i.size, i.bytes)) = some (some (.slice none 0 0), 1, 24) := by kernel_rfl
theorem mdN9 (n : Nat) : madeCells (Value.cells (.slice none 0 0)) (n * 1) = (List.replicate n (Value.slice none 0 0)).toArray := by
  apply Array.ext'
  rw [Nat.mul_one]
  show (madeCells #[Value.slice none 0 0] n).toList = _
  rw [toList_madeCells_one]
theorem run_makeN9 (n : Nat) {C : Int} (hC : C = n) (hn : n ≤ 1000000) (w : World) : (Instr.makeSlice 22 (.int .i64 C) (.int .i64 C)).run Try.prog w =
    .ok (.slice (some ⟨w.heap.size, 0, none⟩) n n) (w.alloc (.cells (List.replicate n (Value.slice none 0 0)).toArray 25)) := by
  subst hC
  obtain ⟨i0, hi, hz0, hz1, hz2⟩ := info_parts inN9
  have hr := run_make (P := Try.prog) w 22 25 i0 (.slice none 0 0) Try.underlying22 hi hz0 .i64 .i64 n n (by omega) (by omega) (by rw [hz2]; omega) (by omega)
  rw [hz1, mdN9] at hr
  simpa using hr
/-- Commitments: G to the power of each coefficient. -/
def ComF (P Q G : Int) (S U : Nat → Nsl) (t : Nat) : Prop := ∀ u, u < t → (U u).N = gx P Q G (S u).N ∧ (U u).n = dl (U u).N
/-- Numbers in new memory: newer than base. -/
structure NsB (w : World) (base : Nat) (A : Option Addr) (n c : Nat) (U : Nat → Nsl) : Prop where
  ns : Ns w A n c U
  top : ∀ a, A = some a → base ≤ a.block
  els : ∀ i, i < n → ∀ a, (U i).A = some a → base ≤ a.block
theorem NsB.below {w w' : World} {base : Nat} {A : Option Addr} {n c : Nat} {U : Nat → Nsl} (h : NsB w base A n c U) (hb : Below w.heap.size w w') : NsB w' base A n c U := ⟨h.ns.below hb, h.top, h.els⟩
/-- What commitments answers. -/
def ComP (P Q G : Int) (S : Nat → Nsl) (n : Nat) (w : World) (e : Ending) (w' : World) : Prop :=
  ((∃ i, i < n ∧ 64 < dl (S i).N) ∧ e = .returned (.tuple #[.slice none 0 0, .iface 51 (.int .i64 2)]) ∧ Below w.heap.size w w') ∨
  ((∀ i, i < n → dl (S i).N ≤ 64) ∧ ∃ A c U, e = .returned (.tuple #[.slice A n c, .nilIface]) ∧ NsB w' w.heap.size A n c U ∧ ComF P Q G S U n ∧ Below w.heap.size w w')
/-- The loop. -/
def CmR (P Q G : Int) (S : Nat → Nsl) (n : Nat) (w : World) (i : Value) (wr : World) : Prop :=
  ∃ (j : Nat) (cur : Array Value) (U : Nat → Nsl), j ≤ n ∧ i = .int .i64 j ∧ wr.heap[w.heap.size]? = some (.cells cur 25 (0, 0)) ∧ cur.size = n ∧
    (∀ p, p < j → cur[p]? = some (.slice (U p).A (U p).n (U p).c) ∧ Cn wr (U p).A (U p).n (U p).c (U p).N ∧ ∀ a, (U p).A = some a → w.heap.size < a.block) ∧ ComF P Q G S U j ∧ (∀ p, p < j → dl (S p).N ≤ 64) ∧ Below w.heap.size w wr
set_option maxRecDepth 100000 in
theorem neq0_9 : ∀ w : World, (binOp .neq 29 .nilIface .nilIface).run Try.prog w = .ok (.bool false) w := fun _ => rfl
set_option maxRecDepth 100000 in
theorem neq1_9 (c : Int) : ∀ w : World, (binOp .neq 29 (.iface 51 (.int .i64 c)) .nilIface).run Try.prog w = .ok (.bool true) w := fun _ => rfl
set_option maxHeartbeats 4000000 in
set_option maxRecDepth 100000 in
theorem pcom_any {w : World} {b : Nat} {d : Gd} {A : Option Addr} {n c : Nat} {S : Nat → Nsl} (h : Gr w b d) (hl : Ns w A n c S) (h32 : n ≤ 32) :
    Calls Try.prog 33 #[.pointer (some ⟨b, 0, none⟩), .slice A n c] w (ComP d.P d.Q d.G S n w) := by
  have hmk := fun W => run_makeN9 n (C := (n : Int)) rfl (by omega) W
  obtain ⟨Z, hZ⟩ : ∃ Z : Array Value, Z = (List.replicate n (Value.slice none 0 0)).toArray := ⟨_, rfl⟩
  rw [← hZ] at hmk
  have HZ := Lib.hid (show Z.size = n by rw [hZ]; simp)
  have HG := Lib.hid h
  have HL := Lib.hid hl
  have he0 := neq0_9
  have he1 := neq1_9 2
  clear h hl hZ
  go_enter Try.func33, Try.ntmps33
  go_wp2_with fail
  clear hmk
  go_loopw [16] (fun i wr => CmR d.P d.Q d.G S n w i wr) (fun i _ => n - (intOf i).toNat)
  case atStart => exact ⟨0, Z, fun _ => ⟨none, 0, 0, 0⟩, Nat.zero_le _, rfl, heap_alloc_new w _, HZ.out, fun p hp => absurd hp (Nat.not_lt_zero p), fun p hp => absurd hp (Nat.not_lt_zero p), fun p hp => absurd hp (Nat.not_lt_zero p), (Below.refl _ _).alloc (Nat.le_refl _) _⟩
  case round =>
    obtain ⟨j, cur, U, hj, rfl, hrow, hcs, hcl, hcf, hdl, hbw⟩ := hrel
    have HR := Lib.hid hrow
    have HCS := Lib.hid hcs
    have HCL := Lib.hid hcl
    have HCF := Lib.hid hcf
    have HDL := Lib.hid hdl
    have HB := Lib.hid hbw
    clear hrow hcs hcl hcf hdl hbw
    rcases Nat.lt_or_ge j n with hlt | hge
    · have hjm : (j : Int) < (n : Int) := by omega
      obtain ⟨bl, off, eA, hbl, hc⟩ := HL.out.ex (by omega)
      subst eA
      have hck := (HB.out.cell (p := ⟨bl, off + j, none⟩) hbl).trans (hc j hlt)
      have HN := Lib.hid ((HL.out.at_ j hlt).below HB.out)
      have hsz : w.heap.size < wr.heap.size := (Array.getElem?_eq_some_iff.1 HR.out).1
      clear hc
      rcases Nat.lt_or_ge 64 (dl (S j).N) with g | g
      · have HE := Lib.hid (show ∃ i, i < n ∧ 64 < dl (S i).N from ⟨j, hlt, g⟩)
        have HCON := Lib.hid (gbase_long (HG.out.below HB.out) HN.out g)
        clear g
        go_wp2_with fail
        refine HCON.out.mono ?_
        rintro e w4 ⟨rfl, h4⟩
        have H4 := Lib.hid (HB.out.trans (h4.mono HB.out.size))
        clear h4
        go_wp2_with fail
        go_ret2
        exact .inl ⟨HE.out, rfl, H4.out⟩
      · have HD := Lib.hid g
        have HCON := Lib.hid (gbase_any (HG.out.below HB.out) HN.out g)
        clear g
        go_wp2_with fail
        refine HCON.out.mono ?_
        rintro e w4 ⟨B, q, cap, rfl, h1, h2, h3⟩
        have hrow4 : w4.heap[w.heap.size]? = some (.cells cur 25 (0, 0)) := (h2.block _ hsz).trans HR.out
        have hf4 := frozen_of_row w4 w.heap.size j cur _ hrow4
        have hc4 : w4.cell? ⟨w.heap.size, j, none⟩ = some (cur[j]'(by rw [HCS.out]; exact hlt)) := by
          rw [cell_of_row w4 _ _ _ _ _ hrow4]; exact Array.getElem?_eq_getElem _
        have H1 := Lib.hid h1
        have H2 := Lib.hid h2
        have H3 := Lib.hid h3
        have HR4 := Lib.hid hrow4
        clear h1 h2 h3 hrow4
        go_wp2_with fail
        go_roundw
        case rel =>
          have hx : Bo w.heap.size w4 (w4.setCell ⟨w.heap.size, j, none⟩ (.slice B q cap)) := Bo.set _ _ _ _
          have hnew : ∀ a, B = some a → w.heap.size < a.block := fun a ha => Nat.lt_of_lt_of_le hsz (H3.out a ha)
          refine ⟨j + 1, cur.setIfInBounds j (.slice B q cap), snocG U j ⟨B, q, cap, d.G ^ (S j).N.toNat % d.P⟩, by omega, by go_num, heap_setCell_same w4 _ _ _ _ _ HR4.out, by simp [HCS.out], fun p hp => ?_, fun p hp => ?_, fun p hp => ?_, hx.below (HB.out.trans (H2.out.mono HB.out.size)) (Nat.le_refl _)⟩
          · rcases Nat.lt_or_ge p j with g | g
            · rw [snocG_lt g]
              obtain ⟨k1, k2, k3⟩ := HCL.out p g
              exact ⟨by rw [Array.getElem?_setIfInBounds_ne (by omega)]; exact k1, hx.cn (k2.below H2.out) (fun a ha => by have := k3 a ha; omega), k3⟩
            · obtain rfl : p = j := by omega
              rw [snocG_at]
              exact ⟨by rw [Array.getElem?_setIfInBounds_self_of_lt (by rw [HCS.out]; exact hlt)], hx.cn H1.out (fun a ha => by have := hnew a ha; omega), hnew⟩
          · rcases Nat.lt_or_ge p j with g | g
            · rw [snocG_lt g]; exact HCF.out p g
            · obtain rfl : p = j := by omega
              rw [snocG_at]
              have hs := HG.out.safe
              exact ⟨gx_pow8 hs.p2 hs.q1 HG.out.el HN.out.pos, H1.out.len_⟩
          · rcases Nat.lt_or_ge p j with g | g
            · exact HDL.out p g
            · obtain rfl : p = j := by omega
              exact HD.out
        case measure => simp [intOf]; omega
    · obtain rfl : j = n := by omega
      have hjm : decide ((j : Int) < (j : Int)) = false := by simp
      go_wp2_with fail
      go_ret2
      refine .inr ⟨HDL.out, _, _, U, rfl, ⟨⟨Nat.le_refl _, by omega, fun hn => ⟨w.heap.size, 0, rfl, (Array.getElem?_eq_some_iff.1 HR.out).1, fun p hp => ?_⟩, fun p hp => ((HCL.out p hp).2.1).nm⟩, fun a ha => by injection ha with ha; subst ha; exact Nat.le_refl _, fun p hp a ha => Nat.le_of_lt ((HCL.out p hp).2.2 a ha)⟩, HCF.out, HB.out⟩
      rw [Nat.zero_add, cell_of_row wr _ _ _ _ _ HR.out]
      exact (HCL.out p hp).1
end Go.Proofs.Ytkecfdeepmhggaa
/-
  Layer 9, the program: which indices occur: a map that the call makes.
-/
namespace Go.Proofs.Ytkecfdeepmhggaa
open Go.RowKit Go.Maps
set_option linter.unusedVariables false
theorem law9 : Keyed Try.prog 3 := int_keyed Try.underlying3
theorem zero9 (w : World) : (zeroValue 88).run Try.prog w = .ok (.agg #[]) w := by kernel_rfl
theorem run_makeM9 (n : Int) (w : World) : (Instr.makeMap 76 (some (.int .i64 n))).run Try.prog w = .ok (.map (some w.heap.size)) (w.alloc (.map #[] 0)) := by
  simp [Instr.makeMap, run_underlying Try.underlying76, asInt, Result.andThen, go_sem]
/-- The first t places as a set. -/
def Sx (X : Nat → Int) (t : Nat) : DataW Unit := setOf (.agg []) ((List.range t).map fun i => Lit.int .i64 (X i))
theorem Sx_zero (X : Nat → Int) : Sx X 0 = .map [] := by simp [Sx, setOf]
theorem Sx_succ (X : Nat → Int) (t : Nat) : Sx X (t + 1) = (Sx X t).put (.int .i64 (X t)) (.agg []) := by
  unfold Sx
  rw [List.range_succ, List.map_append, List.map_singleton, setOf_snoc]
theorem has_Sx (X : Nat → Int) (t : Nat) (y : Int) (s : Bool) (hs : s = true ↔ ∃ u, u < t ∧ X u = y) : Maps.has (Sx X t) (.int .i64 y) = s := by
  have h1 : Maps.has (Sx X t) (.int .i64 y) = true ↔ ∃ u, u < t ∧ X u = y := by
    unfold Sx
    rw [has_setOf _ _ _ (fun z hz => by obtain ⟨_, _, rfl⟩ := List.mem_map.1 hz; trivial), List.any_eq_true]
    constructor
    · rintro ⟨z, hz, e⟩
      obtain ⟨u, hu, rfl⟩ := List.mem_map.1 hz
      have e2 := WideAt.sameKey_eq e
      injection e2 with e3 e4
      exact ⟨u, List.mem_range.1 hu, e4⟩
    · rintro ⟨u, hu, rfl⟩
      refine ⟨_, List.mem_map.2 ⟨u, List.mem_range.2 hu, rfl⟩, ?_⟩
      show decide (IntKind.i64 = IntKind.i64 ∧ X u = X u) = true
      simp
  cases s with
  | true => exact h1.2 (hs.1 rfl)
  | false =>
    cases hh : Maps.has (Sx X t) (.int .i64 y) with
    | false => rfl
    | true => exact absurd (hs.2 (h1.1 hh)) (by simp)
/-- What indices answers. -/
def IdP (Q : Int) (X : Nat → Int) (n : Nat) (w : World) (e : Ending) (w' : World) : Prop :=
  (PlsI Q X n ∧ ∃ m, e = .returned (.tuple #[.map (some m), .nilIface]) ∧ w'.ownsMap Try.prog 3 (unitElem (H := Unit)) m n (Sx X n) ∧ Below w.heap.size w w') ∨
  (¬ PlsI Q X n ∧ e = .returned (.tuple #[.map none, .iface 51 (.int .i64 1)]) ∧ Below w.heap.size w w')
def IdR (X : Nat → Int) (n m : Nat) (w : World) (i : Value) (wr : World) : Prop :=
  ∃ t : Nat, i = .int .i64 t ∧ t ≤ n ∧ wr.ownsMap Try.prog 3 (unitElem (H := Unit)) m t (Sx X t) ∧ (∀ u, u < t → PlI (X u)) ∧ (∀ u v, u < t → v < u → X v ≠ X u) ∧ Below w.heap.size w wr
set_option maxHeartbeats 4000000 in
set_option maxRecDepth 100000 in
theorem pidx_any {w : World} {b : Nat} {d : Gd} {A : Option Addr} {n c : Nat} {X : Nat → Int} (h : Gr w b d) (hl : Ils w A n c X) :
    Calls Try.prog 38 #[.pointer (some ⟨b, 0, none⟩), .slice A n c] w (IdP d.Q X n w) := by
  have n60 := hl.c60
  have Q5 := Lib.hid h.q255
  have HG := Lib.hid h
  have HL := Lib.hid hl
  clear h hl
  go_enter Try.func38, Try.ntmps38
  rcases Nat.lt_or_ge n 1 with g1 | g1
  · have e1 : ((n : Int) == 0) = true := by simp; omega
    have NO := Lib.hid (show ¬ PlsI d.Q X n from fun q => by have := q.1; omega)
    go_wp2_with fail
    refine (ptells_any HG.out).mono ?_
    rintro e w1 ⟨rfl, b1⟩
    have B1 := Lib.hid b1
    clear b1
    go_wp2_with fail
    go_ret2
    exact .inr ⟨NO.out, rfl, B1.out⟩
  have e1 : ((n : Int) == 0) = false := by simp; omega
  rcases Nat.lt_or_ge 255 n with g2 | g2
  · have e2 : decide ((255 : Int) < (n : Int)) = true := by simp; omega
    have NO := Lib.hid (show ¬ PlsI d.Q X n from fun q => by have := q.2.1; omega)
    go_wp2_with fail
    refine (ptells_any HG.out).mono ?_
    rintro e w1 ⟨rfl, b1⟩
    have B1 := Lib.hid b1
    clear b1
    go_wp2_with fail
    go_ret2
    exact .inr ⟨NO.out, rfl, B1.out⟩
  have e2 : decide ((255 : Int) < (n : Int)) = false := by simp; omega
  obtain ⟨bA, off, rfl, hbA, hcA⟩ := HL.out.ex (by omega)
  have HC := Lib.hid hcA
  clear hcA
  have hmm := run_makeM9
  go_wp2_with fail
  refine (ptells_any HG.out).mono ?_
  rintro e w1 ⟨rfl, b1⟩
  have B1 := Lib.hid b1
  clear b1
  go_wp2_with fail
  clear hmm e1 e2
  go_loopw [34] (fun i wr => IdR X n w1.heap.size w i wr) (fun i _ => n - (intOf i).toNat)
  case atStart => exact ⟨0, rfl, Nat.zero_le _, by rw [Sx_zero]; exact World.ownsMap_made _ _ _ _, fun u h => absurd h (Nat.not_lt_zero u), fun u v h => absurd h (Nat.not_lt_zero u), B1.out.trans ((Below.refl _ _).alloc B1.out.size _)⟩
  case round =>
    obtain ⟨t, rfl, ht, hown, hpl, hne, hb⟩ := hrel
    have HB := Lib.hid hb
    have HPL := Lib.hid hpl
    have HNE := Lib.hid hne
    clear hb hpl hne
    rcases Nat.lt_or_ge t n with hlt | hge
    · have htn : (t : Int) < (n : Int) := by omega
      have hcell := (HB.out.cell (p := ⟨bA, off + t, none⟩) hbA).trans (HC.out t hlt)
      have hkey : keyOf Try.prog 3 (.int .i64 (X t)) = some (.int .i64 (X t)) := keyOf_int_mk Try.underlying3 (WalkArith.wf_i64 (HL.out.rg t hlt))
      obtain ⟨s, hs⟩ : ∃ s : Bool, s = true ↔ ∃ u, u < t ∧ X u = X t := by
        by_cases q : ∃ u, u < t ∧ X u = X t
        · exact ⟨true, fun _ => q, fun _ => rfl⟩
        · exact ⟨false, fun k => (by cases k), fun k => absurd k q⟩
      have ehas := has_Sx X t (X t) s hs
      cases s with
      | true =>
        have NO := Lib.hid (show ¬ PlsI d.Q X n from fun q => by
          obtain ⟨u, hu, e⟩ := hs.1 rfl
          exact q.2.2.2.2 t u hlt hu e)
        clear hs
        go_wp2_with (first
          | (at_lookup; refine wpList_lookup_own_unit _ rfl _ _ 76 rfl 3 88 law9 Try.underlying76 (zero9 _) w1.heap.size t _ rfl hown _ _ rfl hkey ?_; rw [ehas])
          | fail)
        go_ret2
        exact .inr ⟨NO.out, rfl, HB.out.trans ((Below.refl _ _).alloc HB.out.size _)⟩
      | false =>
        have NS := Lib.hid (show ∀ u, u < t → X u ≠ X t from fun u hu e => by have := hs.2 ⟨u, hu, e⟩; cases this)
        clear hs
        obtain ⟨p, hp⟩ : ∃ p, decide (PlI (X t)) = p := ⟨_, rfl⟩
        have HP := Lib.hid hp
        clear hp
        go_wp2_with (first
          | (at_lookup; refine wpList_lookup_own_unit _ rfl _ _ 76 rfl 3 88 law9 Try.underlying76 (zero9 _) w1.heap.size t _ rfl hown _ _ rfl hkey ?_; rw [ehas])
          | fail)
        refine (pindex_any (X t) _).mono ?_
        rintro e w2 ⟨rfl, rfl⟩
        rw [HP.out]
        cases p with
        | false =>
          have NO := Lib.hid (show ¬ PlsI d.Q X n from fun q => by
            have h1 := q.2.2.2.1 t hlt
            have h2 := of_decide_eq_false HP.out
            exact h2 h1)
          go_wp2_with fail
          go_ret2
          exact .inr ⟨NO.out, rfl, HB.out.trans ((Below.refl _ _).alloc HB.out.size _)⟩
        | true =>
          have PT := Lib.hid (of_decide_eq_true HP.out)
          go_wp2_with (first
            | (at_mapUpdate; refine wpList_mapUpdate_own _ rfl _ _ _ 76 rfl 3 88 law9 Try.underlying76 (unitElem (H := Unit)) w1.heap.size t _ rfl (hown.alloc _) (by unfold maxLen; omega) _ _ _ rfl rfl hkey _ [] unitElem_mk ?_; intro w3 hown3 hgrow3)
            | fail)
          go_roundw
          case rel =>
            refine ⟨t + 1, by go_num, by omega, by rw [Sx_succ]; exact hown3, fun u hu => ?_, fun u v hu hv => ?_, (HB.out.trans ((Below.refl _ _).alloc HB.out.size _)).grown hgrow3 (by have := HB.out.size; simp; omega) (fun j hj => by injection hj with hj; have := B1.out.size; omega)⟩
            · rcases Nat.lt_or_ge u t with g | g
              · exact HPL.out u g
              · obtain rfl : u = t := by omega
                exact PT.out
            · rcases Nat.lt_or_ge u t with g | g
              · exact HNE.out u v g hv
              · obtain rfl : u = t := by omega
                exact NS.out v hv
          case measure => simp [intOf]; omega
    · obtain rfl : t = n := by omega
      have htn : decide ((t : Int) < (t : Int)) = false := by simp
      go_wp2_with fail
      go_ret2
      exact .inl ⟨⟨g1, g2, Q5.out, HPL.out, fun i j hi hj => HNE.out i j hi hj⟩, _, rfl, hown, HB.out⟩
end Go.Proofs.Ytkecfdeepmhggaa
/-
  Layer 9, the program: a place's weight; what a share adds to the secret.
-/
namespace Go.Proofs.Ytkecfdeepmhggaa
open Go.RowKit
set_option linter.unusedVariables false
/-! ### Numbers -/
def apN (Q : Int) (X : Nat → Int) (y : Int) : Nat → Int
  | 0 => 1
  | n + 1 => if X n = y then apN Q X y n else apN Q X y n * X n % Q
def bpN (Q : Int) (X : Nat → Int) (y : Int) : Nat → Int
  | 0 => 1
  | n + 1 => if X n = y then bpN Q X y n else bpN Q X y n * ((X n - y) % Q) % Q
def vpN (Q : Int) (X : Nat → Int) (y : Int) : Nat → Int
  | 0 => 1
  | n + 1 => if X n = y then vpN Q X y n else vpN Q X y n * vdoc Q (X n) y
theorem apN_rng {Q y : Int} {X : Nat → Int} (hQ : 2 ≤ Q) : ∀ n, 0 ≤ apN Q X y n ∧ apN Q X y n < Q
  | 0 => by simp only [apN]; omega
  | n + 1 => by
    rw [apN]
    split
    · exact apN_rng hQ n
    · exact ⟨Int.emod_nonneg _ (by omega), Int.emod_lt_of_pos _ (by omega)⟩
theorem bpN_rng {Q y : Int} {X : Nat → Int} (hQ : 2 ≤ Q) : ∀ n, 0 ≤ bpN Q X y n ∧ bpN Q X y n < Q
  | 0 => by simp only [bpN]; omega
  | n + 1 => by
    rw [bpN]
    split
    · exact bpN_rng hQ n
    · exact ⟨Int.emod_nonneg _ (by omega), Int.emod_lt_of_pos _ (by omega)⟩
theorem wgN_two {Q y : Int} {X : Nat → Int} : ∀ n, Eqm Q (wgN Q X y n) (apN Q X y n * vpN Q X y n)
  | 0 => Eqm.of_eq (by simp [wgN, apN, vpN])
  | n + 1 => by
    rw [wgN, apN, vpN]
    split
    · exact wgN_two n
    · refine (Eqm.mod _ _).trans ?_
      have h1 := ((wgN_two (Q := Q) (y := y) (X := X) n).mul (Eqm.refl Q (X n))).mul (Eqm.refl Q (vdoc Q (X n) y))
      refine h1.trans ?_
      have h2 := (Eqm.mod Q (apN Q X y n * X n)).symm.mul (Eqm.refl Q (vpN Q X y n * vdoc Q (X n) y))
      refine (Eqm.of_eq ?_).trans h2
      grind
theorem bpN_inv {Q y : Int} {X : Nat → Int} (h : Pr Q) (h255 : 255 < Q) (y0 : PlI y) : ∀ n, (∀ i, i < n → PlI (X i)) → Eqm Q (bpN Q X y n * vpN Q X y n) 1
  | 0, _ => Eqm.of_eq (by simp [bpN, vpN])
  | n + 1, hX => by
    rw [bpN, vpN]
    have ih := bpN_inv h h255 y0 n fun i hi => hX i (by omega)
    split
    · exact ih
    · rename_i hne
      have h1 := hX n (by omega)
      have hd : ¬ Q ∣ X n - y := fun d => by
        unfold PlI at h1 y0
        rcases Int.lt_or_lt_of_ne hne with g | g
        · have := Int.le_of_dvd (a := Q) (b := y - X n) (by omega) (by have := Int.dvd_neg.2 d; rwa [Int.neg_sub] at this)
          omega
        · have := Int.le_of_dvd (a := Q) (by omega) d
          omega
      have h2 := vdoc_inv h hd
      have h3 := (Eqm.mod Q (bpN Q X y n * ((X n - y) % Q))).trans ((Eqm.refl Q (bpN Q X y n)).mul (Eqm.mod Q (X n - y)))
      refine (h3.mul (Eqm.refl Q (vpN Q X y n * vdoc Q (X n) y))).trans ?_
      have h4 := ih.mul h2
      rw [Int.one_mul] at h4
      refine (Eqm.of_eq ?_).trans h4
      grind
theorem wgN_prog {Q y U : Int} {X : Nat → Int} {n : Nat} (h : Pr Q) (h255 : 255 < Q) (y0 : PlI y) (hX : ∀ i, i < n → PlI (X i)) (hU : Eqm Q (bpN Q X y n * U) 1) : apN Q X y n * U % Q = wgN Q X y n := by
  have h1 := bpN_inv h h255 y0 n hX
  have h2 : Eqm Q U (vpN Q X y n) := by
    have h3 := hU.mul (Eqm.refl Q (vpN Q X y n))
    have h4 := h1.mul (Eqm.refl Q U)
    rw [Int.one_mul] at h3 h4
    have e : bpN Q X y n * U * vpN Q X y n = bpN Q X y n * vpN Q X y n * U := by grind
    rw [e] at h3
    exact h4.symm.trans h3
  have h5 : Eqm Q (apN Q X y n * U % Q) (wgN Q X y n) := (Eqm.mod _ _).trans (((Eqm.refl Q (apN Q X y n)).mul h2).trans (wgN_two n).symm)
  have r := wgN_rng (x := X) (y := y) (show 2 ≤ Q by omega) n
  exact h5.eq (Int.emod_nonneg _ (by omega)) (Int.emod_lt_of_pos _ (by omega)) r.1 r.2
theorem bpN_pos {Q y : Int} {X : Nat → Int} {n : Nat} (h : Pr Q) (h255 : 255 < Q) (y0 : PlI y) (hX : ∀ i, i < n → PlI (X i)) : 0 < bpN Q X y n := by
  have r := bpN_rng (X := X) (y := y) (show 2 ≤ Q by omega) n
  rcases Int.lt_or_le 0 (bpN Q X y n) with g | g
  · exact g
  · have e : bpN Q X y n = 0 := by omega
    have h1 := bpN_inv h h255 y0 n hX
    rw [e, Int.zero_mul] at h1
    have h2 := h1.emod
    rw [Int.zero_emod, Int.emod_eq_of_lt (by decide) (by omega)] at h2
    omega
/-! ### Weight -/
def WtR (Q : Int) (X : Nat → Int) (n : Nat) (y : Int) (w : World) (a b i : Value) (wr : World) : Prop :=
  ∃ (t : Nat) (B1 : Option Addr) (m1 c1 : Nat) (B2 : Option Addr) (m2 c2 : Nat), a = .slice B1 m1 c1 ∧ b = .slice B2 m2 c2 ∧ i = .int .i64 t ∧ t ≤ n ∧ Cn wr B1 m1 c1 (apN Q X y t) ∧ Cn wr B2 m2 c2 (bpN Q X y t) ∧ Below w.heap.size w wr
set_option maxHeartbeats 4000000 in
set_option maxRecDepth 100000 in
theorem pweight_any {w : World} {b : Nat} {d : Gd} {A : Option Addr} {n c : Nat} {X : Nat → Int} (h : Gr w b d) (hl : Ils w A n c X) (hp : PlsI d.Q X n) (y : Int) (hy : PlI y) :
    Calls Try.prog 46 #[.pointer (some ⟨b, 0, none⟩), .slice A n c, .int .i64 y] w (Ans (wgN d.Q X y n) w) := by
  have n60 := hl.c60
  have n1 := hp.1
  have Q5 := Lib.hid h.q255
  have QP := Lib.hid h.safe.qr
  have HG := Lib.hid h
  have HL := Lib.hid hl
  have HP := Lib.hid hp
  have HY := Lib.hid hy
  have LQ : Hid (∀ z : Int, 0 ≤ z → z < d.Q → dl z ≤ 64) := Lib.hid fun z z0 z1 => by
    have h1 := dl_mono z0 (Int.le_of_lt z1)
    have := h.lq
    omega
  have LY : dl y ≤ 64 := dl_sm9 (by have := hy.1; omega) hy.2
  obtain ⟨bA, off, rfl, hbA, hcA⟩ := hl.ex (by omega)
  have HC := Lib.hid hcA
  have he0 := neq0_9
  clear h hl hp hy hcA
  go_enter Try.func46, Try.ntmps46
  go_wp2_with fail
  have bl : Below w.heap.size w ((w.alloc (.cells #[.int .u64 1] 54)).alloc (.cells #[.int .u64 1] 54)) := ((Below.refl _ w).alloc (Nat.le_refl _) _).alloc (by simp) _
  have k1 := (lit_cn w 1 (by decide) (by decide)).alloc (.cells #[.int .u64 1] 54)
  have k2 := lit_cn (w.alloc (.cells #[.int .u64 1] 54)) 1 (by decide) (by decide)
  rw [World.size_alloc] at k2
  refine (gscalars_any (HG.out.below bl).toGr0).mono ?_
  rintro e w1 ⟨bs, Am, cm, low, Bm, cB, Sm, cS, rfl, md, b1, -⟩
  have MD := Lib.hid md
  have B1 := Lib.hid (bl.trans (b1.mono bl.size))
  have K1 := Lib.hid (k1.below b1)
  have K2 := Lib.hid (k2.below b1)
  clear md bl b1 k1 k2
  go_wp2_with fail
  go_loopw [8, 9, 23] (fun a b i wr => WtR d.Q X n y w1 a b i wr) (fun _ _ i _ => n - (intOf i).toNat)
  case atStart => exact ⟨0, _, _, _, _, _, _, rfl, rfl, rfl, Nat.zero_le _, K1.out, K2.out, Below.refl _ _⟩
  case round =>
    obtain ⟨t, D1, m1, c1, D2, m2, c2, rfl, rfl, rfl, ht, ha, hb, hw⟩ := hrel
    have HA := Lib.hid ha
    have HB := Lib.hid hb
    have HW := Lib.hid hw
    have WW := Lib.hid (B1.out.trans (hw.mono B1.out.size))
    clear ha hb hw
    rcases Nat.lt_or_ge t n with hlt | hge
    · have htn : (t : Int) < (n : Int) := by omega
      have hcell := (WW.out.cell (p := ⟨bA, off + t, none⟩) hbA).trans (HC.out t hlt)
      by_cases q : X t = y
      · have e3 : (X t == y) = true := by simp [q]
        have QE := Lib.hid q
        clear q
        go_wp2_with fail
        go_roundw
        case rel => exact ⟨t + 1, _, _, _, _, _, _, rfl, rfl, by go_num, by omega, by rw [apN, if_pos QE.out]; exact HA.out, by rw [bpN, if_pos QE.out]; exact HB.out, HW.out⟩
        case measure => simp [intOf]; omega
      · have e3 : (X t == y) = false := by simp [q]
        have QE := Lib.hid q
        have PT := HP.out.2.2.2.1 t hlt
        have LT : dl (X t) ≤ 64 := dl_sm9 (by have := PT.1; omega) PT.2
        clear q
        go_wp2_with fail
        refine (pnum_any (X t) (by have := PT.1; omega) PT.2 _).mono ?_
        rintro e wN ⟨rfl, hwN⟩
        have g1 := Lib.hid (show Below wr.heap.size wr wN from hwN ▸ (Below.refl _ _).alloc (Nat.le_refl _) _)
        have n1' := Lib.hid (show Nm wN (some ⟨wr.heap.size, 0, none⟩) 1 1 (X t) from hwN ▸ num9 wr (by have := PT.1; omega) PT.2)
        clear hwN
        go_wp2_with fail
        refine (pnum_any y (by have := HY.out.1; omega) HY.out.2 _).mono ?_
        rintro e wM ⟨rfl, hwM⟩
        have g2 := Lib.hid (show Below wN.heap.size wN wM from hwM ▸ (Below.refl _ _).alloc (Nat.le_refl _) _)
        have n2' := Lib.hid (show Nm wM (some ⟨wN.heap.size, 0, none⟩) 1 1 y from hwM ▸ num9 wN (by have := HY.out.1; omega) HY.out.2)
        have G2 := Lib.hid (g1.out.trans (g2.out.mono g1.out.size))
        clear hwM
        go_wp2_with fail
        refine (msub_any (MD.out.below (HW.out.trans (G2.out.mono HW.out.size))) (n1'.out.below g2.out) n2'.out LT LY).mono ?_
        rintro e w3 ⟨D3, m3, c3, rfl, h3, b3, -⟩
        have G3 := Lib.hid (G2.out.trans (b3.mono G2.out.size))
        have H3 := Lib.hid h3
        clear h3 b3 g1 n1' g2 n2' G2
        have L3 : dl ((X t - y) % d.Q) ≤ 64 := LQ.out _ (Int.emod_nonneg _ (by have := Q5.out; omega)) (Int.emod_lt_of_pos _ (by have := Q5.out; omega))
        have LA : dl (apN d.Q X y t) ≤ 64 := LQ.out _ (apN_rng (by have := Q5.out; omega) t).1 (apN_rng (by have := Q5.out; omega) t).2
        have LB : dl (bpN d.Q X y t) ≤ 64 := LQ.out _ (bpN_rng (by have := Q5.out; omega) t).1 (bpN_rng (by have := Q5.out; omega) t).2
        go_wp2_with fail
        refine (pnum_any (X t) (by have := PT.1; omega) PT.2 _).mono ?_
        rintro e w4 ⟨rfl, hw4⟩
        have g4 := Lib.hid (show Below w3.heap.size w3 w4 from hw4 ▸ (Below.refl _ _).alloc (Nat.le_refl _) _)
        have n4 := Lib.hid (show Nm w4 (some ⟨w3.heap.size, 0, none⟩) 1 1 (X t) from hw4 ▸ num9 w3 (by have := PT.1; omega) PT.2)
        have G4 := Lib.hid (G3.out.trans (g4.out.mono G3.out.size))
        clear hw4
        go_wp2_with fail
        refine (mmul_any (MD.out.below (HW.out.trans (G4.out.mono HW.out.size))) (HA.out.below G4.out).nm n4.out LA LT).mono ?_
        rintro e w5 ⟨D5, m5, c5, rfl, h5, b5, -⟩
        have G5 := Lib.hid (G4.out.trans (b5.mono G4.out.size))
        have H5 := Lib.hid h5
        have H35 := Lib.hid ((H3.out.below g4.out).below b5)
        clear h5 b5 g4 n4 G4 G3 H3
        go_wp2_with fail
        refine (mmul_any (MD.out.below (HW.out.trans (G5.out.mono HW.out.size))) (HB.out.below G5.out).nm H35.out.nm LB L3).mono ?_
        rintro e w6 ⟨D6, m6, c6, rfl, h6, b6, -⟩
        have G6 := Lib.hid (G5.out.trans (b6.mono G5.out.size))
        have H6 := Lib.hid h6
        have H56 := Lib.hid (H5.out.below b6)
        clear h6 b6 G5 H5 H35
        go_wp2_with fail
        go_roundw
        case rel => exact ⟨t + 1, _, _, _, _, _, _, rfl, rfl, by go_num, by omega, by rw [apN, if_neg QE.out]; exact H56.out, by rw [bpN, if_neg QE.out]; exact H6.out, HW.out.trans (G6.out.mono HW.out.size)⟩
        case measure => simp [intOf]; omega
    · obtain rfl : t = n := by omega
      have htn : decide ((t : Int) < (t : Int)) = false := by simp
      have hX : ∀ i, i < t → PlI (X i) := HP.out.2.2.2.1
      have bp := bpN_pos (X := X) (y := y) (n := t) QP.out Q5.out HY.out hX
      have br := bpN_rng (X := X) (y := y) (show 2 ≤ d.Q by have := Q5.out; omega) t
      have gc : Int.gcd d.Q (bpN d.Q X y t % d.Q) = 1 := by rw [Int.emod_eq_of_lt br.1 br.2]; exact pr_gcd QP.out bp br.2
      have LB : dl (bpN d.Q X y t) ≤ 64 := LQ.out _ br.1 br.2
      have LA : dl (apN d.Q X y t) ≤ 64 := LQ.out _ (apN_rng (by have := Q5.out; omega) t).1 (apN_rng (by have := Q5.out; omega) t).2
      have HXX := Lib.hid hX
      have GC := Lib.hid gc
      clear hX bp br gc
      go_wp2_with fail
      refine (inverse_any (MD.out.below HW.out) HB.out.nm LB GC.out).mono ?_
      rintro e w5 ⟨U, u1, u2, u3, D5, m5, c5, rfl, h5, b5, -⟩
      have H5 := Lib.hid h5
      have B5 := Lib.hid b5
      have U3 := Lib.hid u3
      have LU : dl U ≤ 64 := LQ.out U (by omega) u2
      clear h5 b5 u3 u1 u2
      go_wp2_with fail
      refine (mmul_any (MD.out.below (HW.out.trans (B5.out.mono HW.out.size))) (HA.out.below B5.out).nm H5.out.nm LA LU).mono ?_
      rintro e w6 ⟨D6, m6, c6, rfl, h6, b6, hn6⟩
      have B6 := Lib.hid (WW.out.trans ((B5.out.trans (b6.mono B5.out.size)).mono WW.out.size))
      have N6 := Lib.hid (show ∀ a, D6 = some a → w.heap.size ≤ a.block from fun a ha => Nat.le_trans (WW.out.trans (B5.out.mono WW.out.size)).size (hn6 a ha))
      have H6 := Lib.hid h6
      have EW := Lib.hid (wgN_prog QP.out Q5.out HY.out HXX.out U3.out)
      clear h6 b6 hn6
      go_wp2_with fail
      go_ret2
      exact ⟨D6, m6, c6, rfl, EW.out ▸ H6.out, B6.out, N6.out⟩
/-! ### What a share adds -/
set_option maxHeartbeats 4000000 in
set_option maxRecDepth 100000 in
theorem pweighed_any {w : World} {b : Nat} {d : Gd} {A : Option Addr} {n c : Nat} {X : Nat → Int} (h : Gr w b d) (hl : Ils w A n c X) (hp : PlsI d.Q X n) {s : Shr} (hs : s.At w) (hy : PlI s.I) :
    Calls Try.prog 39 #[.pointer (some ⟨b, 0, none⟩), .slice A n c, .agg #[.int .i64 s.I, .slice s.A s.n s.c]] w
      (fun e w' => (64 < dl s.N ∧ Err1 2 w e w') ∨ (dl s.N ≤ 64 ∧ Ans (s.N * wgN d.Q X s.I n % d.Q) w e w')) := by
  obtain ⟨I, As, ns, cs, V⟩ := s
  have HV := Lib.hid hs.2
  have Q5 := Lib.hid h.q255
  have HG := Lib.hid h
  have HL := Lib.hid hl
  have HP := Lib.hid hp
  have he0 := neq0_9
  simp only at hy HV ⊢
  have HY := Lib.hid hy
  clear h hl hp hs hy
  go_enter Try.func39, Try.ntmps39
  go_wp2_with fail
  have bl := below_al w (.cells #[.int .i64 I, .slice As ns cs] 42)
  have s1 : (w.alloc (.cells #[.int .i64 I, .slice As ns cs] 42)).cell? ⟨w.heap.size, 1, none⟩ = some (.slice As ns cs) := by simp [World.cell?_alloc_at]
  have LTB := Lib.hid (show w.heap.size < (w.alloc (.cells #[.int .i64 I, .slice As ns cs] 42)).heap.size by simp)
  refine (pweight_any (HG.out.below bl) (HL.out.below bl) HP.out I HY.out).mono ?_
  rintro e w1 ⟨D1, m1, c1, rfl, h1, b1, -⟩
  have B1 := Lib.hid (bl.trans (b1.mono bl.size))
  have LT1 := Lib.hid (Nat.lt_of_lt_of_le LTB.out b1.size)
  have v1 : w1.drew.cell? ⟨w.heap.size, 1, none⟩ = some (.slice As ns cs) := (b1.cell (p := ⟨w.heap.size, 1, none⟩) LTB.out).trans s1
  have H1 := Lib.hid h1
  have rw1 := wgN_rng (x := X) (y := I) (show 2 ≤ d.Q by have := Q5.out; omega) n
  have LW : dl (wgN d.Q X I n) ≤ 64 := by
    have h1 := dl_mono rw1.1 (Int.le_of_lt rw1.2)
    have := HG.out.lq
    omega
  have BD := Lib.hid (show Below w.heap.size w w1.drew from B1.out.trans (((Below.refl _ _).drew).mono (Nat.le_refl _)))
  have VD := Lib.hid (show Nm w1.drew As ns cs V from HV.out.below BD.out)
  have WD := Lib.hid (show Cn w1.drew D1 m1 c1 (wgN d.Q X I n) from H1.out.below ((Below.refl _ _).drew))
  clear bl b1 h1 s1 rw1
  rcases Nat.lt_or_ge 64 (dl V) with g | g
  · have HL2 := Lib.hid g
    clear g
    go_wp2_with fail
    go_region_held (fun w' => w'.cell? ⟨w.heap.size, 1, none⟩ = some (.slice As ns cs)) (first | exact v1 | exact f1 | exact f2 | go_keep | assumption)
      (first
      | (go_at_call 21; (with_reducible refine (mmul_long MD.out (VD.out.below C1.out) (WD.out.below C1.out).nm (.inl HL2.out)).mono ?_); rintro e w3 ⟨rfl, b3⟩; have C3 := Lib.hid (C1.out.trans (b3.mono C1.out.size)); have f2 := (C3.out.cell (p := ⟨w.heap.size, 1, none⟩) LT1.out).trans v1; clear b3)
      | (go_at_call 14; (with_reducible refine (gscalars_any (HG.out.below BD.out).toGr0).mono ?_); rintro e w2 ⟨bs, Am, cm, low, Bm, cB, Sm, cS, rfl, md, b2, -⟩; have MD := Lib.hid md; have C1 := Lib.hid b2; have f1 := (C1.out.cell (p := ⟨w.heap.size, 1, none⟩) LT1.out).trans v1; clear md b2))
    all_goals
      go_wp2_with fail
      go_ret2
      exact .inl ⟨HL2.out, rfl, BD.out.trans (C3.out.mono BD.out.size)⟩
  · have HL2 := Lib.hid g
    clear g
    go_wp2_with fail
    go_region_held (fun w' => w'.cell? ⟨w.heap.size, 1, none⟩ = some (.slice As ns cs)) (first | exact v1 | exact f1 | exact f2 | go_keep | assumption)
      (first
      | (go_at_call 21; (with_reducible refine (mmul_any MD.out (VD.out.below C1.out) (WD.out.below C1.out).nm HL2.out LW).mono ?_); rintro e w3 ⟨D3, m3, c3, rfl, h3, b3, hn3⟩; have C3 := Lib.hid (C1.out.trans (b3.mono C1.out.size)); have K3 := Lib.hid h3; have N3 := Lib.hid hn3; have f2 := (C3.out.cell (p := ⟨w.heap.size, 1, none⟩) LT1.out).trans v1; clear h3 b3 hn3)
      | (go_at_call 14; (with_reducible refine (gscalars_any (HG.out.below BD.out).toGr0).mono ?_); rintro e w2 ⟨bs, Am, cm, low, Bm, cB, Sm, cS, rfl, md, b2, -⟩; have MD := Lib.hid md; have C1 := Lib.hid b2; have f1 := (C1.out.cell (p := ⟨w.heap.size, 1, none⟩) LT1.out).trans v1; clear md b2))
    all_goals
      go_wp2_with fail
      go_ret2
      exact .inr ⟨HL2.out, D3, m3, c3, rfl, K3.out, BD.out.trans (C3.out.mono BD.out.size), fun a ha => Nat.le_trans (BD.out.trans (C1.out.mono BD.out.size)).size (N3.out a ha)⟩
end Go.Proofs.Ytkecfdeepmhggaa
