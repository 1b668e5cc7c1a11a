/-
  What the program's calls of layer 7 answer: Seal, Anew, Strip, Turn, Open.
-/
import Derived.Test.YtpmnghealjgkeaaGreatCl7
import Derived.Test.YtpmnghealjgkeaaGreatSh7
namespace Go.Proofs.YtpmnghealjgkeaaGreat
open Go.RowKit
set_option linter.unusedVariables false
set_option maxRecDepth 100000 in
theorem pm_eq (b : Nat) : ∀ w : World, (binOp .eql 27 (.pointer (some ⟨b, 0, none⟩)) (.pointer none)).run Tryz.prog w = .ok (.bool false) w := fun _ => rfl
set_option maxRecDepth 100000 in
theorem pm_eq0 : ∀ w : World, (binOp .eql 27 (.pointer none) (.pointer none)).run Tryz.prog w = .ok (.bool true) w := fun _ => rfl
/-- A letter as letter answers it, behind what the call has made itself. -/
theorem lett_let {w W5 w' : World} {r n : Nat} {T : Nat → Trp} {good : Nat → Prop} {e : Ending} {code : Int} (hB : Below w.heap.size w W5) (hr : w.heap.size ≤ r) (h : LettP r n T good W5 e w') (h0 : (∀ p, p < n → good p) → code = 0) (h8 : (∃ p, p < n ∧ ¬ good p) → code = 8) : LetP code T n w e w' := by
  rcases h with ⟨hg, c, S, rfl, hlo, hT, hb⟩ | ⟨hg, rfl, hb⟩
  · exact .inl ⟨h0 hg, _, c, S, rfl, hlo.base hB.size, hT, hb.below hB hr⟩
  · have e8 := h8 hg
    subst e8
    exact .inr ⟨by decide, rfl, hb.below hB hr⟩
theorem sq_new {w : World} {b : Nat} {g : Nat} (hg : w.heap.size = g) : Sq (w.alloc (.cells #[.pointer (some ⟨b, 0, none⟩), .nilIface] 90)) g b false := by
  subst hg
  exact ⟨by simp, heap_alloc_new w _⟩
theorem infoNn : (Tryz.prog.info? 23).map (fun i => (i.zero, i.size, i.bytes)) = some (some (.slice none 0 0), 1, 24) := by kernel_rfl
theorem madeNn (n : Nat) : madeCells (Value.cells (.slice none 0 0)) (n * 1) = (List.replicate n (Value.slice none 0 0)).toArray := by
  apply Array.ext'
  rw [Nat.mul_one]
  show (madeCells #[Value.slice none 0 0] n).toList = _
  rw [toList_madeCells_one]
theorem run_makeNn (n : Nat) {C : Int} (hC : C = n) (hn : n ≤ 1000000) (w : World) : (Instr.makeSlice 24 (.int .i64 C) (.int .i64 C)).run Tryz.prog w =
    .ok (.slice (some ⟨w.heap.size, 0, none⟩) n n) (w.alloc (.cells (List.replicate n (Value.slice none 0 0)).toArray 23)) := by
  subst hC
  obtain ⟨i0, hi, hz0, hz1, hz2⟩ := info_parts infoNn
  have hr := run_make (P := Tryz.prog) w 24 23 i0 (.slice none 0 0) Tryz.underlying24 hi hz0 .i64 .i64 n n (by omega) (by omega) (by rw [hz2]; omega) (by omega)
  rw [hz1, madeNn] at hr
  simpa using hr
set_option maxRecDepth 100000 in
theorem pm_ne (c : Int) : ∀ w : World, (binOp .neq 35 (.iface 80 (.int .i64 c)) .nilIface).run Tryz.prog w = .ok (.bool true) w := fun _ => rfl
/-- The loop of Open. -/
def OpnR (n : Nat) (S : Nat → Stp) (w : World) (i : Value) (wr : World) : Prop :=
  ∃ (j : Nat) (cur : Array Value), j ≤ n ∧ i = .int .i64 j ∧ wr.heap[w.heap.size]? = some (.cells cur 23 (0, 0)) ∧ cur.size = n ∧ (∀ p, p < j → cur[p]? = some (.slice (S p).A2 (S p).n2 (S p).c2)) ∧ Below w.heap.size w wr
section
variable {w : World} {b : Nat} {d : Gd} {Ak Am Ar Al Av As Ap Ab : Option Addr} {nk ck nm cm nr cr nl cl nv cv ns cs np cp nb cb : Nat} {K V s : Int} {M R : Nat → Nsl} {S : Nat → Stp}
set_option maxHeartbeats 4000000 in
set_option maxRecDepth 100000 in
theorem pm_seal (h : Gr w b d) (hk : Nm w Ak nk ck K) (hm : Ns w Am nm cm M) (hr : Ns w Ar nr cr R) :
    Calls Tryz.prog 16 #[.pointer (some ⟨b, 0, none⟩), .slice Ak nk ck, .slice Am nm cm, .slice Ar nr cr] w (LetP (sealC d.P d.Q K M nm R nr) (fun i => sealN d.P d.Q d.G K (M i).N (R i).N) nm w) := by
  obtain ⟨C, hC⟩ : ∃ C, sealC d.P d.Q K M nm R nr = C := ⟨_, rfl⟩
  rw [hC]
  obtain ⟨s, hs⟩ : ∃ s, w.heap.size = s := ⟨_, rfl⟩
  obtain ⟨W3, hW⟩ : ∃ W3, W3 = (((w.alloc (.cells #[.slice Ak nk ck] 23)).alloc (.cells #[.slice Am nm cm] 24)).alloc (.cells #[.slice Ar nr cr] 24)) := ⟨_, rfl⟩
  have sz3 : W3.heap.size = s + 3 := by rw [hW, ← hs]; simp
  have b3 : Below w.heap.size w W3 := by
    rw [hW]
    exact (((Below.refl _ _).alloc (Nat.le_refl _) _).alloc (by simp; try omega) _).alloc (by simp; try omega) _
  have k1 : W3.cell? ⟨s, 0, none⟩ = some (.slice Ak nk ck) := by rw [hW, ← hs, World.cell?_alloc_past _ _ _ (by simp; try omega), World.cell?_alloc_past _ _ _ (by simp; try omega), World.cell?_alloc_at _ _ _ _ (by simp; try omega)]; rfl
  have k2 : W3.cell? ⟨s + 1, 0, none⟩ = some (.slice Am nm cm) := by rw [hW, ← hs, World.cell?_alloc_past _ _ _ (by simp; try omega), World.cell?_alloc_at _ _ _ _ (by simp; try omega)]; rfl
  have k3 : W3.cell? ⟨s + 1 + 1, 0, none⟩ = some (.slice Ar nr cr) := by rw [hW, ← hs, World.cell?_alloc_at _ _ _ _ (by simp; try omega)]; rfl
  obtain ⟨W5, hW5⟩ : ∃ W5, W5 = W3.alloc (.cells #[.pointer (some ⟨b, 0, none⟩), .nilIface] 90) := ⟨_, rfl⟩
  have b35 : Below W3.heap.size W3 W5 := by rw [hW5]; exact (Below.refl _ _).alloc (Nat.le_refl _) _
  have b5 : Below w.heap.size w W5 := b3.trans (b35.mono b3.size)
  have sq5 : Sq W5 (s + 3) b false := by rw [hW5]; exact sq_new sz3
  have j1 := (b35.cell (p := ⟨s, 0, none⟩) (show s < _ by omega)).trans k1
  have j2 := (b35.cell (p := ⟨s + 1, 0, none⟩) (show s + 1 < _ by omega)).trans k2
  have j3 := (b35.cell (p := ⟨s + 1 + 1, 0, none⟩) (show s + 1 + 1 < _ by omega)).trans k3
  have key : nm ≤ 1000 → nr = nm → (∀ i, i < nr → dl (R i).N ≤ 64) → Calls Tryz.prog 44 #[.pointer (some ⟨s + 3, 0, none⟩), .int .i64 (nm : Int), .func (.func 45) #[] #[.pointer (some ⟨s + 3, 0, none⟩), .pointer (some ⟨s, 0, none⟩), .pointer (some ⟨s + 1, 0, none⟩), .pointer (some ⟨s + 1 + 1, 0, none⟩)]] W5 (LettP (s + 3) nm (fun i => sealN d.P d.Q d.G K (M i).N (R i).N) (fun i => El d.P d.Q K ∧ El d.P d.Q (M i).N) W5) := fun hn hnr hlr  =>
    letter_any sq5 hn _ _ ent_Seal fun i hi q q' wr hbo hsq hq =>
      clo_Seal hsq (hbo.below b5 (by omega)) (by omega) h ((hbo.cell (p := ⟨s, 0, none⟩) (show s < _ by have := b35.size; omega) (show s ≠ s + 3 by omega)).trans j1) (by omega) ((hbo.cell (p := ⟨s + 1, 0, none⟩) (show s + 1 < _ by have := b35.size; omega) (show s + 1 ≠ s + 3 by omega)).trans j2) (by omega) ((hbo.cell (p := ⟨s + 1 + 1, 0, none⟩) (show s + 1 + 1 < _ by have := b35.size; omega) (show s + 1 + 1 ≠ s + 3 by omega)).trans j3) (by omega) hk hm hi hr (by omega) (hlr i (by omega)) hq
  have KEY := Lib.hid key
  have B3 := Lib.hid b3
  have B5 := Lib.hid b5
  have HC := Lib.hid hC
  have Hk := Lib.hid hk
  have Hm := Lib.hid hm
  have Hr := Lib.hid hr
  have HR3 := Lib.hid (hr.below b3)
  have hmf := sq_mk
  have heq := pm_eq b
  have HSZ := Lib.hid sz3
  have HSS := Lib.hid hs
  clear key b3 b35 b5 sq5 hC h hk hm hr j1 j2 j3
  rw [hW] at k1 k2 k3
  go_enter Tryz.func16, Tryz.ntmps16
  go_wp2_with fail
  rw [← hW]
  rw [← hW] at k1 k2 k3
  try rw [hs]
  have HW5 := Lib.hid hW5
  clear hW hW5 hs
  refine (isl_any nm W3).mono ?_
  rintro e w1 ⟨rfl, q, rfl, hq⟩
  cases q with
  | false =>
    have hno : ¬ (1 ≤ nm ∧ nm ≤ 32) := fun g => by have := hq.2 g; cases this
    have e1 : C = 1 := by rw [← HC.out]; exact fitC_arg fun g => hno ⟨g.1, g.2.1⟩
    subst e1
    clear hno hq
    go_wp2_with fail
    go_ret2
    exact .inr ⟨by decide, rfl, B3.out⟩
  | true =>
    obtain ⟨g1, g32⟩ := hq.1 rfl
    clear hq
    rcases Nat.lt_or_ge nr nm with gn | gn
    · have t1 : (((nr : Nat) : Int) != ((nm : Nat) : Int)) = true := by simp; omega
      have t2 : (((nr : Nat) : Int) == ((nm : Nat) : Int)) = false := by simp; omega
      have e1 : C = 1 := by rw [← HC.out]; exact fitC_arg fun g => by omega
      subst e1
      have t3 : ¬ (nr : Int) = (nm : Int) := by omega
      have t4 : ¬ nr = nm := by omega
      go_wp2_with fail
      go_ret2
      exact .inr ⟨by decide, rfl, B3.out⟩
    rcases Nat.lt_or_ge nm nr with gn2 | gn2
    · have t1 : (((nr : Nat) : Int) != ((nm : Nat) : Int)) = true := by simp; omega
      have t2 : (((nr : Nat) : Int) == ((nm : Nat) : Int)) = false := by simp; omega
      have e1 : C = 1 := by rw [← HC.out]; exact fitC_arg fun g => by omega
      subst e1
      have t3 : ¬ (nr : Int) = (nm : Int) := by omega
      have t4 : ¬ nr = nm := by omega
      go_wp2_with fail
      go_ret2
      exact .inr ⟨by decide, rfl, B3.out⟩
    obtain rfl : nm = nr := by omega
    have t2 : (((nm : Nat) : Int) == ((nm : Nat) : Int)) = true := by simp
    go_wp2_with fail
    refine (anyl_any HR3.out).mono ?_
    rintro e w1 ⟨rfl, q, rfl, hq⟩
    cases q with
    | true =>
      have e1 : C = 2 := by rw [← HC.out]; exact fitC_long ⟨g1, g32, rfl⟩ (hq.1 rfl)
      subst e1
      clear hq
      go_wp2_with fail
      go_ret2
      exact .inr ⟨by decide, rfl, B3.out⟩
    | false =>
    have hlg : ¬ LgS R nm := fun g => by have := hq.2 g; cases this
    have hlr : ∀ i, i < nm → dl (R i).N ≤ 64 := fun i hi => by
      rcases Nat.lt_or_ge 64 (dl (R i).N) with g | g
      · exact absurd ⟨i, hi, g⟩ hlg
      · exact g
    have K5 := Lib.hid (KEY.out (by omega) (by trivial) hlr )
    have HL := Lib.hid hlg
    
    clear hq hlg hlr KEY 
    go_wp2_with fail
    try rw [HSZ.out]
    rw [← HW5.out]
    refine K5.out.mono ?_
    intro e w9 hh
    have hh := lett_let B5.out (show w.heap.size ≤ s + 3 by have := HSS.out; omega) hh (code := C) (fun hg => by rw [← HC.out]; have hlg := HL.out; exact fitC_ok ⟨g1, g32, rfl⟩ hlg ⟨(hg 0 (by omega)).1, fun i hi => (hg i hi).2⟩) (fun ⟨p, hp1, hp2⟩ => by rw [← HC.out]; have hlg := HL.out; exact fitC_no ⟨g1, g32, rfl⟩ hlg (fun q => hp2 ⟨q.1, q.2 p hp1⟩))
    rcases hh with ⟨hc0, A, c, S9, rfl, h1, h2, h3⟩ | ⟨hc0, rfl, h1⟩
    · have H1 := Lib.hid h1
      have H2 := Lib.hid h2
      have H3 := Lib.hid h3
      clear h1 h2 h3
      go_wp2_with fail
      go_ret2
      exact .inl ⟨hc0, A, c, S9, rfl, H1.out, H2.out, H3.out⟩
    · have H1 := Lib.hid h1
      clear h1
      go_wp2_with fail
      go_ret2
      exact .inr ⟨hc0, rfl, H1.out⟩
set_option maxHeartbeats 4000000 in
set_option maxRecDepth 100000 in
theorem pm_anew (h : Gr w b d) (hk : Nm w Ak nk ck K) (hl : Ch w Al nl cl S) (hr : Ns w Ar nr cr R) :
    Calls Tryz.prog 17 #[.pointer (some ⟨b, 0, none⟩), .slice Ak nk ck, .slice Al nl cl, .slice Ar nr cr] w (LetP (anewC d.P d.Q K S nl R nr) (fun i => anewN d.P d.Q d.G K (Trp.of (S i)) (R i).N) nl w) := by
  obtain ⟨C, hC⟩ : ∃ C, anewC d.P d.Q K S nl R nr = C := ⟨_, rfl⟩
  rw [hC]
  obtain ⟨s, hs⟩ : ∃ s, w.heap.size = s := ⟨_, rfl⟩
  obtain ⟨W3, hW⟩ : ∃ W3, W3 = (((w.alloc (.cells #[.slice Ak nk ck] 23)).alloc (.cells #[.slice Al nl cl] 25)).alloc (.cells #[.slice Ar nr cr] 24)) := ⟨_, rfl⟩
  have sz3 : W3.heap.size = s + 3 := by rw [hW, ← hs]; simp
  have b3 : Below w.heap.size w W3 := by
    rw [hW]
    exact (((Below.refl _ _).alloc (Nat.le_refl _) _).alloc (by simp; try omega) _).alloc (by simp; try omega) _
  have k1 : W3.cell? ⟨s, 0, none⟩ = some (.slice Ak nk ck) := by rw [hW, ← hs, World.cell?_alloc_past _ _ _ (by simp; try omega), World.cell?_alloc_past _ _ _ (by simp; try omega), World.cell?_alloc_at _ _ _ _ (by simp; try omega)]; rfl
  have k2 : W3.cell? ⟨s + 1, 0, none⟩ = some (.slice Al nl cl) := by rw [hW, ← hs, World.cell?_alloc_past _ _ _ (by simp; try omega), World.cell?_alloc_at _ _ _ _ (by simp; try omega)]; rfl
  have k3 : W3.cell? ⟨s + 1 + 1, 0, none⟩ = some (.slice Ar nr cr) := by rw [hW, ← hs, World.cell?_alloc_at _ _ _ _ (by simp; try omega)]; rfl
  obtain ⟨W5, hW5⟩ : ∃ W5, W5 = W3.alloc (.cells #[.pointer (some ⟨b, 0, none⟩), .nilIface] 90) := ⟨_, rfl⟩
  have b35 : Below W3.heap.size W3 W5 := by rw [hW5]; exact (Below.refl _ _).alloc (Nat.le_refl _) _
  have b5 : Below w.heap.size w W5 := b3.trans (b35.mono b3.size)
  have sq5 : Sq W5 (s + 3) b false := by rw [hW5]; exact sq_new sz3
  have j1 := (b35.cell (p := ⟨s, 0, none⟩) (show s < _ by omega)).trans k1
  have j2 := (b35.cell (p := ⟨s + 1, 0, none⟩) (show s + 1 < _ by omega)).trans k2
  have j3 := (b35.cell (p := ⟨s + 1 + 1, 0, none⟩) (show s + 1 + 1 < _ by omega)).trans k3
  have key : nl ≤ 1000 → nr = nl → (∀ i, i < nr → dl (R i).N ≤ 64) → Calls Tryz.prog 44 #[.pointer (some ⟨s + 3, 0, none⟩), .int .i64 (nl : Int), .func (.func 47) #[] #[.pointer (some ⟨s + 3, 0, none⟩), .pointer (some ⟨s, 0, none⟩), .pointer (some ⟨s + 1, 0, none⟩), .pointer (some ⟨s + 1 + 1, 0, none⟩)]] W5 (LettP (s + 3) nl (fun i => anewN d.P d.Q d.G K (Trp.of (S i)) (R i).N) (fun i => El d.P d.Q K ∧ ElT d.P d.Q (Trp.of (S i))) W5) := fun hn hnr hlr  =>
    letter_any sq5 hn _ _ ent_Anew fun i hi q q' wr hbo hsq hq =>
      clo_Anew hsq (hbo.below b5 (by omega)) (by omega) h ((hbo.cell (p := ⟨s, 0, none⟩) (show s < _ by have := b35.size; omega) (show s ≠ s + 3 by omega)).trans j1) (by omega) ((hbo.cell (p := ⟨s + 1, 0, none⟩) (show s + 1 < _ by have := b35.size; omega) (show s + 1 ≠ s + 3 by omega)).trans j2) (by omega) ((hbo.cell (p := ⟨s + 1 + 1, 0, none⟩) (show s + 1 + 1 < _ by have := b35.size; omega) (show s + 1 + 1 ≠ s + 3 by omega)).trans j3) (by omega) hk hl hi hr (by omega) (hlr i (by omega)) hq
  have KEY := Lib.hid key
  have B3 := Lib.hid b3
  have B5 := Lib.hid b5
  have HC := Lib.hid hC
  have Hk := Lib.hid hk
  have Hl := Lib.hid hl
  have Hr := Lib.hid hr
  have HR3 := Lib.hid (hr.below b3)
  have hmf := sq_mk
  have heq := pm_eq b
  have HSZ := Lib.hid sz3
  have HSS := Lib.hid hs
  clear key b3 b35 b5 sq5 hC h hk hl hr j1 j2 j3
  rw [hW] at k1 k2 k3
  go_enter Tryz.func17, Tryz.ntmps17
  go_wp2_with fail
  rw [← hW]
  rw [← hW] at k1 k2 k3
  try rw [hs]
  have HW5 := Lib.hid hW5
  clear hW hW5 hs
  refine (isl_any nl W3).mono ?_
  rintro e w1 ⟨rfl, q, rfl, hq⟩
  cases q with
  | false =>
    have hno : ¬ (1 ≤ nl ∧ nl ≤ 32) := fun g => by have := hq.2 g; cases this
    have e1 : C = 1 := by rw [← HC.out]; exact fitC_arg fun g => hno ⟨g.1, g.2.1⟩
    subst e1
    clear hno hq
    go_wp2_with fail
    go_ret2
    exact .inr ⟨by decide, rfl, B3.out⟩
  | true =>
    obtain ⟨g1, g32⟩ := hq.1 rfl
    clear hq
    rcases Nat.lt_or_ge nr nl with gn | gn
    · have t1 : (((nr : Nat) : Int) != ((nl : Nat) : Int)) = true := by simp; omega
      have t2 : (((nr : Nat) : Int) == ((nl : Nat) : Int)) = false := by simp; omega
      have e1 : C = 1 := by rw [← HC.out]; exact fitC_arg fun g => by omega
      subst e1
      have t3 : ¬ (nr : Int) = (nl : Int) := by omega
      have t4 : ¬ nr = nl := by omega
      go_wp2_with fail
      go_ret2
      exact .inr ⟨by decide, rfl, B3.out⟩
    rcases Nat.lt_or_ge nl nr with gn2 | gn2
    · have t1 : (((nr : Nat) : Int) != ((nl : Nat) : Int)) = true := by simp; omega
      have t2 : (((nr : Nat) : Int) == ((nl : Nat) : Int)) = false := by simp; omega
      have e1 : C = 1 := by rw [← HC.out]; exact fitC_arg fun g => by omega
      subst e1
      have t3 : ¬ (nr : Int) = (nl : Int) := by omega
      have t4 : ¬ nr = nl := by omega
      go_wp2_with fail
      go_ret2
      exact .inr ⟨by decide, rfl, B3.out⟩
    obtain rfl : nl = nr := by omega
    have t2 : (((nl : Nat) : Int) == ((nl : Nat) : Int)) = true := by simp
    go_wp2_with fail
    refine (anyl_any HR3.out).mono ?_
    rintro e w1 ⟨rfl, q, rfl, hq⟩
    cases q with
    | true =>
      have e1 : C = 2 := by rw [← HC.out]; exact fitC_long ⟨g1, g32, rfl⟩ (hq.1 rfl)
      subst e1
      clear hq
      go_wp2_with fail
      go_ret2
      exact .inr ⟨by decide, rfl, B3.out⟩
    | false =>
    have hlg : ¬ LgS R nl := fun g => by have := hq.2 g; cases this
    have hlr : ∀ i, i < nl → dl (R i).N ≤ 64 := fun i hi => by
      rcases Nat.lt_or_ge 64 (dl (R i).N) with g | g
      · exact absurd ⟨i, hi, g⟩ hlg
      · exact g
    have K5 := Lib.hid (KEY.out (by omega) (by trivial) hlr )
    have HL := Lib.hid hlg
    
    clear hq hlg hlr KEY 
    go_wp2_with fail
    try rw [HSZ.out]
    rw [← HW5.out]
    refine K5.out.mono ?_
    intro e w9 hh
    have hh := lett_let B5.out (show w.heap.size ≤ s + 3 by have := HSS.out; omega) hh (code := C) (fun hg => by rw [← HC.out]; have hlg := HL.out; exact fitC_ok ⟨g1, g32, rfl⟩ hlg ⟨(hg 0 (by omega)).1, fun i hi => (hg i hi).2⟩) (fun ⟨p, hp1, hp2⟩ => by rw [← HC.out]; have hlg := HL.out; exact fitC_no ⟨g1, g32, rfl⟩ hlg (fun q => hp2 ⟨q.1, q.2 p hp1⟩))
    rcases hh with ⟨hc0, A, c, S9, rfl, h1, h2, h3⟩ | ⟨hc0, rfl, h1⟩
    · have H1 := Lib.hid h1
      have H2 := Lib.hid h2
      have H3 := Lib.hid h3
      clear h1 h2 h3
      go_wp2_with fail
      go_ret2
      exact .inl ⟨hc0, A, c, S9, rfl, H1.out, H2.out, H3.out⟩
    · have H1 := Lib.hid h1
      clear h1
      go_wp2_with fail
      go_ret2
      exact .inr ⟨hc0, rfl, H1.out⟩
set_option maxHeartbeats 4000000 in
set_option maxRecDepth 100000 in
theorem pm_strip (h : Gr w b d) (hv : Nm w Av nv cv V) (hk : Nm w Ak nk ck K) (hl : Ch w Al nl cl S) (hr : Ns w Ar nr cr R) :
    Calls Tryz.prog 24 #[.pointer (some ⟨b, 0, none⟩), .slice Av nv cv, .slice Ak nk ck, .slice Al nl cl, .slice Ar nr cr] w (LetP (stripC d.P d.Q V K S nl R nr) (fun i => stripN d.P d.Q d.G V K (Trp.of (S i)) (R i).N) nl w) := by
  obtain ⟨C, hC⟩ : ∃ C, stripC d.P d.Q V K S nl R nr = C := ⟨_, rfl⟩
  rw [hC]
  obtain ⟨s, hs⟩ : ∃ s, w.heap.size = s := ⟨_, rfl⟩
  obtain ⟨W3, hW⟩ : ∃ W3, W3 = ((((w.alloc (.cells #[.slice Av nv cv] 23)).alloc (.cells #[.slice Ak nk ck] 23)).alloc (.cells #[.slice Al nl cl] 25)).alloc (.cells #[.slice Ar nr cr] 24)) := ⟨_, rfl⟩
  have sz3 : W3.heap.size = s + 4 := by rw [hW, ← hs]; simp
  have b3 : Below w.heap.size w W3 := by
    rw [hW]
    exact ((((Below.refl _ _).alloc (Nat.le_refl _) _).alloc (by simp; try omega) _).alloc (by simp; try omega) _).alloc (by simp; try omega) _
  have k1 : W3.cell? ⟨s, 0, none⟩ = some (.slice Av nv cv) := by rw [hW, ← hs, World.cell?_alloc_past _ _ _ (by simp; try omega), World.cell?_alloc_past _ _ _ (by simp; try omega), World.cell?_alloc_past _ _ _ (by simp; try omega), World.cell?_alloc_at _ _ _ _ (by simp; try omega)]; rfl
  have k2 : W3.cell? ⟨s + 1, 0, none⟩ = some (.slice Ak nk ck) := by rw [hW, ← hs, World.cell?_alloc_past _ _ _ (by simp; try omega), World.cell?_alloc_past _ _ _ (by simp; try omega), World.cell?_alloc_at _ _ _ _ (by simp; try omega)]; rfl
  have k3 : W3.cell? ⟨s + 1 + 1, 0, none⟩ = some (.slice Al nl cl) := by rw [hW, ← hs, World.cell?_alloc_past _ _ _ (by simp; try omega), World.cell?_alloc_at _ _ _ _ (by simp; try omega)]; rfl
  have k4 : W3.cell? ⟨s + 1 + 1 + 1, 0, none⟩ = some (.slice Ar nr cr) := by rw [hW, ← hs, World.cell?_alloc_at _ _ _ _ (by simp; try omega)]; rfl
  obtain ⟨W5, hW5⟩ : ∃ W5, W5 = W3.alloc (.cells #[.pointer (some ⟨b, 0, none⟩), .nilIface] 90) := ⟨_, rfl⟩
  have b35 : Below W3.heap.size W3 W5 := by rw [hW5]; exact (Below.refl _ _).alloc (Nat.le_refl _) _
  have b5 : Below w.heap.size w W5 := b3.trans (b35.mono b3.size)
  have sq5 : Sq W5 (s + 4) b false := by rw [hW5]; exact sq_new sz3
  have j1 := (b35.cell (p := ⟨s, 0, none⟩) (show s < _ by omega)).trans k1
  have j2 := (b35.cell (p := ⟨s + 1, 0, none⟩) (show s + 1 < _ by omega)).trans k2
  have j3 := (b35.cell (p := ⟨s + 1 + 1, 0, none⟩) (show s + 1 + 1 < _ by omega)).trans k3
  have j4 := (b35.cell (p := ⟨s + 1 + 1 + 1, 0, none⟩) (show s + 1 + 1 + 1 < _ by omega)).trans k4
  have key : nl ≤ 1000 → nr = nl → (∀ i, i < nr → dl (R i).N ≤ 64) → dl V ≤ 64 → Calls Tryz.prog 44 #[.pointer (some ⟨s + 4, 0, none⟩), .int .i64 (nl : Int), .func (.func 64) #[] #[.pointer (some ⟨s + 4, 0, none⟩), .pointer (some ⟨s, 0, none⟩), .pointer (some ⟨s + 1, 0, none⟩), .pointer (some ⟨s + 1 + 1, 0, none⟩), .pointer (some ⟨s + 1 + 1 + 1, 0, none⟩)]] W5 (LettP (s + 4) nl (fun i => stripN d.P d.Q d.G V K (Trp.of (S i)) (R i).N) (fun i => El d.P d.Q K ∧ ElT d.P d.Q (Trp.of (S i))) W5) := fun hn hnr hlr lv =>
    letter_any sq5 hn _ _ ent_Strip fun i hi q q' wr hbo hsq hq =>
      clo_Strip hsq (hbo.below b5 (by omega)) (by omega) h ((hbo.cell (p := ⟨s, 0, none⟩) (show s < _ by have := b35.size; omega) (show s ≠ s + 4 by omega)).trans j1) (by omega) ((hbo.cell (p := ⟨s + 1, 0, none⟩) (show s + 1 < _ by have := b35.size; omega) (show s + 1 ≠ s + 4 by omega)).trans j2) (by omega) ((hbo.cell (p := ⟨s + 1 + 1, 0, none⟩) (show s + 1 + 1 < _ by have := b35.size; omega) (show s + 1 + 1 ≠ s + 4 by omega)).trans j3) (by omega) ((hbo.cell (p := ⟨s + 1 + 1 + 1, 0, none⟩) (show s + 1 + 1 + 1 < _ by have := b35.size; omega) (show s + 1 + 1 + 1 ≠ s + 4 by omega)).trans j4) (by omega) hv hk hl hi hr (by omega) (hlr i (by omega)) lv hq
  have KEY := Lib.hid key
  have B3 := Lib.hid b3
  have B5 := Lib.hid b5
  have HC := Lib.hid hC
  have Hv := Lib.hid hv
  have Hk := Lib.hid hk
  have Hl := Lib.hid hl
  have Hr := Lib.hid hr
  have HR3 := Lib.hid (hr.below b3)
  have HV3 := Lib.hid (hv.below b3)
  have hmf := sq_mk
  have heq := pm_eq b
  have HSZ := Lib.hid sz3
  have HSS := Lib.hid hs
  clear key b3 b35 b5 sq5 hC h hv hk hl hr j1 j2 j3 j4
  rw [hW] at k1 k2 k3 k4
  go_enter Tryz.func24, Tryz.ntmps24
  go_wp2_with fail
  rw [← hW]
  rw [← hW] at k1 k2 k3 k4
  try rw [hs]
  have HW5 := Lib.hid hW5
  clear hW hW5 hs
  refine (isl_any nl W3).mono ?_
  rintro e w1 ⟨rfl, q, rfl, hq⟩
  cases q with
  | false =>
    have hno : ¬ (1 ≤ nl ∧ nl ≤ 32) := fun g => by have := hq.2 g; cases this
    have e1 : C = 1 := by rw [← HC.out]; exact fitC_arg fun g => hno ⟨g.1, g.2.1⟩
    subst e1
    clear hno hq
    go_wp2_with fail
    go_ret2
    exact .inr ⟨by decide, rfl, B3.out⟩
  | true =>
    obtain ⟨g1, g32⟩ := hq.1 rfl
    clear hq
    rcases Nat.lt_or_ge nr nl with gn | gn
    · have t1 : (((nr : Nat) : Int) != ((nl : Nat) : Int)) = true := by simp; omega
      have t2 : (((nr : Nat) : Int) == ((nl : Nat) : Int)) = false := by simp; omega
      have e1 : C = 1 := by rw [← HC.out]; exact fitC_arg fun g => by omega
      subst e1
      have t3 : ¬ (nr : Int) = (nl : Int) := by omega
      have t4 : ¬ nr = nl := by omega
      go_wp2_with fail
      go_ret2
      exact .inr ⟨by decide, rfl, B3.out⟩
    rcases Nat.lt_or_ge nl nr with gn2 | gn2
    · have t1 : (((nr : Nat) : Int) != ((nl : Nat) : Int)) = true := by simp; omega
      have t2 : (((nr : Nat) : Int) == ((nl : Nat) : Int)) = false := by simp; omega
      have e1 : C = 1 := by rw [← HC.out]; exact fitC_arg fun g => by omega
      subst e1
      have t3 : ¬ (nr : Int) = (nl : Int) := by omega
      have t4 : ¬ nr = nl := by omega
      go_wp2_with fail
      go_ret2
      exact .inr ⟨by decide, rfl, B3.out⟩
    obtain rfl : nl = nr := by omega
    have t2 : (((nl : Nat) : Int) == ((nl : Nat) : Int)) = true := by simp
    go_wp2_with fail
    refine (mtl_any HV3.out).mono ?_
    rintro e w1 ⟨rfl, qv, rfl, hqv⟩
    cases qv with
    | true =>
      have e1 : C = 2 := by rw [← HC.out]; exact fitC_long ⟨g1, g32, rfl⟩ (.inl (hqv.1 rfl))
      subst e1
      clear hqv
      go_wp2_with fail
      go_ret2
      exact .inr ⟨by decide, rfl, B3.out⟩
    | false =>
    have lv : dl V ≤ 64 := by
      rcases Nat.lt_or_ge 64 (dl V) with g | g
      · have := hqv.2 g
        cases this
      · exact g
    clear hqv
    go_wp2_with fail
    refine (anyl_any HR3.out).mono ?_
    rintro e w1 ⟨rfl, q, rfl, hq⟩
    cases q with
    | true =>
      have e1 : C = 2 := by rw [← HC.out]; exact fitC_long ⟨g1, g32, rfl⟩ (.inr (hq.1 rfl))
      subst e1
      clear hq
      go_wp2_with fail
      go_ret2
      exact .inr ⟨by decide, rfl, B3.out⟩
    | false =>
    have hlg : ¬ LgS R nl := fun g => by have := hq.2 g; cases this
    have hlr : ∀ i, i < nl → dl (R i).N ≤ 64 := fun i hi => by
      rcases Nat.lt_or_ge 64 (dl (R i).N) with g | g
      · exact absurd ⟨i, hi, g⟩ hlg
      · exact g
    have K5 := Lib.hid (KEY.out (by omega) (by trivial) hlr lv)
    have HL := Lib.hid hlg
    have LV := Lib.hid lv
    clear hq hlg hlr KEY lv
    go_wp2_with fail
    try rw [HSZ.out]
    rw [← HW5.out]
    refine K5.out.mono ?_
    intro e w9 hh
    have hh := lett_let B5.out (show w.heap.size ≤ s + 4 by have := HSS.out; omega) hh (code := C) (fun hg => by rw [← HC.out]; have hlg := HL.out; have lv := LV.out; exact fitC_ok ⟨g1, g32, rfl⟩ (fun q => q.elim (fun q => by omega) hlg) ⟨(hg 0 (by omega)).1, fun i hi => (hg i hi).2⟩) (fun ⟨p, hp1, hp2⟩ => by rw [← HC.out]; have hlg := HL.out; have lv := LV.out; exact fitC_no ⟨g1, g32, rfl⟩ (fun q => q.elim (fun q => by omega) hlg) (fun q => hp2 ⟨q.1, q.2 p hp1⟩))
    rcases hh with ⟨hc0, A, c, S9, rfl, h1, h2, h3⟩ | ⟨hc0, rfl, h1⟩
    · have H1 := Lib.hid h1
      have H2 := Lib.hid h2
      have H3 := Lib.hid h3
      clear h1 h2 h3
      go_wp2_with fail
      go_ret2
      exact .inl ⟨hc0, A, c, S9, rfl, H1.out, H2.out, H3.out⟩
    · have H1 := Lib.hid h1
      clear h1
      go_wp2_with fail
      go_ret2
      exact .inr ⟨hc0, rfl, H1.out⟩
set_option maxHeartbeats 4000000 in
set_option maxRecDepth 100000 in
theorem pm_turn (h : Gr w b d) (hl : Ch w Al nl cl S) :
    Calls Tryz.prog 25 #[.pointer (some ⟨b, 0, none⟩), .slice Al nl cl] w (LetP (turnC d.P d.Q S nl) (fun i => turnN (Trp.of (S i))) nl w) := by
  obtain ⟨C, hC⟩ : ∃ C, turnC d.P d.Q S nl = C := ⟨_, rfl⟩
  rw [hC]
  obtain ⟨s, hs⟩ : ∃ s, w.heap.size = s := ⟨_, rfl⟩
  obtain ⟨W3, hW⟩ : ∃ W3, W3 = (w.alloc (.cells #[.slice Al nl cl] 25)) := ⟨_, rfl⟩
  have sz3 : W3.heap.size = s + 1 := by rw [hW, ← hs]; simp
  have b3 : Below w.heap.size w W3 := by
    rw [hW]
    exact (Below.refl _ _).alloc (Nat.le_refl _) _
  have k1 : W3.cell? ⟨s, 0, none⟩ = some (.slice Al nl cl) := by rw [hW, ← hs, World.cell?_alloc_at _ _ _ _ (by simp; try omega)]; rfl
  obtain ⟨W5, hW5⟩ : ∃ W5, W5 = W3.alloc (.cells #[.pointer (some ⟨b, 0, none⟩), .nilIface] 90) := ⟨_, rfl⟩
  have b35 : Below W3.heap.size W3 W5 := by rw [hW5]; exact (Below.refl _ _).alloc (Nat.le_refl _) _
  have b5 : Below w.heap.size w W5 := b3.trans (b35.mono b3.size)
  have sq5 : Sq W5 (s + 1) b false := by rw [hW5]; exact sq_new sz3
  have j1 := (b35.cell (p := ⟨s, 0, none⟩) (show s < _ by omega)).trans k1
  have key : nl ≤ 1000 → Calls Tryz.prog 44 #[.pointer (some ⟨s + 1, 0, none⟩), .int .i64 (nl : Int), .func (.func 66) #[] #[.pointer (some ⟨s + 1, 0, none⟩), .pointer (some ⟨s, 0, none⟩)]] W5 (LettP (s + 1) nl (fun i => turnN (Trp.of (S i))) (fun i => ElT d.P d.Q (Trp.of (S i))) W5) := fun hn  =>
    letter_any sq5 hn _ _ ent_Turn fun i hi q q' wr hbo hsq hq =>
      clo_Turn hsq (hbo.below b5 (by omega)) (by omega) h ((hbo.cell (p := ⟨s, 0, none⟩) (show s < _ by have := b35.size; omega) (show s ≠ s + 1 by omega)).trans j1) (by omega) hl hi hq
  have KEY := Lib.hid key
  have B3 := Lib.hid b3
  have B5 := Lib.hid b5
  have HC := Lib.hid hC
  have Hl := Lib.hid hl
  have hmf := sq_mk
  have heq := pm_eq b
  have HSZ := Lib.hid sz3
  have HSS := Lib.hid hs
  clear key b3 b35 b5 sq5 hC h hl j1
  rw [hW] at k1
  go_enter Tryz.func25, Tryz.ntmps25
  go_wp2_with fail
  rw [← hW]
  rw [← hW] at k1
  try rw [hs]
  have HW5 := Lib.hid hW5
  clear hW hW5 hs
  refine (isl_any nl W3).mono ?_
  rintro e w1 ⟨rfl, q, rfl, hq⟩
  cases q with
  | false =>
    have hno : ¬ (1 ≤ nl ∧ nl ≤ 32) := fun g => by have := hq.2 g; cases this
    have e1 : C = 1 := by rw [← HC.out]; exact fitC_arg fun g => hno ⟨g.1, g.2.1⟩
    subst e1
    clear hno hq
    go_wp2_with fail
    go_ret2
    exact .inr ⟨by decide, rfl, B3.out⟩
  | true =>
    obtain ⟨g1, g32⟩ := hq.1 rfl
    clear hq
    have K5 := Lib.hid (KEY.out (by omega))
    clear KEY
    go_wp2_with fail
    try rw [HSZ.out]
    rw [← HW5.out]
    refine K5.out.mono ?_
    intro e w9 hh
    have hh := lett_let B5.out (show w.heap.size ≤ s + 1 by have := HSS.out; omega) hh (code := C) (fun hg => by rw [← HC.out]; exact fitC_ok ⟨g1, g32, rfl⟩ (fun q => q) hg) (fun ⟨p, hp1, hp2⟩ => by rw [← HC.out]; exact fitC_no ⟨g1, g32, rfl⟩ (fun q => q) (fun q => hp2 (q p hp1)))
    rcases hh with ⟨hc0, A, c, S9, rfl, h1, h2, h3⟩ | ⟨hc0, rfl, h1⟩
    · have H1 := Lib.hid h1
      have H2 := Lib.hid h2
      have H3 := Lib.hid h3
      clear h1 h2 h3
      go_wp2_with fail
      go_ret2
      exact .inl ⟨hc0, A, c, S9, rfl, H1.out, H2.out, H3.out⟩
    · have H1 := Lib.hid h1
      clear h1
      go_wp2_with fail
      go_ret2
      exact .inr ⟨hc0, rfl, H1.out⟩
/-- No group. -/
theorem pm_seal_nil (hk : Nm w Ak nk ck K) (hm : Ns w Am nm cm M) (hr : Ns w Ar nr cr R) :
    Calls Tryz.prog 16 #[.pointer none, .slice Ak nk ck, .slice Am nm cm, .slice Ar nr cr] w (Err1 1 w) := by
  have heq := pm_eq0
  have b3 : Below w.heap.size w (((w.alloc (.cells #[.slice Ak nk ck] 23)).alloc (.cells #[.slice Am nm cm] 24)).alloc (.cells #[.slice Ar nr cr] 24)) := (((Below.refl _ _).alloc (Nat.le_refl _) _).alloc (by simp) _).alloc (by simp; omega) _
  have B3 := Lib.hid b3
  clear hk hm hr b3
  go_enter Tryz.func16, Tryz.ntmps16
  go_wp2_with fail
  go_ret2
  exact ⟨rfl, B3.out⟩
set_option maxHeartbeats 4000000 in
set_option maxRecDepth 100000 in
theorem pm_open (h : Gr w b d) (hl : Ch w Al nl cl S) :
    Calls Tryz.prog 26 #[.pointer (some ⟨b, 0, none⟩), .slice Al nl cl] w (NumP (turnC d.P d.Q S nl) (fun i => (S i).Q) nl w) := by
  obtain ⟨C, hC⟩ : ∃ C, turnC d.P d.Q S nl = C := ⟨_, rfl⟩
  rw [hC]
  obtain ⟨s, hs⟩ : ∃ s, w.heap.size = s := ⟨_, rfl⟩
  obtain ⟨W3, hW⟩ : ∃ W3, W3 = (w.alloc (.cells #[.slice Al nl cl] 25)) := ⟨_, rfl⟩
  have sz3 : W3.heap.size = s + 1 := by rw [hW, ← hs]; simp
  have b3 : Below w.heap.size w W3 := by
    rw [hW]
    exact (Below.refl _ _).alloc (Nat.le_refl _) _
  have k1 : W3.cell? ⟨s, 0, none⟩ = some (.slice Al nl cl) := by rw [hW, ← hs, World.cell?_alloc_at _ _ _ _ (by simp; try omega)]; rfl
  obtain ⟨W5, hW5⟩ : ∃ W5, W5 = W3.alloc (.cells #[.pointer (some ⟨b, 0, none⟩), .nilIface] 90) := ⟨_, rfl⟩
  have b35 : Below W3.heap.size W3 W5 := by rw [hW5]; exact (Below.refl _ _).alloc (Nat.le_refl _) _
  have b5 : Below w.heap.size w W5 := b3.trans (b35.mono b3.size)
  have sq5 : Sq W5 (s + 1) b false := by rw [hW5]; exact sq_new sz3
  have j1 := (b35.cell (p := ⟨s, 0, none⟩) (show s < _ by omega)).trans k1
  have key : nl ≤ 1000 → Calls Tryz.prog 44 #[.pointer (some ⟨s + 1, 0, none⟩), .int .i64 (nl : Int), .func (.func 68) #[] #[.pointer (some ⟨s + 1, 0, none⟩), .pointer (some ⟨s, 0, none⟩)]] W5 (LettP (s + 1) nl (fun i => Trp.of (S i)) (fun i => ElT d.P d.Q (Trp.of (S i))) W5) := fun hn  =>
    letter_any sq5 hn _ _ ent_Open fun i hi q q' wr hbo hsq hq =>
      clo_Open hsq (hbo.below b5 (by omega)) (by omega) h ((hbo.cell (p := ⟨s, 0, none⟩) (show s < _ by have := b35.size; omega) (show s ≠ s + 1 by omega)).trans j1) (by omega) hl hi hq
  have KEY := Lib.hid key
  have B3 := Lib.hid b3
  have B5 := Lib.hid b5
  have HC := Lib.hid hC
  have Hl := Lib.hid hl
  have hmf := sq_mk
  have e0 := sq_ne0
  have e1 := pm_ne C
  have heq := pm_eq b
  have HSZ := Lib.hid sz3
  have HSS := Lib.hid hs
  clear key b3 b35 b5 sq5 hC h hl j1
  rw [hW] at k1
  go_enter Tryz.func26, Tryz.ntmps26
  go_wp2_with fail
  rw [← hW]
  rw [← hW] at k1
  try rw [hs]
  have HW5 := Lib.hid hW5
  clear hW hW5 hs
  refine (isl_any nl W3).mono ?_
  rintro e w1 ⟨rfl, q, rfl, hq⟩
  cases q with
  | false =>
    have hno : ¬ (1 ≤ nl ∧ nl ≤ 32) := fun g => by have := hq.2 g; cases this
    have e1 : C = 1 := by rw [← HC.out]; exact fitC_arg fun g => hno ⟨g.1, g.2.1⟩
    subst e1
    clear hno hq
    go_wp2_with fail
    go_ret2
    exact .inr ⟨by decide, rfl, B3.out⟩
  | true =>
    obtain ⟨g1, g32⟩ := hq.1 rfl
    clear hq
    have K5 := Lib.hid (KEY.out (by omega))
    clear KEY
    go_wp2_with fail
    try rw [HSZ.out]
    rw [← HW5.out]
    refine K5.out.mono ?_
    intro e w9 hh
    have hh := lett_let B5.out (show w.heap.size ≤ s + 1 by have := HSS.out; omega) hh (code := C) (fun hg => by rw [← HC.out]; exact fitC_ok ⟨g1, g32, rfl⟩ (fun q => q) hg) (fun ⟨p, hp1, hp2⟩ => by rw [← HC.out]; exact fitC_no ⟨g1, g32, rfl⟩ (fun q => q) (fun q => hp2 (q p hp1)))
    rcases hh with ⟨hc0, A, c, S9, rfl, h1, h2, h3⟩ | ⟨hc0, rfl, h1⟩
    · have H1 := Lib.hid h1
      have H2 := Lib.hid h2
      have H3 := Lib.hid h3
      obtain ⟨bA, oA, rfl, lA, yA⟩ := h1.ch.ex (by omega)
      have YA := Lib.hid yA
      have hnn : nl ≤ 1000 := by omega
      have hmk2 := fun W => run_makeNn nl (C := (nl : Int)) rfl (by omega) W
      obtain ⟨Z, hZ⟩ : ∃ Z : Array Value, Z = (List.replicate nl (Value.slice none 0 0)).toArray := ⟨_, rfl⟩
      rw [← hZ] at hmk2
      have HZ := Lib.hid (show Z.size = nl by rw [hZ]; simp)
      clear h1 h2 h3 yA hZ
      go_wp2_with fail
      clear hmk2 hmf heq e0 e1
      go_loopw [38] (fun i wr => OpnR nl S9 w9 i wr) (fun i _ => nl - (intOf i).toNat)
      case atStart => exact ⟨0, Z, Nat.zero_le _, rfl, heap_alloc_new w9 _, HZ.out, fun p hp => absurd hp (Nat.not_lt_zero p), (Below.refl _ _).alloc (Nat.le_refl _) _⟩
      case round =>
        obtain ⟨j, cur, hj, rfl, hrow, hcs, hcl, hbw⟩ := hrel
        have HR := Lib.hid hrow
        have HCS := Lib.hid hcs
        have HCL := Lib.hid hcl
        have HBW := Lib.hid hbw
        rcases Nat.lt_or_ge j nl with hlt2 | hge
        · have cc := YA.out j hlt2
          have y0 := (hbw.cell (p := ⟨bA, oA + j * 3, none⟩) lA).trans cc.c0
          have y1 := (hbw.cell (p := ⟨bA, oA + j * 3 + 1, none⟩) lA).trans cc.c1
          have y2 := (hbw.cell (p := ⟨bA, oA + j * 3 + 2, none⟩) lA).trans cc.c2
          have hji : (j : Int) < (nl : Int) := by omega
          have hji1 : ¬ (nl : Int) ≤ (j : Int) := by omega
          have sz0 := (Array.getElem?_eq_some_iff.1 hrow).1
          obtain ⟨v0, x0⟩ := cell_in hrow (o := j) (by omega)
          have f0 := frozen_of_row wr w9.heap.size j _ _ hrow
          clear hrow hcs hcl hbw cc
          go_wp2_with fail
          go_roundw
          case rel =>
            have hal : ∀ (W' : World) (o : Obj), Below W'.heap.size W' (W'.alloc o) := fun W' o => (Below.refl _ _).alloc (Nat.le_refl _) o
            refine ⟨j + 1, _, by omega, by go_num, ((hal _ _).block _ (by simpa using sz0)).trans (heap_setCell_same _ _ j _ _ _ HR.out), by have := HCS.out; simpa using this, fun p hp => ?_, ((Bo.set w9.heap.size j wr _).trans (Bo.of _ (hal _ _))).below HBW.out (Nat.le_refl _)⟩
            rcases Nat.lt_or_ge p j with g | g
            · rw [Array.getElem?_setIfInBounds_ne (by omega)]; exact HCL.out p g
            · obtain rfl : p = j := by omega
              rw [Array.getElem?_setIfInBounds_self_of_lt (by have := HCS.out; omega)]
          case measure => simp [intOf]; omega
        · obtain rfl : nl = j := by omega
          go_wp2_with fail
          go_ret2
          have h1 := H1.out
          refine .inl ⟨hc0, _, nl, fun i => ⟨(S9 i).A2, (S9 i).n2, (S9 i).c2, (S9 i).Q⟩, rfl, ⟨Nat.le_refl _, by omega, fun _ => ⟨w9.heap.size, 0, rfl, (Array.getElem?_eq_some_iff.1 HR.out).1, fun i hi => ?_⟩, fun i hi => (h1.ch.at_ i hi).q.below HBW.out⟩, fun i hi => (h1.can i hi).2.1, fun i hi => congrArg Trp.b (H2.out i hi), fun a ha => by injection ha with ha; subst ha; exact H3.out.size, H3.out.trans (HBW.out.mono H3.out.size)⟩
          rw [Nat.zero_add]
          exact (cell_of_row wr _ _ _ _ _ HR.out).trans (HCL.out i hi)
    · have H1 := Lib.hid h1
      clear h1
      go_wp2_with fail
      go_ret2
      exact .inr ⟨hc0, rfl, H1.out⟩
end
end Go.Proofs.YtpmnghealjgkeaaGreat
