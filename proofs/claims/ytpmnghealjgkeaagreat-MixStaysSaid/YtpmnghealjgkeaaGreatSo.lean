/-
  What the operations of a sequence answer: product, quotient, power, base, element.
-/
import Derived.Test.YtpmnghealjgkeaaGreatSq
import Derived.Test.YtpmnghealjgkeaaGreatGro
import Derived.Test.YtpmnghealjgkeaaGreatMxx
import Derived.Deep.RegionHeld3
namespace Go.Proofs.YtpmnghealjgkeaaGreat
open Go.RowKit
set_option linter.unusedVariables false
theorem below_dr0 {w w' : World} (h : Below w.drew.heap.size w.drew w') : Below w.heap.size w w' := (Below.refl w.heap.size w).drew.trans h
theorem ans_dr0 {N : Int} {w w' : World} {e : Ending} (h : Ans N w.drew e w') : Ans N w e w' := by
  obtain ⟨B, m, cap, h1, h2, h3, h4⟩ := h
  exact ⟨B, m, cap, h1, h2, below_dr0 h3, h4⟩
theorem enter_of {P : Program} {f : FuncId} {fn : Func} {c : Code} (hf : P.funcs[f]? = some fn) (hname : (fn.name == "runtime.NumGoroutine") = false) (hb : fn.body = some c) : ∀ (xs : Array Value) (W : World), (callFunc f xs).run P W = .ok (.enter f xs) W := fun xs W => by
  have h1 : fn.name ≠ "runtime.NumGoroutine" := by simpa using hname
  simp [callFunc, hf, h1, hb]
section
variable {w : World} {b r : Nat} {d : Gd} {q q' : Bool} {A A' : Option Addr} {n c n' c' g0 g1 g2 : Nat} {X Y : Int}
theorem OpP.base_ {w0 w' : World} {e : Ending} {N : Int} (hb : Below w.heap.size w w0) (h : OpP r b q N w0 e w') : OpP r b q N w e w' := by
  obtain ⟨A, n, c, h1, h2, h3, h4, h5⟩ := h
  exact ⟨A, n, c, h1, h2, fun a ha => Nat.le_trans hb.size (h3 a ha), h4, (Bo.of r hb).trans h5⟩
theorem OpP.num {w' : World} {e : Ending} {N M : Int} (h : OpP r b q N w e w') (hN : q = false → N = M) : OpP r b q M w e w' := by
  obtain ⟨A, n, c, h1, h2, h3, h4, h5⟩ := h
  exact ⟨A, n, c, h1, fun g => by rw [← hN g]; exact h2 g, h3, h4, h5⟩
theorem clo_product_ok (h : Sq w r b q) (k0 : w.cell? ⟨g0, 0, none⟩ = some (.pointer (some ⟨r, 0, none⟩))) (k1 : w.cell? ⟨g1, 0, none⟩ = some (.slice A n c)) (k2 : w.cell? ⟨g2, 0, none⟩ = some (.slice A' n' c')) (N : Int) (hF : Calls Tryz.prog 126 #[.pointer (some ⟨b, 0, none⟩), .slice A n c, .slice A' n' c'] w.drew (Ans N w.drew)) :
    Calls Tryz.prog 125 #[.pointer (some ⟨g0, 0, none⟩), .pointer (some ⟨g1, 0, none⟩), .pointer (some ⟨g2, 0, none⟩)] w (Ans N w) := by
  have z0 := h.c0
  have lr := h.lt
  have l0 : g0 < w.heap.size := block_lt_of_cell k0
  have l1 : g1 < w.heap.size := block_lt_of_cell k1
  have l2 : g2 < w.heap.size := block_lt_of_cell k2
  have HF := Lib.hid hF
  clear hF h
  go_enter Tryz.func125, Tryz.ntmps125
  go_wp2_with fail
  go_region_held3 (fun w' => w'.cell? ⟨g0, 0, none⟩ = some (.pointer (some ⟨r, 0, none⟩)) ∧ w'.cell? ⟨r, 0, none⟩ = some (.pointer (some ⟨b, 0, none⟩)) ∧ w'.cell? ⟨g1, 0, none⟩ = some (.slice A n c) ∧ w'.cell? ⟨g2, 0, none⟩ = some (.slice A' n' c')) (first | exact ⟨k0, z0, k1, k2⟩ | exact kE | go_keep | assumption)
    (first
    | (go_at_call 126; (with_reducible refine HF.out.mono ?_); rintro e w1 ⟨A1, n1, c1, rfl, hc, hb, hn⟩; have hb := below_dr0 hb; have kE := And.intro ((hb.cell (p := ⟨g0, 0, none⟩) l0).trans k0) (And.intro ((hb.cell (p := ⟨r, 0, none⟩) lr).trans z0) (And.intro ((hb.cell (p := ⟨g1, 0, none⟩) l1).trans k1) ((hb.cell (p := ⟨g2, 0, none⟩) l2).trans k2))); have HB := Lib.hid hb; have HC := Lib.hid hc; have HN := Lib.hid hn; clear hc hn hb))
  all_goals
    clear k0 z0 k1 k2 l0 lr l1 l2
    go_wp2_with fail
    go_ret2
    exact ⟨A1, n1, c1, rfl, HC.out, HB.out, HN.out⟩
theorem clo_product_no (h : Sq w r b q) (k0 : w.cell? ⟨g0, 0, none⟩ = some (.pointer (some ⟨r, 0, none⟩))) (k1 : w.cell? ⟨g1, 0, none⟩ = some (.slice A n c)) (k2 : w.cell? ⟨g2, 0, none⟩ = some (.slice A' n' c')) (N : Int) (hF : Calls Tryz.prog 126 #[.pointer (some ⟨b, 0, none⟩), .slice A n c, .slice A' n' c'] w.drew (Err1 8 w.drew)) :
    Calls Tryz.prog 125 #[.pointer (some ⟨g0, 0, none⟩), .pointer (some ⟨g1, 0, none⟩), .pointer (some ⟨g2, 0, none⟩)] w (Err1 8 w) := by
  have z0 := h.c0
  have lr := h.lt
  have l0 : g0 < w.heap.size := block_lt_of_cell k0
  have l1 : g1 < w.heap.size := block_lt_of_cell k1
  have l2 : g2 < w.heap.size := block_lt_of_cell k2
  have HF := Lib.hid hF
  clear hF h
  go_enter Tryz.func125, Tryz.ntmps125
  go_wp2_with fail
  go_region_held3 (fun w' => w'.cell? ⟨g0, 0, none⟩ = some (.pointer (some ⟨r, 0, none⟩)) ∧ w'.cell? ⟨r, 0, none⟩ = some (.pointer (some ⟨b, 0, none⟩)) ∧ w'.cell? ⟨g1, 0, none⟩ = some (.slice A n c) ∧ w'.cell? ⟨g2, 0, none⟩ = some (.slice A' n' c')) (first | exact ⟨k0, z0, k1, k2⟩ | exact kE | go_keep | assumption)
    (first
    | (go_at_call 126; (with_reducible refine HF.out.mono ?_); rintro e w1 ⟨rfl, hb⟩; have hb := below_dr0 hb; have kE := And.intro ((hb.cell (p := ⟨g0, 0, none⟩) l0).trans k0) (And.intro ((hb.cell (p := ⟨r, 0, none⟩) lr).trans z0) (And.intro ((hb.cell (p := ⟨g1, 0, none⟩) l1).trans k1) ((hb.cell (p := ⟨g2, 0, none⟩) l2).trans k2))); have HB := Lib.hid hb; clear hb))
  all_goals
    clear k0 z0 k1 k2 l0 lr l1 l2
    go_wp2_with fail
    go_ret2
    exact ⟨rfl, HB.out⟩
theorem ent_product : ∀ (xs : Array Value) (W : World), (callFunc 125 xs).run Tryz.prog W = .ok (.enter 125 xs) W := enter_of Tryz.func125 (by kernel_rfl) rfl
theorem product_q (h : Sq w r b q) (hg : Gr w b d) (ha : q = false → Nm w A n c X) (ha' : q = false → Nm w A' n' c' Y) (hq : q' = true ↔ q = true ∨ ¬ (El d.P d.Q X ∧ El d.P d.Q Y)) :
    Calls Tryz.prog 88 #[.pointer (some ⟨r, 0, none⟩), .slice A n c, .slice A' n' c'] w (OpP r b q' (X * Y % d.P) w) := by
  obtain ⟨W3, hW⟩ : ∃ W3, W3 = (((w.alloc (.cells #[.pointer (some ⟨r, 0, none⟩)] 138)).alloc (.cells #[.slice A n c] 23)).alloc (.cells #[.slice A' n' c'] 23)) := ⟨_, rfl⟩
  have b3 : Below w.heap.size w W3 := by rw [hW]; exact (((Below.refl _ _).alloc (Nat.le_refl _) _).alloc (by simp) _).alloc (by simp; omega) _
  have k0 : W3.cell? ⟨w.heap.size, 0, none⟩ = some (.pointer (some ⟨r, 0, none⟩)) := by rw [hW, World.cell?_alloc_past _ _ _ (by simp; omega), World.cell?_alloc_past _ _ _ (by simp), World.cell?_alloc_at _ _ _ _ rfl]; rfl
  have k1 : W3.cell? ⟨w.heap.size + 1, 0, none⟩ = some (.slice A n c) := by rw [hW, World.cell?_alloc_past _ _ _ (by simp), World.cell?_alloc_at _ _ _ _ (by simp)]; rfl
  have k2 : W3.cell? ⟨w.heap.size + 1 + 1, 0, none⟩ = some (.slice A' n' c') := by rw [hW, World.cell?_alloc_at _ _ _ _ (by simp)]; rfl
  have bd : Below w.heap.size w W3.drew := b3.trans ((Below.refl _ _).drew.mono b3.size)
  have key : Calls Tryz.prog 123 #[.pointer (some ⟨r, 0, none⟩), .func (.func 125) #[] #[.pointer (some ⟨w.heap.size, 0, none⟩), .pointer (some ⟨w.heap.size + 1, 0, none⟩), .pointer (some ⟨w.heap.size + 1 + 1, 0, none⟩)]] W3 (OpP r b q' (X * Y % d.P) W3) := by
    cases q with
    | true =>
      obtain rfl : q' = true := hq.2 (.inl rfl)
      exact do_bad (h.below b3) _ _
    | false =>
      by_cases g : El d.P d.Q X ∧ El d.P d.Q Y
      · obtain rfl : q' = false := by
          cases q' with
          | false => rfl
          | true => exact absurd g ((hq.1 rfl).resolve_left (by decide))
        exact do_ok (h.below b3) (clo_product_ok (h.below b3) k0 k1 k2 _ (gmul_any (hg.below bd).toGr0 ((ha rfl).below bd) ((ha' rfl).below bd) g.1 g.2)) ent_product
      · obtain rfl : q' = true := hq.2 (.inr g)
        exact do_no (h.below b3) _ (clo_product_no (h.below b3) k0 k1 k2 0 (gmul_no (hg.below bd).toGr0 ((ha rfl).below bd) ((ha' rfl).below bd) g)) ent_product
  have KEY := Lib.hid key
  have B3 := Lib.hid b3
  have hmf := sq_mk
  clear key b3 bd h hg ha ha' k1 k2
  subst hW
  go_enter Tryz.func88, Tryz.ntmps88
  go_wp2_with fail
  refine KEY.out.mono ?_
  rintro e w1 ⟨A1, n1, c1, rfl, hc, hn, hs, hb⟩
  have HC := Lib.hid hc
  have HN := Lib.hid hn
  have HS := Lib.hid hs
  have HB := Lib.hid hb
  clear hc hn hs hb KEY k0 hmf
  go_wp2_with fail
  go_ret
  exact OpP.base_ B3.out ⟨A1, n1, c1, rfl, HC.out, HN.out, HS.out, HB.out⟩
theorem clo_quotient_ok (h : Sq w r b q) (k0 : w.cell? ⟨g0, 0, none⟩ = some (.pointer (some ⟨r, 0, none⟩))) (k1 : w.cell? ⟨g1, 0, none⟩ = some (.slice A n c)) (k2 : w.cell? ⟨g2, 0, none⟩ = some (.slice A' n' c')) (N : Int) (hF : Calls Tryz.prog 137 #[.pointer (some ⟨b, 0, none⟩), .slice A n c, .slice A' n' c'] w.drew (Ans N w.drew)) :
    Calls Tryz.prog 136 #[.pointer (some ⟨g0, 0, none⟩), .pointer (some ⟨g1, 0, none⟩), .pointer (some ⟨g2, 0, none⟩)] w (Ans N w) := by
  have z0 := h.c0
  have lr := h.lt
  have l0 : g0 < w.heap.size := block_lt_of_cell k0
  have l1 : g1 < w.heap.size := block_lt_of_cell k1
  have l2 : g2 < w.heap.size := block_lt_of_cell k2
  have HF := Lib.hid hF
  clear hF h
  go_enter Tryz.func136, Tryz.ntmps136
  go_wp2_with fail
  go_region_held3 (fun w' => w'.cell? ⟨g0, 0, none⟩ = some (.pointer (some ⟨r, 0, none⟩)) ∧ w'.cell? ⟨r, 0, none⟩ = some (.pointer (some ⟨b, 0, none⟩)) ∧ w'.cell? ⟨g1, 0, none⟩ = some (.slice A n c) ∧ w'.cell? ⟨g2, 0, none⟩ = some (.slice A' n' c')) (first | exact ⟨k0, z0, k1, k2⟩ | exact kE | go_keep | assumption)
    (first
    | (go_at_call 137; (with_reducible refine HF.out.mono ?_); rintro e w1 ⟨A1, n1, c1, rfl, hc, hb, hn⟩; have hb := below_dr0 hb; have kE := And.intro ((hb.cell (p := ⟨g0, 0, none⟩) l0).trans k0) (And.intro ((hb.cell (p := ⟨r, 0, none⟩) lr).trans z0) (And.intro ((hb.cell (p := ⟨g1, 0, none⟩) l1).trans k1) ((hb.cell (p := ⟨g2, 0, none⟩) l2).trans k2))); have HB := Lib.hid hb; have HC := Lib.hid hc; have HN := Lib.hid hn; clear hc hn hb))
  all_goals
    clear k0 z0 k1 k2 l0 lr l1 l2
    go_wp2_with fail
    go_ret2
    exact ⟨A1, n1, c1, rfl, HC.out, HB.out, HN.out⟩
theorem clo_quotient_no (h : Sq w r b q) (k0 : w.cell? ⟨g0, 0, none⟩ = some (.pointer (some ⟨r, 0, none⟩))) (k1 : w.cell? ⟨g1, 0, none⟩ = some (.slice A n c)) (k2 : w.cell? ⟨g2, 0, none⟩ = some (.slice A' n' c')) (N : Int) (hF : Calls Tryz.prog 137 #[.pointer (some ⟨b, 0, none⟩), .slice A n c, .slice A' n' c'] w.drew (Err1 8 w.drew)) :
    Calls Tryz.prog 136 #[.pointer (some ⟨g0, 0, none⟩), .pointer (some ⟨g1, 0, none⟩), .pointer (some ⟨g2, 0, none⟩)] w (Err1 8 w) := by
  have z0 := h.c0
  have lr := h.lt
  have l0 : g0 < w.heap.size := block_lt_of_cell k0
  have l1 : g1 < w.heap.size := block_lt_of_cell k1
  have l2 : g2 < w.heap.size := block_lt_of_cell k2
  have HF := Lib.hid hF
  clear hF h
  go_enter Tryz.func136, Tryz.ntmps136
  go_wp2_with fail
  go_region_held3 (fun w' => w'.cell? ⟨g0, 0, none⟩ = some (.pointer (some ⟨r, 0, none⟩)) ∧ w'.cell? ⟨r, 0, none⟩ = some (.pointer (some ⟨b, 0, none⟩)) ∧ w'.cell? ⟨g1, 0, none⟩ = some (.slice A n c) ∧ w'.cell? ⟨g2, 0, none⟩ = some (.slice A' n' c')) (first | exact ⟨k0, z0, k1, k2⟩ | exact kE | go_keep | assumption)
    (first
    | (go_at_call 137; (with_reducible refine HF.out.mono ?_); rintro e w1 ⟨rfl, hb⟩; have hb := below_dr0 hb; have kE := And.intro ((hb.cell (p := ⟨g0, 0, none⟩) l0).trans k0) (And.intro ((hb.cell (p := ⟨r, 0, none⟩) lr).trans z0) (And.intro ((hb.cell (p := ⟨g1, 0, none⟩) l1).trans k1) ((hb.cell (p := ⟨g2, 0, none⟩) l2).trans k2))); have HB := Lib.hid hb; clear hb))
  all_goals
    clear k0 z0 k1 k2 l0 lr l1 l2
    go_wp2_with fail
    go_ret2
    exact ⟨rfl, HB.out⟩
theorem ent_quotient : ∀ (xs : Array Value) (W : World), (callFunc 136 xs).run Tryz.prog W = .ok (.enter 136 xs) W := enter_of Tryz.func136 (by kernel_rfl) rfl
theorem quotient_q (h : Sq w r b q) (hg : Gr w b d) (ha : q = false → Nm w A n c X) (ha' : q = false → Nm w A' n' c' Y) (hq : q' = true ↔ q = true ∨ ¬ (El d.P d.Q X ∧ El d.P d.Q Y)) :
    Calls Tryz.prog 101 #[.pointer (some ⟨r, 0, none⟩), .slice A n c, .slice A' n' c'] w (OpP r b q' (X * iv d.P d.Q Y % d.P) w) := by
  obtain ⟨W3, hW⟩ : ∃ W3, W3 = (((w.alloc (.cells #[.pointer (some ⟨r, 0, none⟩)] 138)).alloc (.cells #[.slice A n c] 23)).alloc (.cells #[.slice A' n' c'] 23)) := ⟨_, rfl⟩
  have b3 : Below w.heap.size w W3 := by rw [hW]; exact (((Below.refl _ _).alloc (Nat.le_refl _) _).alloc (by simp) _).alloc (by simp; omega) _
  have k0 : W3.cell? ⟨w.heap.size, 0, none⟩ = some (.pointer (some ⟨r, 0, none⟩)) := by rw [hW, World.cell?_alloc_past _ _ _ (by simp; omega), World.cell?_alloc_past _ _ _ (by simp), World.cell?_alloc_at _ _ _ _ rfl]; rfl
  have k1 : W3.cell? ⟨w.heap.size + 1, 0, none⟩ = some (.slice A n c) := by rw [hW, World.cell?_alloc_past _ _ _ (by simp), World.cell?_alloc_at _ _ _ _ (by simp)]; rfl
  have k2 : W3.cell? ⟨w.heap.size + 1 + 1, 0, none⟩ = some (.slice A' n' c') := by rw [hW, World.cell?_alloc_at _ _ _ _ (by simp)]; rfl
  have bd : Below w.heap.size w W3.drew := b3.trans ((Below.refl _ _).drew.mono b3.size)
  have key : Calls Tryz.prog 123 #[.pointer (some ⟨r, 0, none⟩), .func (.func 136) #[] #[.pointer (some ⟨w.heap.size, 0, none⟩), .pointer (some ⟨w.heap.size + 1, 0, none⟩), .pointer (some ⟨w.heap.size + 1 + 1, 0, none⟩)]] W3 (OpP r b q' (X * iv d.P d.Q Y % d.P) W3) := by
    cases q with
    | true =>
      obtain rfl : q' = true := hq.2 (.inl rfl)
      exact do_bad (h.below b3) _ _
    | false =>
      by_cases g : El d.P d.Q X ∧ El d.P d.Q Y
      · obtain rfl : q' = false := by
          cases q' with
          | false => rfl
          | true => exact absurd g ((hq.1 rfl).resolve_left (by decide))
        exact do_ok (h.below b3) (clo_quotient_ok (h.below b3) k0 k1 k2 _ (gover_any (hg.below bd).toGr0 ((ha rfl).below bd) ((ha' rfl).below bd) g.1 g.2)) ent_quotient
      · obtain rfl : q' = true := hq.2 (.inr g)
        exact do_no (h.below b3) _ (clo_quotient_no (h.below b3) k0 k1 k2 0 (gover_no (hg.below bd).toGr0 ((ha rfl).below bd) ((ha' rfl).below bd) g)) ent_quotient
  have KEY := Lib.hid key
  have B3 := Lib.hid b3
  have hmf := sq_mk
  clear key b3 bd h hg ha ha' k1 k2
  subst hW
  go_enter Tryz.func101, Tryz.ntmps101
  go_wp2_with fail
  refine KEY.out.mono ?_
  rintro e w1 ⟨A1, n1, c1, rfl, hc, hn, hs, hb⟩
  have HC := Lib.hid hc
  have HN := Lib.hid hn
  have HS := Lib.hid hs
  have HB := Lib.hid hb
  clear hc hn hs hb KEY k0 hmf
  go_wp2_with fail
  go_ret
  exact OpP.base_ B3.out ⟨A1, n1, c1, rfl, HC.out, HN.out, HS.out, HB.out⟩
theorem clo_power_ok (h : Sq w r b q) (k0 : w.cell? ⟨g0, 0, none⟩ = some (.pointer (some ⟨r, 0, none⟩))) (k1 : w.cell? ⟨g1, 0, none⟩ = some (.slice A n c)) (k2 : w.cell? ⟨g2, 0, none⟩ = some (.slice A' n' c')) (N : Int) (hF : Calls Tryz.prog 128 #[.pointer (some ⟨b, 0, none⟩), .slice A n c, .slice A' n' c'] w.drew (Ans N w.drew)) :
    Calls Tryz.prog 127 #[.pointer (some ⟨g0, 0, none⟩), .pointer (some ⟨g1, 0, none⟩), .pointer (some ⟨g2, 0, none⟩)] w (Ans N w) := by
  have z0 := h.c0
  have lr := h.lt
  have l0 : g0 < w.heap.size := block_lt_of_cell k0
  have l1 : g1 < w.heap.size := block_lt_of_cell k1
  have l2 : g2 < w.heap.size := block_lt_of_cell k2
  have HF := Lib.hid hF
  clear hF h
  go_enter Tryz.func127, Tryz.ntmps127
  go_wp2_with fail
  go_region_held3 (fun w' => w'.cell? ⟨g0, 0, none⟩ = some (.pointer (some ⟨r, 0, none⟩)) ∧ w'.cell? ⟨r, 0, none⟩ = some (.pointer (some ⟨b, 0, none⟩)) ∧ w'.cell? ⟨g1, 0, none⟩ = some (.slice A n c) ∧ w'.cell? ⟨g2, 0, none⟩ = some (.slice A' n' c')) (first | exact ⟨k0, z0, k1, k2⟩ | exact kE | go_keep | assumption)
    (first
    | (go_at_call 128; (with_reducible refine HF.out.mono ?_); rintro e w1 ⟨A1, n1, c1, rfl, hc, hb, hn⟩; have hb := below_dr0 hb; have kE := And.intro ((hb.cell (p := ⟨g0, 0, none⟩) l0).trans k0) (And.intro ((hb.cell (p := ⟨r, 0, none⟩) lr).trans z0) (And.intro ((hb.cell (p := ⟨g1, 0, none⟩) l1).trans k1) ((hb.cell (p := ⟨g2, 0, none⟩) l2).trans k2))); have HB := Lib.hid hb; have HC := Lib.hid hc; have HN := Lib.hid hn; clear hc hn hb))
  all_goals
    clear k0 z0 k1 k2 l0 lr l1 l2
    go_wp2_with fail
    go_ret2
    exact ⟨A1, n1, c1, rfl, HC.out, HB.out, HN.out⟩
theorem clo_power_no (h : Sq w r b q) (k0 : w.cell? ⟨g0, 0, none⟩ = some (.pointer (some ⟨r, 0, none⟩))) (k1 : w.cell? ⟨g1, 0, none⟩ = some (.slice A n c)) (k2 : w.cell? ⟨g2, 0, none⟩ = some (.slice A' n' c')) (N : Int) (hF : Calls Tryz.prog 128 #[.pointer (some ⟨b, 0, none⟩), .slice A n c, .slice A' n' c'] w.drew (Err1 8 w.drew)) :
    Calls Tryz.prog 127 #[.pointer (some ⟨g0, 0, none⟩), .pointer (some ⟨g1, 0, none⟩), .pointer (some ⟨g2, 0, none⟩)] w (Err1 8 w) := by
  have z0 := h.c0
  have lr := h.lt
  have l0 : g0 < w.heap.size := block_lt_of_cell k0
  have l1 : g1 < w.heap.size := block_lt_of_cell k1
  have l2 : g2 < w.heap.size := block_lt_of_cell k2
  have HF := Lib.hid hF
  clear hF h
  go_enter Tryz.func127, Tryz.ntmps127
  go_wp2_with fail
  go_region_held3 (fun w' => w'.cell? ⟨g0, 0, none⟩ = some (.pointer (some ⟨r, 0, none⟩)) ∧ w'.cell? ⟨r, 0, none⟩ = some (.pointer (some ⟨b, 0, none⟩)) ∧ w'.cell? ⟨g1, 0, none⟩ = some (.slice A n c) ∧ w'.cell? ⟨g2, 0, none⟩ = some (.slice A' n' c')) (first | exact ⟨k0, z0, k1, k2⟩ | exact kE | go_keep | assumption)
    (first
    | (go_at_call 128; (with_reducible refine HF.out.mono ?_); rintro e w1 ⟨rfl, hb⟩; have hb := below_dr0 hb; have kE := And.intro ((hb.cell (p := ⟨g0, 0, none⟩) l0).trans k0) (And.intro ((hb.cell (p := ⟨r, 0, none⟩) lr).trans z0) (And.intro ((hb.cell (p := ⟨g1, 0, none⟩) l1).trans k1) ((hb.cell (p := ⟨g2, 0, none⟩) l2).trans k2))); have HB := Lib.hid hb; clear hb))
  all_goals
    clear k0 z0 k1 k2 l0 lr l1 l2
    go_wp2_with fail
    go_ret2
    exact ⟨rfl, HB.out⟩
theorem ent_power : ∀ (xs : Array Value) (W : World), (callFunc 127 xs).run Tryz.prog W = .ok (.enter 127 xs) W := enter_of Tryz.func127 (by kernel_rfl) rfl
theorem power_q (h : Sq w r b q) (hg : Gr w b d) (ha : q = false → Nm w A n c X) (ha' : Nm w A' n' c' Y) (ly : dl Y ≤ 64) (hq : q' = true ↔ q = true ∨ ¬ El d.P d.Q X) :
    Calls Tryz.prog 89 #[.pointer (some ⟨r, 0, none⟩), .slice A n c, .slice A' n' c'] w (OpP r b q' (gx d.P d.Q X Y) w) := by
  obtain ⟨W3, hW⟩ : ∃ W3, W3 = (((w.alloc (.cells #[.pointer (some ⟨r, 0, none⟩)] 138)).alloc (.cells #[.slice A n c] 23)).alloc (.cells #[.slice A' n' c'] 23)) := ⟨_, rfl⟩
  have b3 : Below w.heap.size w W3 := by rw [hW]; exact (((Below.refl _ _).alloc (Nat.le_refl _) _).alloc (by simp) _).alloc (by simp; omega) _
  have k0 : W3.cell? ⟨w.heap.size, 0, none⟩ = some (.pointer (some ⟨r, 0, none⟩)) := by rw [hW, World.cell?_alloc_past _ _ _ (by simp; omega), World.cell?_alloc_past _ _ _ (by simp), World.cell?_alloc_at _ _ _ _ rfl]; rfl
  have k1 : W3.cell? ⟨w.heap.size + 1, 0, none⟩ = some (.slice A n c) := by rw [hW, World.cell?_alloc_past _ _ _ (by simp), World.cell?_alloc_at _ _ _ _ (by simp)]; rfl
  have k2 : W3.cell? ⟨w.heap.size + 1 + 1, 0, none⟩ = some (.slice A' n' c') := by rw [hW, World.cell?_alloc_at _ _ _ _ (by simp)]; rfl
  have bd : Below w.heap.size w W3.drew := b3.trans ((Below.refl _ _).drew.mono b3.size)
  have key : Calls Tryz.prog 123 #[.pointer (some ⟨r, 0, none⟩), .func (.func 127) #[] #[.pointer (some ⟨w.heap.size, 0, none⟩), .pointer (some ⟨w.heap.size + 1, 0, none⟩), .pointer (some ⟨w.heap.size + 1 + 1, 0, none⟩)]] W3 (OpP r b q' (gx d.P d.Q X Y) W3) := by
    cases q with
    | true =>
      obtain rfl : q' = true := hq.2 (.inl rfl)
      exact do_bad (h.below b3) _ _
    | false =>
      by_cases g : El d.P d.Q X
      · obtain rfl : q' = false := by
          cases q' with
          | false => rfl
          | true => exact absurd g ((hq.1 rfl).resolve_left (by decide))
        have e : gx d.P d.Q X Y = X ^ Y.toNat % d.P := g.red hg.safe.p2 hg.safe.q1 ha'.pos
        rw [e]
        exact do_ok (h.below b3) (clo_power_ok (h.below b3) k0 k1 k2 _ (gexp_any (hg.below bd).toGr0 ((ha rfl).below bd) (ha'.below bd) g ly)) ent_power
      · obtain rfl : q' = true := hq.2 (.inr g)
        exact do_no (h.below b3) _ (clo_power_no (h.below b3) k0 k1 k2 0 (gexp_no (hg.below bd).toGr0 ((ha rfl).below bd) _ g)) ent_power
  have KEY := Lib.hid key
  have B3 := Lib.hid b3
  have hmf := sq_mk
  clear key b3 bd h hg ha ha' k1 k2
  subst hW
  go_enter Tryz.func89, Tryz.ntmps89
  go_wp2_with fail
  refine KEY.out.mono ?_
  rintro e w1 ⟨A1, n1, c1, rfl, hc, hn, hs, hb⟩
  have HC := Lib.hid hc
  have HN := Lib.hid hn
  have HS := Lib.hid hs
  have HB := Lib.hid hb
  clear hc hn hs hb KEY k0 hmf
  go_wp2_with fail
  go_ret
  exact OpP.base_ B3.out ⟨A1, n1, c1, rfl, HC.out, HN.out, HS.out, HB.out⟩
theorem clo_base_ok (h : Sq w r b q) (k0 : w.cell? ⟨g0, 0, none⟩ = some (.pointer (some ⟨r, 0, none⟩))) (k2 : w.cell? ⟨g2, 0, none⟩ = some (.slice A' n' c')) (N : Int) (hF : Calls Tryz.prog 36 #[.pointer (some ⟨b, 0, none⟩), .slice A' n' c'] w.drew (Ans N w.drew)) :
    Calls Tryz.prog 124 #[.pointer (some ⟨g0, 0, none⟩), .pointer (some ⟨g2, 0, none⟩)] w (Ans N w) := by
  have z0 := h.c0
  have lr := h.lt
  have l0 : g0 < w.heap.size := block_lt_of_cell k0
  
  have l2 : g2 < w.heap.size := block_lt_of_cell k2
  have HF := Lib.hid hF
  clear hF h
  go_enter Tryz.func124, Tryz.ntmps124
  go_wp2_with fail
  go_region_held3 (fun w' => w'.cell? ⟨g0, 0, none⟩ = some (.pointer (some ⟨r, 0, none⟩)) ∧ w'.cell? ⟨r, 0, none⟩ = some (.pointer (some ⟨b, 0, none⟩)) ∧ w'.cell? ⟨g2, 0, none⟩ = some (.slice A' n' c')) (first | exact ⟨k0, z0, k2⟩ | exact kE | go_keep | assumption)
    (first
    | (go_at_call 36; (with_reducible refine HF.out.mono ?_); rintro e w1 ⟨A1, n1, c1, rfl, hc, hb, hn⟩; have hb := below_dr0 hb; have kE := And.intro ((hb.cell (p := ⟨g0, 0, none⟩) l0).trans k0) (And.intro ((hb.cell (p := ⟨r, 0, none⟩) lr).trans z0) ((hb.cell (p := ⟨g2, 0, none⟩) l2).trans k2)); have HB := Lib.hid hb; have HC := Lib.hid hc; have HN := Lib.hid hn; clear hc hn hb))
  all_goals
    clear k0 z0 k2 l0 lr  l2
    go_wp2_with fail
    go_ret2
    exact ⟨A1, n1, c1, rfl, HC.out, HB.out, HN.out⟩
theorem ent_base : ∀ (xs : Array Value) (W : World), (callFunc 124 xs).run Tryz.prog W = .ok (.enter 124 xs) W := enter_of Tryz.func124 (by kernel_rfl) rfl
theorem base_q (h : Sq w r b q) (hg : Gr w b d) (ha' : Nm w A' n' c' Y) (ly : dl Y ≤ 64) :
    Calls Tryz.prog 87 #[.pointer (some ⟨r, 0, none⟩), .slice A' n' c'] w (OpP r b q (gx d.P d.Q d.G Y) w) := by
  obtain ⟨W3, hW⟩ : ∃ W3, W3 = ((w.alloc (.cells #[.pointer (some ⟨r, 0, none⟩)] 138)).alloc (.cells #[.slice A' n' c'] 23)) := ⟨_, rfl⟩
  have b3 : Below w.heap.size w W3 := by rw [hW]; exact ((Below.refl _ _).alloc (Nat.le_refl _) _).alloc (by simp) _
  have k0 : W3.cell? ⟨w.heap.size, 0, none⟩ = some (.pointer (some ⟨r, 0, none⟩)) := by rw [hW, World.cell?_alloc_past _ _ _ (by simp), World.cell?_alloc_at _ _ _ _ rfl]; rfl
  
  have k2 : W3.cell? ⟨w.heap.size + 1, 0, none⟩ = some (.slice A' n' c') := by rw [hW, World.cell?_alloc_at _ _ _ _ (by simp)]; rfl
  have bd : Below w.heap.size w W3.drew := b3.trans ((Below.refl _ _).drew.mono b3.size)
  have key : Calls Tryz.prog 123 #[.pointer (some ⟨r, 0, none⟩), .func (.func 124) #[] #[.pointer (some ⟨w.heap.size, 0, none⟩), .pointer (some ⟨w.heap.size + 1, 0, none⟩)]] W3 (OpP r b q (gx d.P d.Q d.G Y) W3) := by
    cases q with
    | true => exact do_bad (h.below b3) _ _
    | false =>
      have e : gx d.P d.Q d.G Y = d.G ^ Y.toNat % d.P := hg.el.red hg.safe.p2 hg.safe.q1 ha'.pos
      rw [e]
      exact do_ok (h.below b3) (clo_base_ok (h.below b3) k0 k2 _ (gbase_any (hg.below bd) (ha'.below bd) ly)) ent_base
  have KEY := Lib.hid key
  have B3 := Lib.hid b3
  have hmf := sq_mk
  clear key b3 bd h hg ha' k2
  subst hW
  go_enter Tryz.func87, Tryz.ntmps87
  go_wp2_with fail
  refine KEY.out.mono ?_
  rintro e w1 ⟨A1, n1, c1, rfl, hc, hn, hs, hb⟩
  have HC := Lib.hid hc
  have HN := Lib.hid hn
  have HS := Lib.hid hs
  have HB := Lib.hid hb
  clear hc hn hs hb KEY k0 hmf
  go_wp2_with fail
  go_ret
  exact OpP.base_ B3.out ⟨A1, n1, c1, rfl, HC.out, HN.out, HS.out, HB.out⟩
/-- element: as it is, in new memory. -/
theorem element_q (h : Sq w r b q) (hg : Gr w b d) (ha : q = false → Nm w A n c X) (hq : q' = true ↔ q = true ∨ ¬ El d.P d.Q X) :
    Calls Tryz.prog 90 #[.pointer (some ⟨r, 0, none⟩), .slice A n c] w (OpP r b q' X w) := by
  have b1 : Below w.heap.size w (w.alloc (.cells #[.int .u64 1] 78)) := (Below.refl _ _).alloc (Nat.le_refl _) _
  have l1 := lit_one w 1 (by decide) (by decide)
  have key := (power_q (h.below b1) (hg.below b1) (fun g => (ha g).below b1) l1 (dl_le (by decide) (by decide)) hq).mono fun e w' g => (OpP.base_ b1 g).num (M := X) fun e1 => by
    have he : El d.P d.Q X := by
      apply Classical.byContradiction
      intro g1
      have := hq.2 (.inr g1)
      rw [e1] at this
      cases this
    rw [show gx d.P d.Q X 1 = X ^ (1 : Int).toNat % d.P from he.red hg.safe.p2 hg.safe.q1 (by decide), show (1 : Int).toNat = 1 from rfl, Int.pow_succ, Int.pow_zero, Int.one_mul]
    exact he.self
  have KEY := Lib.hid key
  clear key b1 l1 h hg ha hq
  go_enter Tryz.func90, Tryz.ntmps90
  go_wp2_with fail
  refine KEY.out.mono ?_
  rintro e w1 ⟨A1, n1, c1, rfl, hc, hn, hs, hb⟩
  have HC := Lib.hid hc
  have HN := Lib.hid hn
  have HS := Lib.hid hs
  have HB := Lib.hid hb
  clear hc hn hs hb KEY
  go_wp2_with fail
  go_ret
  exact ⟨A1, n1, c1, rfl, HC.out, HN.out, HS.out, HB.out⟩
end
end Go.Proofs.YtpmnghealjgkeaaGreat
