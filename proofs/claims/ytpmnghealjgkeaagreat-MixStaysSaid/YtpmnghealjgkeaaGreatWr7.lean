/-
  Seal once more: what it answers may be stored into.
-/
import Derived.Test.YtpmnghealjgkeaaGreatWr0
import Derived.Test.YtpmnghealjgkeaaGreatPm0
import Derived.Test.YtpmnghealjgkeaaGreatLe7
import Derived.Test.YtpmnghealjgkeaaGreatCl7
namespace Go.Proofs.YtpmnghealjgkeaaGreat
open Go.RowKit
set_option linter.unusedVariables false
theorem Bo.cnW {r : Nat} {w w' : World} {A : Option Addr} {n c : Nat} {N : Int} (h : Bo r w w') (hr : CnW w A n c N) (hx : ∀ a, A = some a → a.block ≠ r) : CnW w' A n c N := ⟨h.cn hr.toCn hx, hr.wr.stay fun a e _ hl => h.block _ hl (hx a e)⟩
theorem CnW.other {w : World} {g i : Nat} {v : Value} {A : Option Addr} {n c : Nat} {N : Int} (h : CnW w A n c N) (hx : ∀ a, A = some a → a.block ≠ g) : CnW (w.setCell ⟨g, i, none⟩ v) A n c N := (Bo.set g i w v).cnW h hx
theorem CnW.three {w : World} {g : Nat} {x y z : Value} {A : Option Addr} {n c : Nat} {N : Int} (h : CnW w A n c N) (hx : ∀ a, A = some a → a.block ≠ g) : CnW (((w.setCell ⟨g, 0, none⟩ x).setCell ⟨g, 1, none⟩ y).setCell ⟨g, 2, none⟩ z) A n c N := ((h.other hx).other hx).other hx
theorem cn_lit1W (w : World) : CnW (w.alloc (.cells #[.int .u64 1] 78)) (some ⟨w.heap.size, 0, none⟩) 1 1 1 := ⟨cn_lit1 w, wr_row (Row.new w 78 .u64 [1]) (Nat.le_refl _)⟩
/-- A letter that was answered, that may be stored into. -/
structure LoW (w : World) (base : Nat) (A : Option Addr) (n c : Nat) (S : Nat → Stp) : Prop where
  ch : Ch w A n c S
  can : CanL S n
  newA : ∀ a, A = some a → base ≤ a.block
  newS : ∀ i, i < n → (∀ a, (S i).A1 = some a → base ≤ a.block) ∧ (∀ a, (S i).A2 = some a → base ≤ a.block) ∧ ∀ a, (S i).A3 = some a → base ≤ a.block
  wr : ∀ i, i < n → Wr w (S i).A1 (S i).n1 ∧ Wr w (S i).A2 (S i).n2
  far : ∀ i, i < n → ∀ b, A = some b → (∀ a, (S i).A1 = some a → a.block ≠ b.block) ∧ ∀ a, (S i).A2 = some a → a.block ≠ b.block
theorem LoW.lo {w : World} {base : Nat} {A : Option Addr} {n c : Nat} {S : Nat → Stp} (h : LoW w base A n c S) : Lo w base A n c S := ⟨h.ch, h.can, h.newA, h.newS⟩
theorem LoW.base {w : World} {base base' : Nat} {A : Option Addr} {n c : Nat} {S : Nat → Stp} (h : LoW w base A n c S) (hb : base' ≤ base) : LoW w base' A n c S :=
  ⟨h.ch, h.can, (h.lo.base hb).newA, (h.lo.base hb).newS, h.wr, h.far⟩
theorem LoW.below {w w' : World} {base : Nat} {A : Option Addr} {n c : Nat} {S : Nat → Stp} (h : LoW w base A n c S) (hb : Below w.heap.size w w') : LoW w' base A n c S :=
  ⟨h.ch.below hb, h.can, h.newA, h.newS, fun i hi => ⟨(h.wr i hi).1.stay fun a _ _ hl => hb.block _ hl, (h.wr i hi).2.stay fun a _ _ hl => hb.block _ hl⟩, h.far⟩
theorem answ_dr0 {N : Int} {w w' : World} {e : Ending} (h : AnsWr N w.drew e w') : AnsWr N w e w' := by
  obtain ⟨B, m, cap, h1, h2, h3, h4⟩ := h
  exact ⟨B, m, cap, h1, h2, below_dr0 h3, h4⟩
section
def LetAW (T : Nat → Trp) (n : Nat) (w : World) (e : Ending) (w' : World) : Prop :=
  ∃ A c S, e = .returned (.tuple #[.slice A n c, .nilIface]) ∧ LoW w' w.heap.size A n c S ∧ (∀ i, i < n → Trp.of (S i) = T i) ∧ Below w.heap.size w w'
end
section
/-- A letter, or a Code. -/
def LetPW (code : Int) (T : Nat → Trp) (n : Nat) (w : World) (e : Ending) (w' : World) : Prop := (code = 0 ∧ LetAW T n w e w') ∨ (code ≠ 0 ∧ Err1 code w e w')
end
section
variable {r b : Nat} {q : Bool} {w w' : World}
/-- What an operation of a sequence answers. -/
def OpPW (r b : Nat) (q' : Bool) (N : Int) (w : World) (e : Ending) (w' : World) : Prop :=
  ∃ A n c, e = .returned (.slice A n c) ∧ (q' = false → CnW w' A n c N) ∧ (∀ a, A = some a → w.heap.size ≤ a.block) ∧ Sq w' r b q' ∧ Bo r w w'
end
section
variable {r b : Nat} {q : Bool} {w w' : World}
theorem do_badW (h : Sq w r b true) (f : Value) (N : Int) : Calls Tryz.prog 123 #[.pointer (some ⟨r, 0, none⟩), f] w (OpPW r b true N w) := by
  have c1 : w.cell? ⟨r, 1, none⟩ = some (.iface 80 (.int .i64 8)) := h.c1
  have HS := Lib.hid h
  have he := sq_ne1
  clear h
  go_enter Tryz.func123, Tryz.ntmps123
  go_wp2_with fail
  go_ret
  exact ⟨none, 0, 0, rfl, fun g => (by cases g), fun a g => (by cases g), HS.out, Bo.refl _ _⟩
end
section
variable {r b : Nat} {q : Bool} {w w' : World}
set_option maxRecDepth 100000 in
theorem do_okW (h : Sq w r b false) {k : Nat} {caps : Array Value} {N : Int} (hF : Calls Tryz.prog k caps w (AnsWr N w)) (hent : ∀ (xs : Array Value) (W : World), (callFunc k xs).run Tryz.prog W = .ok (.enter k xs) W) :
    Calls Tryz.prog 123 #[.pointer (some ⟨r, 0, none⟩), .func (.func k) #[] caps] w (OpPW r b false N w) := by
  have c1 : w.cell? ⟨r, 1, none⟩ = some .nilIface := h.c1
  have HL := Lib.hid h.lt
  have HS := Lib.hid h
  have HF := Lib.hid hF
  have he := sq_ne0
  clear h hF
  go_enter Tryz.func123, Tryz.ntmps123
  go_wp2_with fail
  refine HF.out.mono ?_
  rintro e w1 ⟨A, n, c, rfl, hc, hb, hn⟩
  have HS1 := Lib.hid (HS.out.below hb)
  have HC := Lib.hid hc
  have HN := Lib.hid hn
  have HB := Lib.hid (Bo.of r hb)
  have fz := (HS.out.below hb).fz 1
  have c1' := (HS.out.below hb).c1
  clear hc hn hb HS HF c1 he
  go_wp2_with fail
  go_ret
  have hb2 : Bo r w1 _ := Bo.set r 1 w1 .nilIface
  exact ⟨A, n, c, rfl, fun _ => hb2.cnW HC.out (fun a ha => by have := HN.out a ha; have := HL.out; omega), HN.out, HS1.out.set false, HB.out.trans hb2⟩
end
section
variable {r b : Nat} {q : Bool} {w w' : World}
set_option maxRecDepth 100000 in
theorem do_noW (h : Sq w r b false) {k : Nat} {caps : Array Value} (N : Int) (hF : Calls Tryz.prog k caps w (Err1 8 w)) (hent : ∀ (xs : Array Value) (W : World), (callFunc k xs).run Tryz.prog W = .ok (.enter k xs) W) :
    Calls Tryz.prog 123 #[.pointer (some ⟨r, 0, none⟩), .func (.func k) #[] caps] w (OpPW r b true N w) := by
  have c1 : w.cell? ⟨r, 1, none⟩ = some .nilIface := h.c1
  have HL := Lib.hid h.lt
  have HS := Lib.hid h
  have HF := Lib.hid hF
  have he := sq_ne0
  clear h hF
  go_enter Tryz.func123, Tryz.ntmps123
  go_wp2_with fail
  refine HF.out.mono ?_
  rintro e w1 ⟨rfl, hb⟩
  have HS1 := Lib.hid (HS.out.below hb)
  have HB := Lib.hid (Bo.of r hb)
  have fz := (HS.out.below hb).fz 1
  have c1' := (HS.out.below hb).c1
  clear hb HS HF c1 he
  go_wp2_with fail
  go_ret
  have hb2 : Bo r w1 _ := Bo.set r 1 w1 (.iface 80 (.int .i64 8))
  exact ⟨none, 0, 0, rfl, fun g => (by cases g), fun a g => (by cases g), HS1.out.set true, HB.out.trans hb2⟩
end
section
variable {w : World} {b r : Nat} {d : Gd} {q q' : Bool} {A A' : Option Addr} {n c n' c' g0 g1 g2 : Nat} {X Y : Int}
theorem OpPW.base_ {w0 w' : World} {e : Ending} {N : Int} (hb : Below w.heap.size w w0) (h : OpPW r b q N w0 e w') : OpPW r b q N w e w' := by
  obtain ⟨A, n, c, h1, h2, h3, h4, h5⟩ := h
  exact ⟨A, n, c, h1, h2, fun a ha => Nat.le_trans hb.size (h3 a ha), h4, (Bo.of r hb).trans h5⟩
end
section
variable {w : World} {b r : Nat} {d : Gd} {q q' : Bool} {A A' : Option Addr} {n c n' c' g0 g1 g2 : Nat} {X Y : Int}
theorem clo_product_okW (h : Sq w r b q) (k0 : w.cell? ⟨g0, 0, none⟩ = some (.pointer (some ⟨r, 0, none⟩))) (k1 : w.cell? ⟨g1, 0, none⟩ = some (.slice A n c)) (k2 : w.cell? ⟨g2, 0, none⟩ = some (.slice A' n' c')) (N : Int) (hF : Calls Tryz.prog 126 #[.pointer (some ⟨b, 0, none⟩), .slice A n c, .slice A' n' c'] w.drew (AnsWr N w.drew)) :
    Calls Tryz.prog 125 #[.pointer (some ⟨g0, 0, none⟩), .pointer (some ⟨g1, 0, none⟩), .pointer (some ⟨g2, 0, none⟩)] w (AnsWr N w) := by
  have z0 := h.c0
  have lr := h.lt
  have l0 : g0 < w.heap.size := block_lt_of_cell k0
  have l1 : g1 < w.heap.size := block_lt_of_cell k1
  have l2 : g2 < w.heap.size := block_lt_of_cell k2
  have HF := Lib.hid hF
  clear hF h
  go_enter Tryz.func125, Tryz.ntmps125
  go_wp2_with fail
  go_region_held3 (fun w' => w'.cell? ⟨g0, 0, none⟩ = some (.pointer (some ⟨r, 0, none⟩)) ∧ w'.cell? ⟨r, 0, none⟩ = some (.pointer (some ⟨b, 0, none⟩)) ∧ w'.cell? ⟨g1, 0, none⟩ = some (.slice A n c) ∧ w'.cell? ⟨g2, 0, none⟩ = some (.slice A' n' c')) (first | exact ⟨k0, z0, k1, k2⟩ | exact kE | go_keep | assumption)
    (first
    | (go_at_call 126; (with_reducible refine HF.out.mono ?_); rintro e w1 ⟨A1, n1, c1, rfl, hc, hb, hn⟩; have hb := below_dr0 hb; have kE := And.intro ((hb.cell (p := ⟨g0, 0, none⟩) l0).trans k0) (And.intro ((hb.cell (p := ⟨r, 0, none⟩) lr).trans z0) (And.intro ((hb.cell (p := ⟨g1, 0, none⟩) l1).trans k1) ((hb.cell (p := ⟨g2, 0, none⟩) l2).trans k2))); have HB := Lib.hid hb; have HC := Lib.hid hc; have HN := Lib.hid hn; clear hc hn hb))
  all_goals
    clear k0 z0 k1 k2 l0 lr l1 l2
    go_wp2_with fail
    go_ret2
    exact ⟨A1, n1, c1, rfl, HC.out, HB.out, HN.out⟩
end
section
variable {w : World} {b r : Nat} {d : Gd} {q q' : Bool} {A A' : Option Addr} {n c n' c' g0 g1 g2 : Nat} {X Y : Int}
theorem product_qW (h : Sq w r b q) (hg : Gr w b d) (ha : q = false → Nm w A n c X) (ha' : q = false → Nm w A' n' c' Y) (hq : q' = true ↔ q = true ∨ ¬ (El d.P d.Q X ∧ El d.P d.Q Y)) :
    Calls Tryz.prog 88 #[.pointer (some ⟨r, 0, none⟩), .slice A n c, .slice A' n' c'] w (OpPW r b q' (X * Y % d.P) w) := by
  obtain ⟨W3, hW⟩ : ∃ W3, W3 = (((w.alloc (.cells #[.pointer (some ⟨r, 0, none⟩)] 138)).alloc (.cells #[.slice A n c] 23)).alloc (.cells #[.slice A' n' c'] 23)) := ⟨_, rfl⟩
  have b3 : Below w.heap.size w W3 := by rw [hW]; exact (((Below.refl _ _).alloc (Nat.le_refl _) _).alloc (by simp) _).alloc (by simp; omega) _
  have k0 : W3.cell? ⟨w.heap.size, 0, none⟩ = some (.pointer (some ⟨r, 0, none⟩)) := by rw [hW, World.cell?_alloc_past _ _ _ (by simp; omega), World.cell?_alloc_past _ _ _ (by simp), World.cell?_alloc_at _ _ _ _ rfl]; rfl
  have k1 : W3.cell? ⟨w.heap.size + 1, 0, none⟩ = some (.slice A n c) := by rw [hW, World.cell?_alloc_past _ _ _ (by simp), World.cell?_alloc_at _ _ _ _ (by simp)]; rfl
  have k2 : W3.cell? ⟨w.heap.size + 1 + 1, 0, none⟩ = some (.slice A' n' c') := by rw [hW, World.cell?_alloc_at _ _ _ _ (by simp)]; rfl
  have bd : Below w.heap.size w W3.drew := b3.trans ((Below.refl _ _).drew.mono b3.size)
  have key : Calls Tryz.prog 123 #[.pointer (some ⟨r, 0, none⟩), .func (.func 125) #[] #[.pointer (some ⟨w.heap.size, 0, none⟩), .pointer (some ⟨w.heap.size + 1, 0, none⟩), .pointer (some ⟨w.heap.size + 1 + 1, 0, none⟩)]] W3 (OpPW r b q' (X * Y % d.P) W3) := by
    cases q with
    | true =>
      obtain rfl : q' = true := hq.2 (.inl rfl)
      exact do_badW (h.below b3) _ _
    | false =>
      by_cases g : El d.P d.Q X ∧ El d.P d.Q Y
      · obtain rfl : q' = false := by
          cases q' with
          | false => rfl
          | true => exact absurd g ((hq.1 rfl).resolve_left (by decide))
        exact do_okW (h.below b3) (clo_product_okW (h.below b3) k0 k1 k2 _ (gmul_w (hg.below bd).toGr0 ((ha rfl).below bd) ((ha' rfl).below bd) g.1 g.2)) ent_product
      · obtain rfl : q' = true := hq.2 (.inr g)
        exact do_noW (h.below b3) _ (clo_product_no (h.below b3) k0 k1 k2 0 (gmul_no (hg.below bd).toGr0 ((ha rfl).below bd) ((ha' rfl).below bd) g)) ent_product
  have KEY := Lib.hid key
  have B3 := Lib.hid b3
  have hmf := sq_mk
  clear key b3 bd h hg ha ha' k1 k2
  subst hW
  go_enter Tryz.func88, Tryz.ntmps88
  go_wp2_with fail
  refine KEY.out.mono ?_
  rintro e w1 ⟨A1, n1, c1, rfl, hc, hn, hs, hb⟩
  have HC := Lib.hid hc
  have HN := Lib.hid hn
  have HS := Lib.hid hs
  have HB := Lib.hid hb
  clear hc hn hs hb KEY k0 hmf
  go_wp2_with fail
  go_ret
  exact OpPW.base_ B3.out ⟨A1, n1, c1, rfl, HC.out, HN.out, HS.out, HB.out⟩
end
section
variable {w : World} {b r : Nat} {d : Gd} {q q' : Bool} {A A' : Option Addr} {n c n' c' g0 g1 g2 : Nat} {X Y : Int}
theorem clo_base_okW (h : Sq w r b q) (k0 : w.cell? ⟨g0, 0, none⟩ = some (.pointer (some ⟨r, 0, none⟩))) (k2 : w.cell? ⟨g2, 0, none⟩ = some (.slice A' n' c')) (N : Int) (hF : Calls Tryz.prog 36 #[.pointer (some ⟨b, 0, none⟩), .slice A' n' c'] w.drew (AnsWr N w.drew)) :
    Calls Tryz.prog 124 #[.pointer (some ⟨g0, 0, none⟩), .pointer (some ⟨g2, 0, none⟩)] w (AnsWr N w) := by
  have z0 := h.c0
  have lr := h.lt
  have l0 : g0 < w.heap.size := block_lt_of_cell k0
  
  have l2 : g2 < w.heap.size := block_lt_of_cell k2
  have HF := Lib.hid hF
  clear hF h
  go_enter Tryz.func124, Tryz.ntmps124
  go_wp2_with fail
  go_region_held3 (fun w' => w'.cell? ⟨g0, 0, none⟩ = some (.pointer (some ⟨r, 0, none⟩)) ∧ w'.cell? ⟨r, 0, none⟩ = some (.pointer (some ⟨b, 0, none⟩)) ∧ w'.cell? ⟨g2, 0, none⟩ = some (.slice A' n' c')) (first | exact ⟨k0, z0, k2⟩ | exact kE | go_keep | assumption)
    (first
    | (go_at_call 36; (with_reducible refine HF.out.mono ?_); rintro e w1 ⟨A1, n1, c1, rfl, hc, hb, hn⟩; have hb := below_dr0 hb; have kE := And.intro ((hb.cell (p := ⟨g0, 0, none⟩) l0).trans k0) (And.intro ((hb.cell (p := ⟨r, 0, none⟩) lr).trans z0) ((hb.cell (p := ⟨g2, 0, none⟩) l2).trans k2)); have HB := Lib.hid hb; have HC := Lib.hid hc; have HN := Lib.hid hn; clear hc hn hb))
  all_goals
    clear k0 z0 k2 l0 lr  l2
    go_wp2_with fail
    go_ret2
    exact ⟨A1, n1, c1, rfl, HC.out, HB.out, HN.out⟩
end
section
variable {w : World} {b r : Nat} {d : Gd} {q q' : Bool} {A A' : Option Addr} {n c n' c' g0 g1 g2 : Nat} {X Y : Int}
theorem base_qW (h : Sq w r b q) (hg : Gr w b d) (ha' : Nm w A' n' c' Y) (ly : dl Y ≤ 64) :
    Calls Tryz.prog 87 #[.pointer (some ⟨r, 0, none⟩), .slice A' n' c'] w (OpPW r b q (gx d.P d.Q d.G Y) w) := by
  obtain ⟨W3, hW⟩ : ∃ W3, W3 = ((w.alloc (.cells #[.pointer (some ⟨r, 0, none⟩)] 138)).alloc (.cells #[.slice A' n' c'] 23)) := ⟨_, rfl⟩
  have b3 : Below w.heap.size w W3 := by rw [hW]; exact ((Below.refl _ _).alloc (Nat.le_refl _) _).alloc (by simp) _
  have k0 : W3.cell? ⟨w.heap.size, 0, none⟩ = some (.pointer (some ⟨r, 0, none⟩)) := by rw [hW, World.cell?_alloc_past _ _ _ (by simp), World.cell?_alloc_at _ _ _ _ rfl]; rfl
  
  have k2 : W3.cell? ⟨w.heap.size + 1, 0, none⟩ = some (.slice A' n' c') := by rw [hW, World.cell?_alloc_at _ _ _ _ (by simp)]; rfl
  have bd : Below w.heap.size w W3.drew := b3.trans ((Below.refl _ _).drew.mono b3.size)
  have key : Calls Tryz.prog 123 #[.pointer (some ⟨r, 0, none⟩), .func (.func 124) #[] #[.pointer (some ⟨w.heap.size, 0, none⟩), .pointer (some ⟨w.heap.size + 1, 0, none⟩)]] W3 (OpPW r b q (gx d.P d.Q d.G Y) W3) := by
    cases q with
    | true => exact do_badW (h.below b3) _ _
    | false =>
      have e : gx d.P d.Q d.G Y = d.G ^ Y.toNat % d.P := hg.el.red hg.safe.p2 hg.safe.q1 ha'.pos
      rw [e]
      exact do_okW (h.below b3) (clo_base_okW (h.below b3) k0 k2 _ (gbase_w (hg.below bd) (ha'.below bd) ly)) ent_base
  have KEY := Lib.hid key
  have B3 := Lib.hid b3
  have hmf := sq_mk
  clear key b3 bd h hg ha' k2
  subst hW
  go_enter Tryz.func87, Tryz.ntmps87
  go_wp2_with fail
  refine KEY.out.mono ?_
  rintro e w1 ⟨A1, n1, c1, rfl, hc, hn, hs, hb⟩
  have HC := Lib.hid hc
  have HN := Lib.hid hn
  have HS := Lib.hid hs
  have HB := Lib.hid hb
  clear hc hn hs hb KEY k0 hmf
  go_wp2_with fail
  go_ret
  exact OpPW.base_ B3.out ⟨A1, n1, c1, rfl, HC.out, HN.out, HS.out, HB.out⟩
end
section
/-- A pair that was made: in new memory, told without noughts. -/
structure PrOW (w : World) (base : Nat) (s : Stp) (T : Trp) : Prop where
  p : CnW w s.A1 s.n1 s.c1 s.P
  q : CnW w s.A2 s.n2 s.c2 s.Q
  a : CnW w s.A3 s.n3 s.c3 s.A
  tr : Trp.of s = T
  n1 : ∀ a, s.A1 = some a → base ≤ a.block
  n2 : ∀ a, s.A2 = some a → base ≤ a.block
  n3 : ∀ a, s.A3 = some a → base ≤ a.block
end
section
/-- What is made of a pair. -/
def PairPW (r b : Nat) (q' : Bool) (T : Trp) (w : World) (e : Ending) (w' : World) : Prop :=
  ∃ s : Stp, e = .returned (.agg #[.slice s.A1 s.n1 s.c1, .slice s.A2 s.n2 s.c2, .slice s.A3 s.n3 s.c3]) ∧ (q' = false → PrOW w' w.heap.size s T) ∧ Sq w' r b q' ∧ Bo r w w'
end
section
theorem PrOW.bo {r : Nat} {w w' : World} {base : Nat} {s : Stp} {T : Trp} (h : PrOW w base s T) (hb : Bo r w w') (hr : r < base) : PrOW w' base s T :=
  ⟨hb.cnW h.p (fun a ha => by have := h.n1 a ha; omega), hb.cnW h.q (fun a ha => by have := h.n2 a ha; omega), hb.cnW h.a (fun a ha => by have := h.n3 a ha; omega), h.tr, h.n1, h.n2, h.n3⟩
end
section
theorem pairP_endW {w w5 : World} {r b g : Nat} {q' : Bool} {T : Trp} (s : Stp) (hB : Bo r w w5) (hg : w.heap.size ≤ g) (hr : r < g) (hS : Sq w5 r b q')
    (h : q' = false → CnW w5 s.A1 s.n1 s.c1 s.P ∧ CnW w5 s.A2 s.n2 s.c2 s.Q ∧ CnW w5 s.A3 s.n3 s.c3 s.A ∧ Trp.of s = T)
    (h1 : q' = false → ∀ a, s.A1 = some a → w.heap.size ≤ a.block ∧ a.block ≠ g) (h2 : q' = false → ∀ a, s.A2 = some a → w.heap.size ≤ a.block ∧ a.block ≠ g) (h3 : q' = false → ∀ a, s.A3 = some a → w.heap.size ≤ a.block ∧ a.block ≠ g) :
    PairPW r b q' T w (.returned (.agg #[.slice s.A1 s.n1 s.c1, .slice s.A2 s.n2 s.c2, .slice s.A3 s.n3 s.c3])) (((w5.setCell ⟨g, 0, none⟩ (.slice s.A1 s.n1 s.c1)).setCell ⟨g, 1, none⟩ (.slice s.A2 s.n2 s.c2)).setCell ⟨g, 2, none⟩ (.slice s.A3 s.n3 s.c3)) :=
  ⟨s, rfl, fun e => by
    obtain ⟨e1, e2, e3, e4⟩ := h e
    exact ⟨e1.three (fun a ha => (h1 e a ha).2), e2.three (fun a ha => (h2 e a ha).2), e3.three (fun a ha => (h3 e a ha).2), e4, fun a ha => (h1 e a ha).1, fun a ha => (h2 e a ha).1, fun a ha => (h3 e a ha).1⟩, hS.three (by omega), hB.three hg _ _ _⟩
end
section
variable {w w0 : World} {b r : Nat} {d : Gd} {q q' : Bool} {A1 A2 A3 Ak Am Ar As : Option Addr} {n1 c1 n2 c2 n3 c3 nk ck nm cm nr cr ns cs : Nat} {X Y Z K M R s : Int}
set_option maxHeartbeats 4000000 in
set_option maxRecDepth 100000 in
theorem seal_qW (h : Sq w r b q) (hb : Below w0.heap.size w0 w) (h0 : w0.heap.size ≤ r) (hg : Gr w0 b d) (hk : Nm w0 Ak nk ck K) (hm : Nm w0 Am nm cm M) (hr : Nm w0 Ar nr cr R) (lr : dl R ≤ 64) (hq : q' = true ↔ q = true ∨ ¬ (El d.P d.Q K ∧ El d.P d.Q M)) :
    Calls Tryz.prog 46 #[.pointer (some ⟨r, 0, none⟩), .slice Ak nk ck, .slice Am nm cm, .slice Ar nr cr] w (PairPW r b q' (sealN d.P d.Q d.G K M R) w) := by
  obtain ⟨qa, ha⟩ := ex_bool (q = true ∨ ¬ El d.P d.Q K)
  have hqb : q' = true ↔ qa = true ∨ ¬ (El d.P d.Q M ∧ El d.P d.Q (gx d.P d.Q K R)) := by
    rw [hq, ha]
    constructor
    · rintro (g | g)
      · exact .inl (.inl g)
      · by_cases g1 : El d.P d.Q K
        · exact .inr fun k => g ⟨g1, k.1⟩
        · exact .inl (.inr g1)
    · rintro ((g | g) | g)
      · exact .inl g
      · exact .inr fun k => g k.1
      · exact .inr fun k => g ⟨k.2, gx_el hg.safe.p2 hg.safe.q1 k.1 R⟩
  have hf1 := bool_le hqb
  obtain ⟨s, hs⟩ : ∃ s, w.heap.size = s := ⟨_, rfl⟩
  obtain ⟨W2, hW⟩ : ∃ W2, W2 = w.alloc (.cells #[.slice none 0 0, .slice none 0 0, .slice none 0 0] 61) := ⟨_, rfl⟩
  have b2 : Below w.heap.size w W2 := by rw [hW]; exact (Below.refl _ _).alloc (Nat.le_refl _) _
  have row : W2.heap[s]? = some (.cells #[.slice none 0 0, .slice none 0 0, .slice none 0 0] 61 (0, 0)) := by rw [hW, ← hs]; exact heap_alloc_new w _
  have sz2 : W2.heap.size = s + 1 := by rw [hW, ← hs]; simp
  have rl : r < s := by rw [← hs]; exact h.lt
  have hall : ∀ W', Bo r W2 W' → Below w0.heap.size w0 W' ∧ W'.heap[s]? = some (.cells #[.slice none 0 0, .slice none 0 0, .slice none 0 0] 61 (0, 0)) := fun W' k =>
    ⟨k.below (hb.trans (b2.mono hb.size)) h0, (k.block s (by omega) (by omega)).trans row⟩
  have HALL := Lib.hid hall
  have HS := Lib.hid (h.below b2)
  have HG := Lib.hid hg
  have HK := Lib.hid hk
  have HM := Lib.hid hm
  have HR := Lib.hid hr
  have HA := Lib.hid ha
  have HQB := Lib.hid hqb
  have HF1 := Lib.hid hf1
  have BR := Lib.hid (Bo.refl r W2)
  have B2 := Lib.hid (Bo.of r b2)
  have HSS := Lib.hid hs
  have HSZ := Lib.hid sz2
  clear h hb hk hm hr hg hq ha hqb hf1 hall row sz2 b2
  go_enter Tryz.func46, Tryz.ntmps46
  go_wp2_with fail
  rw [← hW]
  try rw [hs]
  clear hW hs
  refine (base_qW HS.out (HG.out.below (HALL.out _ BR.out).1) (HR.out.below (HALL.out _ BR.out).1) lr).mono ?_
  rintro e w3 ⟨B1, m1, d1, rfl, hc1, hn1, hs1, hb1⟩
  have BO3 := Lib.hid hb1
  have C1 := Lib.hid hc1
  have N1 := Lib.hid hn1
  have HS3 := Lib.hid hs1
  clear hc1 hn1 hs1 hb1
  go_wp2_with fail
  refine (power_q HS3.out (HG.out.below (HALL.out _ BO3.out).1) (fun _ => HK.out.below (HALL.out _ BO3.out).1) (HR.out.below (HALL.out _ BO3.out).1) lr HA.out).mono ?_
  rintro e w4 ⟨B2', m2, d2, rfl, hc2, hn2, hs2, hb2⟩
  have BO4 := Lib.hid (BO3.out.trans hb2)
  have C2 := Lib.hid hc2
  have N2 := Lib.hid hn2
  have HS4 := Lib.hid hs2
  have HB34 := Lib.hid hb2
  clear hc2 hn2 hs2 hb2
  go_wp2_with fail
  refine (product_qW HS4.out (HG.out.below (HALL.out _ BO4.out).1) (fun _ => HM.out.below (HALL.out _ BO4.out).1) (fun g => (C2.out g).nm) HQB.out).mono ?_
  rintro e w5 ⟨B3', m3, d3, rfl, hc3, hn3, hs3, hb3⟩
  have BO5 := Lib.hid (BO4.out.trans hb3)
  have C3 := Lib.hid hc3
  have N3 := Lib.hid hn3
  have HB45 := Lib.hid hb3
  have bl : Below w5.heap.size w5 (w5.alloc (.cells #[.int .u64 1] 78)) := (Below.refl _ _).alloc (Nat.le_refl _) _
  have HS6 := Lib.hid (hs3.below bl)
  have BL := Lib.hid bl
  have C4 := Lib.hid (cn_lit1W w5)
  have R6 := Lib.hid (HALL.out _ (BO5.out.trans (Bo.of r bl))).2
  have x0 := cell_of_row (w5.alloc (.cells #[.int .u64 1] 78)) s 0 _ _ _ R6.out
  have x1 := cell_of_row (w5.alloc (.cells #[.int .u64 1] 78)) s 1 _ _ _ R6.out
  have x2 := cell_of_row (w5.alloc (.cells #[.int .u64 1] 78)) s 2 _ _ _ R6.out
  have f0 := frozen_of_row (w5.alloc (.cells #[.int .u64 1] 78)) s 0 _ _ R6.out
  have f1 := frozen_of_row (w5.alloc (.cells #[.int .u64 1] 78)) s 1 _ _ R6.out
  have f2 := frozen_of_row (w5.alloc (.cells #[.int .u64 1] 78)) s 2 _ _ R6.out
  clear hc3 hn3 hs3 hb3 bl
  go_wp2_with fail
  refine bodyPost_ret (v := .agg #[.slice B1 m1 d1, .slice B3' m3 d3, .slice (some ⟨w5.heap.size, 0, none⟩) 1 1]) (results_cell_row Tryz.results46 _ _ s _ _ _ _ rfl (three_row R6.out) Tryz.underlying61 rfl sizePair) rfl ?_
  have es := HSS.out
  have sz3 := BO3.out.size
  have sz4 := HB34.out.size
  have sz5 := HB45.out.size
  have sz2 := HSZ.out
  refine pairP_endW ⟨B1, m1, d1, B3', m3, d3, some ⟨w5.heap.size, 0, none⟩, 1, 1, gx d.P d.Q d.G R, M * gx d.P d.Q K R % d.P, 1⟩ (B2.out.trans (BO5.out.trans (Bo.of r BL.out))) (by omega) (by omega) HS6.out (fun g => ?_) (fun _ a ha => by have := N1.out a ha; omega) (fun _ a ha => by have := N3.out a ha; omega) (fun _ a ha => by injection ha with ha; subst ha; constructor <;> (simp; omega))
  have ga := HF1.out g
  have hx := bool_le HA.out ga
  have b5 := Bo.of r BL.out
  exact ⟨b5.cnW (HB45.out.cnW (HB34.out.cnW (C1.out hx) (fun a ha => by have := N1.out a ha; omega)) (fun a ha => by have := N1.out a ha; omega)) (fun a ha => by have := N1.out a ha; omega), b5.cnW (C3.out g) (fun a ha => by have := N3.out a ha; omega), C4.out, rfl⟩
end
section
theorem PrOW.bo2 {g : Nat} {w w' : World} {base : Nat} {s : Stp} {T : Trp} (h : PrOW w base s T) (hb : Bo g w w') (hr : g < base) : PrOW w' base s T := h.bo hb hr
end
section
/-- The loop that makes a letter. -/
def LtlRW (r b n : Nat) (T : Nat → Trp) (good : Nat → Prop) (w : World) (i : Value) (wr : World) : Prop :=
  ∃ (j : Nat) (q : Bool) (cur : Array Value) (S : Nat → Stp), j ≤ n ∧ i = .int .i64 j ∧ wr.heap[w.heap.size]? = some (.cells cur 61 (0, 0)) ∧ cur.size = n * 3 ∧ (q = true ↔ ∃ p, p < j ∧ ¬ good p) ∧
    (q = false → ∀ p, p < j → (cur[p * 3]? = some (.slice (S p).A1 (S p).n1 (S p).c1) ∧ cur[p * 3 + 1]? = some (.slice (S p).A2 (S p).n2 (S p).c2) ∧ cur[p * 3 + 2]? = some (.slice (S p).A3 (S p).n3 (S p).c3)) ∧ PrOW wr (w.heap.size + 1) (S p) (T p)) ∧
    Sq wr r b q ∧ Bo r w wr
end
section
/-- What letter answers. -/
def LettPW (r n : Nat) (T : Nat → Trp) (good : Nat → Prop) (w : World) (e : Ending) (w' : World) : Prop :=
  ((∀ p, p < n → good p) ∧ ∃ c S, e = .returned (.tuple #[.slice (some ⟨w.heap.size, 0, none⟩) n c, .nilIface]) ∧ LoW w' w.heap.size (some ⟨w.heap.size, 0, none⟩) n c S ∧ (∀ i, i < n → Trp.of (S i) = T i) ∧ Bo r w w') ∨
  ((∃ p, p < n ∧ ¬ good p) ∧ e = .returned (.tuple #[.slice none 0 0, .iface 80 (.int .i64 8)]) ∧ Bo r w w')
end
section
variable {w : World} {b r : Nat}
set_option maxHeartbeats 4000000 in
set_option maxRecDepth 100000 in
theorem letter_anyW (h : Sq w r b false) {n : Nat} (hn : n ≤ 1000) {k : Nat} {caps : Array Value} (T : Nat → Trp) (good : Nat → Prop) (hent : ∀ (xs : Array Value) (W : World), (callFunc k xs).run Tryz.prog W = .ok (.enter k xs) W)
    (hF : ∀ i, i < n → ∀ q q' wr, Bo r w wr → Sq wr r b q → (q' = true ↔ q = true ∨ ¬ good i) → Calls Tryz.prog k (#[.int .i64 (i : Int)] ++ caps) wr (PairPW r b q' (T i) wr)) :
    Calls Tryz.prog 44 #[.pointer (some ⟨r, 0, none⟩), .int .i64 (n : Int), .func (.func k) #[] caps] w (LettPW r n T good w) := by
  have hmk := fun W => run_makeP n (C := (n : Int)) rfl (by omega) W
  obtain ⟨Z, hZ⟩ : ∃ Z : Array Value, Z = madeCells #[.slice none 0 0, .slice none 0 0, .slice none 0 0] (n * 3) := ⟨_, rfl⟩
  rw [← hZ] at hmk
  have HZ := Lib.hid (show Z.size = n * 3 by rw [hZ]; exact size_madeCells _ _)
  have HS := Lib.hid h
  have HF := Lib.hid hF
  have hlt := h.lt
  have e0 := sq_ne0
  have e1 := sq_ne1
  clear h hF hZ
  go_enter Tryz.func44, Tryz.ntmps44
  go_wp2_with fail
  clear hmk
  go_loopw [13] (fun i wr => LtlRW r b n T good w i wr) (fun i _ => n - (intOf i).toNat)
  case atStart => exact ⟨0, false, Z, fun _ => ⟨none, 0, 0, none, 0, 0, none, 0, 0, 0, 0, 0⟩, Nat.zero_le _, rfl, heap_alloc_new w _, HZ.out, ⟨fun g => (by cases g), fun ⟨p, hp, _⟩ => absurd hp (Nat.not_lt_zero p)⟩, fun _ p hp => absurd hp (Nat.not_lt_zero p), HS.out.below ((Below.refl _ _).alloc (Nat.le_refl _) _), Bo.of r ((Below.refl _ _).alloc (Nat.le_refl _) _)⟩
  case round =>
    obtain ⟨j, q, cur, S, hj, rfl, hrow, hcs, hq, hcl, hsq, hbo⟩ := hrel
    have HR := Lib.hid hrow
    have HCS := Lib.hid hcs
    have HCL := Lib.hid hcl
    have HQ := Lib.hid hq
    have HSQ := Lib.hid hsq
    have HBO := Lib.hid hbo
    clear hrow hcs hcl hq hsq hbo HS HZ
    rcases Nat.lt_or_ge j n with hlt2 | hge
    · obtain ⟨q', hq'⟩ := ex_bool (q = true ∨ ¬ good j)
      have hjn : ((j : Nat) : Int) < (n : Int) := by omega
      go_wp2_with fail
      refine (HF.out j hlt2 q q' wr HBO.out HSQ.out hq').mono ?_
      rintro e w4 ⟨s, rfl, hs4, hsq4, hb4⟩
      have R4 := Lib.hid (show w4.heap[w.heap.size]? = some (.cells cur 61 (0, 0)) from (hb4.block _ (by have := (Array.getElem?_eq_some_iff.1 HR.out).1; omega) (by omega)).trans HR.out)
      have HS4 := Lib.hid hs4
      have SQ4 := Lib.hid hsq4
      have HB4 := Lib.hid hb4
      have sz0 := (Array.getElem?_eq_some_iff.1 HR.out).1
      obtain ⟨v0, x0⟩ := cell_in R4.out (o := j * 3) (by have := HCS.out; omega)
      obtain ⟨v1, x1⟩ := cell_in R4.out (o := j * 3 + 1) (by have := HCS.out; omega)
      obtain ⟨v2, x2⟩ := cell_in R4.out (o := j * 3 + 2) (by have := HCS.out; omega)
      have f0 := frozen_of_row w4 w.heap.size (j * 3) _ _ R4.out
      have f1 := frozen_of_row w4 w.heap.size (j * 3 + 1) _ _ R4.out
      have f2 := frozen_of_row w4 w.heap.size (j * 3 + 2) _ _ R4.out
      have B5 := Lib.hid (mid_bo w4 w.heap.size (j * 3) (.slice s.A1 s.n1 s.c1) (.slice s.A2 s.n2 s.c2) (.slice s.A3 s.n3 s.c3))
      have R5 := Lib.hid (mid_row (o := j * 3) (x := .slice s.A1 s.n1 s.c1) (y := .slice s.A2 s.n2 s.c2) (z := .slice s.A3 s.n3 s.c3) R4.out)
      clear hs4 hsq4 hb4 e0 e1 HF
      go_wp2_with fail
      have hcs := HCS.out
      go_roundw
      case rel =>
        refine ⟨j + 1, q', _, fun p => if p = j then s else S p, by omega, by go_num, R5.out, by simpa using hcs, ?_, fun g p hp => ?_, SQ4.out.bo B5.out (by omega), (HBO.out.trans HB4.out).of_bo B5.out (Nat.le_refl _)⟩
        · rw [hq', HQ.out]
          constructor
          · rintro (⟨p, h1, h2⟩ | g)
            · exact ⟨p, by omega, h2⟩
            · exact ⟨j, by omega, g⟩
          · rintro ⟨p, h1, h2⟩
            rcases Nat.lt_or_ge p j with g | g
            · exact .inl ⟨p, g, h2⟩
            · obtain rfl : p = j := by omega
              exact .inr h2
        · have gq : q = false := by
            cases q with
            | false => rfl
            | true => rw [hq'.2 (.inl rfl)] at g; cases g
          rcases Nat.lt_or_ge p j with g1 | g1
          · obtain ⟨⟨c0, c1, c2⟩, pr⟩ := HCL.out gq p g1
            simp only [if_neg (show ¬ p = j by omega)]
            refine ⟨⟨?_, ?_, ?_⟩, (pr.bo HB4.out (by omega)).bo2 B5.out (by omega)⟩
            · rw [Array.getElem?_setIfInBounds_ne (by omega), Array.getElem?_setIfInBounds_ne (by omega), Array.getElem?_setIfInBounds_ne (by omega)]; exact c0
            · rw [Array.getElem?_setIfInBounds_ne (by omega), Array.getElem?_setIfInBounds_ne (by omega), Array.getElem?_setIfInBounds_ne (by omega)]; exact c1
            · rw [Array.getElem?_setIfInBounds_ne (by omega), Array.getElem?_setIfInBounds_ne (by omega), Array.getElem?_setIfInBounds_ne (by omega)]; exact c2
          · obtain rfl : p = j := by omega
            simp only [if_true]
            have pr := HS4.out g
            refine ⟨⟨?_, ?_, ?_⟩, PrOW.bo2 ⟨pr.p, pr.q, pr.a, pr.tr, fun a ha => by have := pr.n1 a ha; omega, fun a ha => by have := pr.n2 a ha; omega, fun a ha => by have := pr.n3 a ha; omega⟩ B5.out (by omega)⟩
            · rw [Array.getElem?_setIfInBounds_ne (by omega), Array.getElem?_setIfInBounds_ne (by omega), Array.getElem?_setIfInBounds_self_of_lt (by omega)]
            · rw [Array.getElem?_setIfInBounds_ne (by omega), Array.getElem?_setIfInBounds_self_of_lt (by simp; omega)]
            · rw [Array.getElem?_setIfInBounds_self_of_lt (by simp; omega)]
      case measure => simp [intOf]; omega
    · obtain rfl : n = j := by omega
      clear HF
      cases q with
      | true =>
        have x1 : wr.cell? ⟨r, 1, none⟩ = some (.iface 80 (.int .i64 8)) := HSQ.out.c1
        go_wp2_with fail
        go_region
        all_goals (try go_wp2)
        all_goals go_ret2
        all_goals exact .inr ⟨HQ.out.1 (by trivial), rfl, HBO.out.drew⟩
      | false =>
        have x1 : wr.cell? ⟨r, 1, none⟩ = some .nilIface := HSQ.out.c1
        have hgood : ∀ p, p < n → good p := fun p hp => Classical.byContradiction fun g => by have := HQ.out.2 ⟨p, hp, g⟩; cases this
        have HGG := Lib.hid hgood
        clear hgood
        go_wp2_with fail
        go_ret2
        refine .inl ⟨HGG.out, n, S, rfl, ⟨⟨Nat.le_refl _, by omega, fun hn0 => ⟨w.heap.size, 0, rfl, (Array.getElem?_eq_some_iff.1 HR.out).1, fun i hi => ?_⟩, fun i hi => ?_⟩, fun i hi => ?_, fun a ha => by injection ha with ha; subst ha; exact Nat.le_refl _, fun i hi => ?_, fun i hi => ⟨(HCL.out (by trivial) i hi).2.p.wr, (HCL.out (by trivial) i hi).2.q.wr⟩, fun i hi b hb => by have pr := (HCL.out (by trivial) i hi).2; injection hb with hb; subst hb; exact ⟨fun a ha => by have := pr.n1 a ha; show a.block ≠ w.heap.size; omega, fun a ha => by have := pr.n2 a ha; show a.block ≠ w.heap.size; omega⟩⟩, fun i hi => (HCL.out (by trivial) i hi).2.tr, HBO.out⟩
        · obtain ⟨c0, c1, c2⟩ := (HCL.out (by trivial) i hi).1
          rw [Nat.zero_add]
          exact ⟨(cell_of_row wr _ _ _ _ _ HR.out).trans c0, (cell_of_row wr _ _ _ _ _ HR.out).trans c1, (cell_of_row wr _ _ _ _ _ HR.out).trans c2⟩
        · have pr := (HCL.out (by trivial) i hi).2
          exact ⟨pr.p.nm, pr.q.nm, pr.a.nm⟩
        · have pr := (HCL.out (by trivial) i hi).2
          exact ⟨pr.p.len_, pr.q.len_, pr.a.len_⟩
        · have pr := (HCL.out (by trivial) i hi).2
          exact ⟨fun a ha => by have := pr.n1 a ha; omega, fun a ha => by have := pr.n2 a ha; omega, fun a ha => by have := pr.n3 a ha; omega⟩
end
section
variable {w w0 : World} {b r : Nat} {d : Gd} {q q' : Bool} {Ak Am Ar Al Av : Option Addr} {nk ck nm cm nr cr nl cl nv cv g1 g2 g3 g4 i : Nat} {K V : Int} {M R : Nat → Nsl} {S : Nat → Stp}
/-- What was made of a pair, handed on through a variable of the call's own. -/
theorem pairP_outW {w W1 w5 : World} {r b s : Nat} {q' : Bool} {T : Trp} {s5 : Stp} (hB : Bo r w W1) (hO : Bo r W1 w5) (hr : r < s) (hs : w.heap.size = s) (hz : W1.heap.size = s + 1) (hS : Sq w5 r b q') (hp : q' = false → PrOW w5 W1.drew.heap.size s5 T)
    : PairPW r b q' T w (.returned (.agg #[.slice s5.A1 s5.n1 s5.c1, .slice s5.A2 s5.n2 s5.c2, .slice s5.A3 s5.n3 s5.c3])) (((w5.setCell ⟨s, 0, none⟩ (.slice s5.A1 s5.n1 s5.c1)).setCell ⟨s, 1, none⟩ (.slice s5.A2 s5.n2 s5.c2)).setCell ⟨s, 2, none⟩ (.slice s5.A3 s5.n3 s5.c3)) := by
  have z : W1.drew.heap.size = s + 1 := hz
  refine ⟨s5, rfl, fun g => ?_, hS.three (by omega), (hB.trans hO).three (by omega) _ _ _⟩
  have p := hp g
  exact ⟨p.p.three (fun a ha => by have := p.n1 a ha; omega), p.q.three (fun a ha => by have := p.n2 a ha; omega), p.a.three (fun a ha => by have := p.n3 a ha; omega), p.tr, fun a ha => by have := p.n1 a ha; omega, fun a ha => by have := p.n2 a ha; omega, fun a ha => by have := p.n3 a ha; omega⟩
end
section
variable {w w0 : World} {b r : Nat} {d : Gd} {q q' : Bool} {Ak Am Ar Al Av : Option Addr} {nk ck nm cm nr cr nl cl nv cv g1 g2 g3 g4 i : Nat} {K V : Int} {M R : Nat → Nsl} {S : Nat → Stp}
set_option maxHeartbeats 4000000 in
set_option maxRecDepth 100000 in
theorem clo_SealW (h : Sq w r b q) (hb : Below w0.heap.size w0 w) (h0 : w0.heap.size ≤ r) (hg : Gr w0 b d) (k1 : w.cell? ⟨g1, 0, none⟩ = some (.slice Ak nk ck)) (e1 : g1 ≠ r) (k2 : w.cell? ⟨g2, 0, none⟩ = some (.slice Am nm cm)) (e2 : g2 ≠ r) (k3 : w.cell? ⟨g3, 0, none⟩ = some (.slice Ar nr cr)) (e3 : g3 ≠ r) (hk : Nm w0 Ak nk ck K) (hm : Ns w0 Am nm cm M) (him : i < nm) (hr : Ns w0 Ar nr cr R) (hir : i < nr) (lr : dl (R i).N ≤ 64) (hq : q' = true ↔ q = true ∨ ¬ (El d.P d.Q K ∧ El d.P d.Q (M i).N)) :
    Calls Tryz.prog 45 #[.int .i64 (i : Int), .pointer (some ⟨r, 0, none⟩), .pointer (some ⟨g1, 0, none⟩), .pointer (some ⟨g2, 0, none⟩), .pointer (some ⟨g3, 0, none⟩)] w (PairPW r b q' (sealN d.P d.Q d.G K (M i).N (R i).N) w) := by
  obtain ⟨bm, offm, rfl, lbm, ym⟩ := hm.ex (by omega)
  obtain ⟨br, offr, rfl, lbr, yr⟩ := hr.ex (by omega)
  have hsz := hb.size
  obtain ⟨s, hs⟩ : ∃ s, w.heap.size = s := ⟨_, rfl⟩
  obtain ⟨W1, hW⟩ : ∃ W1, W1 = w.alloc (.cells #[.slice none 0 0, .slice none 0 0, .slice none 0 0] 61) := ⟨_, rfl⟩
  have b1 : Below w.heap.size w W1 := by rw [hW]; exact (Below.refl _ _).alloc (Nat.le_refl _) _
  have row : W1.heap[s]? = some (.cells #[.slice none 0 0, .slice none 0 0, .slice none 0 0] 61 (0, 0)) := by rw [hW, ← hs]; exact heap_alloc_new w _
  have sz1 : W1.heap.size = s + 1 := by rw [hW, ← hs]; simp
  have rl : r < s := by rw [← hs]; exact h.lt
  have lg1 : g1 < w.heap.size := block_lt_of_cell k1
  have lg2 : g2 < w.heap.size := block_lt_of_cell k2
  have lg3 : g3 < w.heap.size := block_lt_of_cell k3
  have hall : ∀ W', Bo r W1 W' → (W'.cell? ⟨g1, 0, none⟩ = some (.slice Ak nk ck) ∧ W'.cell? ⟨g2, 0, none⟩ = some (.slice (some ⟨bm, offm, none⟩) nm cm) ∧ W'.cell? ⟨bm, offm + i, none⟩ = some (.slice (M i).A (M i).n (M i).c) ∧ W'.cell? ⟨g3, 0, none⟩ = some (.slice (some ⟨br, offr, none⟩) nr cr) ∧ W'.cell? ⟨br, offr + i, none⟩ = some (.slice (R i).A (R i).n (R i).c)) ∧ W'.heap[s]? = some (.cells #[.slice none 0 0, .slice none 0 0, .slice none 0 0] 61 (0, 0)) := fun W' k =>
    ⟨⟨(k.cell (p := ⟨g1, 0, none⟩) (show g1 < _ by omega) e1).trans ((b1.cell (p := ⟨g1, 0, none⟩) lg1).trans k1), (k.cell (p := ⟨g2, 0, none⟩) (show g2 < _ by omega) e2).trans ((b1.cell (p := ⟨g2, 0, none⟩) lg2).trans k2), (k.cell (p := ⟨bm, offm + i, none⟩) (show bm < _ by omega) (show bm ≠ r by omega)).trans ((b1.cell (p := ⟨bm, offm + i, none⟩) (show bm < _ by omega)).trans ((hb.cell (p := ⟨bm, offm + i, none⟩) lbm).trans (ym i him))), (k.cell (p := ⟨g3, 0, none⟩) (show g3 < _ by omega) e3).trans ((b1.cell (p := ⟨g3, 0, none⟩) lg3).trans k3), (k.cell (p := ⟨br, offr + i, none⟩) (show br < _ by omega) (show br ≠ r by omega)).trans ((b1.cell (p := ⟨br, offr + i, none⟩) (show br < _ by omega)).trans ((hb.cell (p := ⟨br, offr + i, none⟩) lbr).trans (yr i hir)))⟩, (k.block s (by omega) (by omega)).trans row⟩
  have hall3 : ∀ W', Bo r W1 W' → ∀ x y z : Value, (((W'.setCell ⟨s, 0, none⟩ x).setCell ⟨s, 1, none⟩ y).setCell ⟨s, 2, none⟩ z).cell? ⟨g1, 0, none⟩ = some (.slice Ak nk ck) ∧ (((W'.setCell ⟨s, 0, none⟩ x).setCell ⟨s, 1, none⟩ y).setCell ⟨s, 2, none⟩ z).cell? ⟨g2, 0, none⟩ = some (.slice (some ⟨bm, offm, none⟩) nm cm) ∧ (((W'.setCell ⟨s, 0, none⟩ x).setCell ⟨s, 1, none⟩ y).setCell ⟨s, 2, none⟩ z).cell? ⟨bm, offm + i, none⟩ = some (.slice (M i).A (M i).n (M i).c) ∧ (((W'.setCell ⟨s, 0, none⟩ x).setCell ⟨s, 1, none⟩ y).setCell ⟨s, 2, none⟩ z).cell? ⟨g3, 0, none⟩ = some (.slice (some ⟨br, offr, none⟩) nr cr) ∧ (((W'.setCell ⟨s, 0, none⟩ x).setCell ⟨s, 1, none⟩ y).setCell ⟨s, 2, none⟩ z).cell? ⟨br, offr + i, none⟩ = some (.slice (R i).A (R i).n (R i).c) := fun W' k x y z => by
    obtain ⟨⟨t0, t1, t2, t3, t4⟩, -⟩ := hall W' k
    exact ⟨(three_cell (by omega)).trans t0, (three_cell (by omega)).trans t1, (three_cell (by omega)).trans t2, (three_cell (by omega)).trans t3, (three_cell (by omega)).trans t4⟩
  have HALL := Lib.hid hall
  have HALL3 := Lib.hid hall3
  have HS := Lib.hid ((h.below b1).below (Below.refl _ _).drew)
  have HB := Lib.hid ((hb.trans (b1.mono hsz)).trans ((Below.refl _ _).drew.mono (show w0.heap.size ≤ W1.heap.size by omega)))
  have HG := Lib.hid hg
  have HNk := Lib.hid hk
  have HEm := Lib.hid (hm.at_ i him)
  have HEr := Lib.hid (hr.at_ i hir)
  have HQ := Lib.hid hq
  have BD := Lib.hid (Bo.of r (Below.refl W1.heap.size W1).drew)
  have B1 := Lib.hid (Bo.of r b1)
  have HSS := Lib.hid hs
  have HSZ := Lib.hid sz1
  have kA := (hall W1 (Bo.refl _ _)).1
  have hjm : (i : Int) < (nm : Int) := by omega
  have hjr : (i : Int) < (nr : Int) := by omega
  clear h hb hg hall hall3 row sz1 b1 hq hk hm hr k1 e1 lg1 k2 e2 lg2 k3 e3 lg3 ym yr
  go_enter Tryz.func45, Tryz.ntmps45
  go_wp2_with fail
  rw [← hW]
  try rw [hs]
  clear hW hs
  go_region_held3 (fun w' => w'.cell? ⟨g1, 0, none⟩ = some (.slice Ak nk ck) ∧ w'.cell? ⟨g2, 0, none⟩ = some (.slice (some ⟨bm, offm, none⟩) nm cm) ∧ w'.cell? ⟨bm, offm + i, none⟩ = some (.slice (M i).A (M i).n (M i).c) ∧ w'.cell? ⟨g3, 0, none⟩ = some (.slice (some ⟨br, offr, none⟩) nr cr) ∧ w'.cell? ⟨br, offr + i, none⟩ = some (.slice (R i).A (R i).n (R i).c)) (first | exact kA | exact kB | exact kC _ _ _ | go_keep | assumption)
    (first
    | (go_at_call 46; (with_reducible refine (seal_qW HS.out HB.out h0 HG.out HNk.out HEm.out HEr.out lr HQ.out).mono ?_); rintro e w5 ⟨s5, rfl, hp5, hs5, hb5⟩; have BO5 := Lib.hid (BD.out.trans hb5); have kB := (HALL.out _ BO5.out).1; have P5 := Lib.hid hp5; have HS5 := Lib.hid hs5; have R5 := Lib.hid (HALL.out _ BO5.out).2; have kC := HALL3.out _ BO5.out; have x0 := (cell_of_row w5 s 0 _ _ _ R5.out); have x1 := (cell_of_row w5 s 1 _ _ _ R5.out); have x2 := (cell_of_row w5 s 2 _ _ _ R5.out); have f0 := frozen_of_row w5 s 0 _ _ R5.out; have f1 := frozen_of_row w5 s 1 _ _ R5.out; have f2 := frozen_of_row w5 s 2 _ _ R5.out; clear hp5 hs5 hb5))
  all_goals
    go_wp2_with fail
    refine bodyPost_ret (v := .agg #[.slice s5.A1 s5.n1 s5.c1, .slice s5.A2 s5.n2 s5.c2, .slice s5.A3 s5.n3 s5.c3]) (results_cell_row Tryz.results45 _ _ s _ _ _ _ rfl (three_row R5.out) Tryz.underlying61 rfl sizePair) rfl ?_
    exact pairP_outW B1.out BO5.out rl HSS.out HSZ.out HS5.out P5.out
end
section
/-- A letter as letter answers it, behind what the call has made itself. -/
theorem lett_letW {w W5 w' : World} {r n : Nat} {T : Nat → Trp} {good : Nat → Prop} {e : Ending} {code : Int} (hB : Below w.heap.size w W5) (hr : w.heap.size ≤ r) (h : LettPW r n T good W5 e w') (h0 : (∀ p, p < n → good p) → code = 0) (h8 : (∃ p, p < n ∧ ¬ good p) → code = 8) : LetPW code T n w e w' := by
  rcases h with ⟨hg, c, S, rfl, hlo, hT, hb⟩ | ⟨hg, rfl, hb⟩
  · exact .inl ⟨h0 hg, _, c, S, rfl, hlo.base hB.size, hT, hb.below hB hr⟩
  · have e8 := h8 hg
    subst e8
    exact .inr ⟨by decide, rfl, hb.below hB hr⟩
end
section
variable {w : World} {b : Nat} {d : Gd} {Ak Am Ar Al Av As Ap Ab : Option Addr} {nk ck nm cm nr cr nl cl nv cv ns cs np cp nb cb : Nat} {K V s : Int} {M R : Nat → Nsl} {S : Nat → Stp}
set_option maxHeartbeats 4000000 in
set_option maxRecDepth 100000 in
theorem pm_sealW (h : Gr w b d) (hk : Nm w Ak nk ck K) (hm : Ns w Am nm cm M) (hr : Ns w Ar nr cr R) :
    Calls Tryz.prog 16 #[.pointer (some ⟨b, 0, none⟩), .slice Ak nk ck, .slice Am nm cm, .slice Ar nr cr] w (LetPW (sealC d.P d.Q K M nm R nr) (fun i => sealN d.P d.Q d.G K (M i).N (R i).N) nm w) := by
  obtain ⟨C, hC⟩ : ∃ C, sealC d.P d.Q K M nm R nr = C := ⟨_, rfl⟩
  rw [hC]
  obtain ⟨s, hs⟩ : ∃ s, w.heap.size = s := ⟨_, rfl⟩
  obtain ⟨W3, hW⟩ : ∃ W3, W3 = (((w.alloc (.cells #[.slice Ak nk ck] 23)).alloc (.cells #[.slice Am nm cm] 24)).alloc (.cells #[.slice Ar nr cr] 24)) := ⟨_, rfl⟩
  have sz3 : W3.heap.size = s + 3 := by rw [hW, ← hs]; simp
  have b3 : Below w.heap.size w W3 := by
    rw [hW]
    exact (((Below.refl _ _).alloc (Nat.le_refl _) _).alloc (by simp; try omega) _).alloc (by simp; try omega) _
  have k1 : W3.cell? ⟨s, 0, none⟩ = some (.slice Ak nk ck) := by rw [hW, ← hs, World.cell?_alloc_past _ _ _ (by simp; try omega), World.cell?_alloc_past _ _ _ (by simp; try omega), World.cell?_alloc_at _ _ _ _ (by simp; try omega)]; rfl
  have k2 : W3.cell? ⟨s + 1, 0, none⟩ = some (.slice Am nm cm) := by rw [hW, ← hs, World.cell?_alloc_past _ _ _ (by simp; try omega), World.cell?_alloc_at _ _ _ _ (by simp; try omega)]; rfl
  have k3 : W3.cell? ⟨s + 1 + 1, 0, none⟩ = some (.slice Ar nr cr) := by rw [hW, ← hs, World.cell?_alloc_at _ _ _ _ (by simp; try omega)]; rfl
  obtain ⟨W5, hW5⟩ : ∃ W5, W5 = W3.alloc (.cells #[.pointer (some ⟨b, 0, none⟩), .nilIface] 90) := ⟨_, rfl⟩
  have b35 : Below W3.heap.size W3 W5 := by rw [hW5]; exact (Below.refl _ _).alloc (Nat.le_refl _) _
  have b5 : Below w.heap.size w W5 := b3.trans (b35.mono b3.size)
  have sq5 : Sq W5 (s + 3) b false := by rw [hW5]; exact sq_new sz3
  have j1 := (b35.cell (p := ⟨s, 0, none⟩) (show s < _ by omega)).trans k1
  have j2 := (b35.cell (p := ⟨s + 1, 0, none⟩) (show s + 1 < _ by omega)).trans k2
  have j3 := (b35.cell (p := ⟨s + 1 + 1, 0, none⟩) (show s + 1 + 1 < _ by omega)).trans k3
  have key : nm ≤ 1000 → nr = nm → (∀ i, i < nr → dl (R i).N ≤ 64) → Calls Tryz.prog 44 #[.pointer (some ⟨s + 3, 0, none⟩), .int .i64 (nm : Int), .func (.func 45) #[] #[.pointer (some ⟨s + 3, 0, none⟩), .pointer (some ⟨s, 0, none⟩), .pointer (some ⟨s + 1, 0, none⟩), .pointer (some ⟨s + 1 + 1, 0, none⟩)]] W5 (LettPW (s + 3) nm (fun i => sealN d.P d.Q d.G K (M i).N (R i).N) (fun i => El d.P d.Q K ∧ El d.P d.Q (M i).N) W5) := fun hn hnr hlr  =>
    letter_anyW sq5 hn _ _ ent_Seal fun i hi q q' wr hbo hsq hq =>
      clo_SealW hsq (hbo.below b5 (by omega)) (by omega) h ((hbo.cell (p := ⟨s, 0, none⟩) (show s < _ by have := b35.size; omega) (show s ≠ s + 3 by omega)).trans j1) (by omega) ((hbo.cell (p := ⟨s + 1, 0, none⟩) (show s + 1 < _ by have := b35.size; omega) (show s + 1 ≠ s + 3 by omega)).trans j2) (by omega) ((hbo.cell (p := ⟨s + 1 + 1, 0, none⟩) (show s + 1 + 1 < _ by have := b35.size; omega) (show s + 1 + 1 ≠ s + 3 by omega)).trans j3) (by omega) hk hm hi hr (by omega) (hlr i (by omega)) hq
  have KEY := Lib.hid key
  have B3 := Lib.hid b3
  have B5 := Lib.hid b5
  have HC := Lib.hid hC
  have Hk := Lib.hid hk
  have Hm := Lib.hid hm
  have Hr := Lib.hid hr
  have HR3 := Lib.hid (hr.below b3)
  have hmf := sq_mk
  have heq := pm_eq b
  have HSZ := Lib.hid sz3
  have HSS := Lib.hid hs
  clear key b3 b35 b5 sq5 hC h hk hm hr j1 j2 j3
  rw [hW] at k1 k2 k3
  go_enter Tryz.func16, Tryz.ntmps16
  go_wp2_with fail
  rw [← hW]
  rw [← hW] at k1 k2 k3
  try rw [hs]
  have HW5 := Lib.hid hW5
  clear hW hW5 hs
  refine (isl_any nm W3).mono ?_
  rintro e w1 ⟨rfl, q, rfl, hq⟩
  cases q with
  | false =>
    have hno : ¬ (1 ≤ nm ∧ nm ≤ 32) := fun g => by have := hq.2 g; cases this
    have e1 : C = 1 := by rw [← HC.out]; exact fitC_arg fun g => hno ⟨g.1, g.2.1⟩
    subst e1
    clear hno hq
    go_wp2_with fail
    go_ret2
    exact .inr ⟨by decide, rfl, B3.out⟩
  | true =>
    obtain ⟨g1, g32⟩ := hq.1 rfl
    clear hq
    rcases Nat.lt_or_ge nr nm with gn | gn
    · have t1 : (((nr : Nat) : Int) != ((nm : Nat) : Int)) = true := by simp; omega
      have t2 : (((nr : Nat) : Int) == ((nm : Nat) : Int)) = false := by simp; omega
      have e1 : C = 1 := by rw [← HC.out]; exact fitC_arg fun g => by omega
      subst e1
      have t3 : ¬ (nr : Int) = (nm : Int) := by omega
      have t4 : ¬ nr = nm := by omega
      go_wp2_with fail
      go_ret2
      exact .inr ⟨by decide, rfl, B3.out⟩
    rcases Nat.lt_or_ge nm nr with gn2 | gn2
    · have t1 : (((nr : Nat) : Int) != ((nm : Nat) : Int)) = true := by simp; omega
      have t2 : (((nr : Nat) : Int) == ((nm : Nat) : Int)) = false := by simp; omega
      have e1 : C = 1 := by rw [← HC.out]; exact fitC_arg fun g => by omega
      subst e1
      have t3 : ¬ (nr : Int) = (nm : Int) := by omega
      have t4 : ¬ nr = nm := by omega
      go_wp2_with fail
      go_ret2
      exact .inr ⟨by decide, rfl, B3.out⟩
    obtain rfl : nm = nr := by omega
    have t2 : (((nm : Nat) : Int) == ((nm : Nat) : Int)) = true := by simp
    go_wp2_with fail
    refine (anyl_any HR3.out).mono ?_
    rintro e w1 ⟨rfl, q, rfl, hq⟩
    cases q with
    | true =>
      have e1 : C = 2 := by rw [← HC.out]; exact fitC_long ⟨g1, g32, rfl⟩ (hq.1 rfl)
      subst e1
      clear hq
      go_wp2_with fail
      go_ret2
      exact .inr ⟨by decide, rfl, B3.out⟩
    | false =>
    have hlg : ¬ LgS R nm := fun g => by have := hq.2 g; cases this
    have hlr : ∀ i, i < nm → dl (R i).N ≤ 64 := fun i hi => by
      rcases Nat.lt_or_ge 64 (dl (R i).N) with g | g
      · exact absurd ⟨i, hi, g⟩ hlg
      · exact g
    have K5 := Lib.hid (KEY.out (by omega) (by trivial) hlr )
    have HL := Lib.hid hlg
    
    clear hq hlg hlr KEY 
    go_wp2_with fail
    try rw [HSZ.out]
    rw [← HW5.out]
    refine K5.out.mono ?_
    intro e w9 hh
    have hh := lett_letW B5.out (show w.heap.size ≤ s + 3 by have := HSS.out; omega) hh (code := C) (fun hg => by rw [← HC.out]; have hlg := HL.out; exact fitC_ok ⟨g1, g32, rfl⟩ hlg ⟨(hg 0 (by omega)).1, fun i hi => (hg i hi).2⟩) (fun ⟨p, hp1, hp2⟩ => by rw [← HC.out]; have hlg := HL.out; exact fitC_no ⟨g1, g32, rfl⟩ hlg (fun q => hp2 ⟨q.1, q.2 p hp1⟩))
    rcases hh with ⟨hc0, A, c, S9, rfl, h1, h2, h3⟩ | ⟨hc0, rfl, h1⟩
    · have H1 := Lib.hid h1
      have H2 := Lib.hid h2
      have H3 := Lib.hid h3
      clear h1 h2 h3
      go_wp2_with fail
      go_ret2
      exact .inl ⟨hc0, A, c, S9, rfl, H1.out, H2.out, H3.out⟩
    · have H1 := Lib.hid h1
      clear h1
      go_wp2_with fail
      go_ret2
      exact .inr ⟨hc0, rfl, H1.out⟩
end
theorem seal_okW {w : World} {b : Nat} {d : Gd} {Ak Am Ar : Option Addr} {nk ck cm cr n : Nat} {K : Int} {M R : Nat → Nsl} (h : Gr w b d) (hk : Nm w Ak nk ck K) (hm : Ns w Am n cm M) (hr : Ns w Ar n cr R) (h1 : 1 ≤ n) (h32 : n ≤ 32) (hl : ∀ i, i < n → dl (R i).N ≤ 64) (ek : El d.P d.Q K) (em : ElS d.P d.Q M n) :
    Calls Tryz.prog 16 #[.pointer (some ⟨b, 0, none⟩), .slice Ak nk ck, .slice Am n cm, .slice Ar n cr] w (LetAW (fun i => sealN d.P d.Q d.G K (M i).N (R i).N) n w) :=
  (pm_sealW h hk hm hr).mono fun _ _ g => g.elim (fun q => q.2) (fun q => absurd (fitC_ok ⟨h1, h32, rfl⟩ (fun ⟨i, h2, h3⟩ => by have := hl i h2; omega) ⟨ek, em⟩) q.1)
end Go.Proofs.YtpmnghealjgkeaaGreat
