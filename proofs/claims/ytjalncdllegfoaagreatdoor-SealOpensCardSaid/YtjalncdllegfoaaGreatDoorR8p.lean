/-
  Several texts in one: R8a, R8b, R8c.
-/
import Derived.Test.YtjalncdllegfoaaGreatDoorSga
import Derived.Test.YtjalncdllegfoaaGreatDoorRfo
import Derived.Test.YtjalncdllegfoaaGreatDoorRhr
import Derived.Test.YtjalncdllegfoaaGreatDoorPkf
import Derived.Deep.RegionLaw
import Derived.Test.YtjalncdllegfoaaGreatDoorSgb
import Derived.Test.YtjalncdllegfoaaGreatDoorDoc
import Derived.Laws.Tables
/-
  The document's layer 8: what Long, Wide, Bytes and Challenge answer.
-/
namespace Go.Proofs.YtjalncdllegfoaaGreatDoor
open Go.RowKit
set_option linter.unusedVariables false
theorem rn_bel {w w' : World} {A : Option Addr} {n c : Nat} {N : Int} (h : Rn w A n c N) (hb : B8 w w') : Rn w' A n c N := h.below hb
theorem rlimbs8 {w : World} {A : Option Addr} {n c : Nat} {N : Int} (h : Nm w A n c N) :
    Calls Tryz.prog 18 #[.slice A n c] w fun e w' => e = .returned (.int .i64 (dl N : Nat)) ∧ w = w' := by
  obtain ⟨⟨ys, y1, y2, y3⟩, h4, h5, -⟩ := h
  refine (Limbs_any A n c ys w y1 y2 h4 h5).mono fun e w' ⟨he, hw⟩ => ⟨?_, hw⟩
  subst y3
  exact he
section
variable {w : World} {b k : Nat} {r : Rgd} {A : Option Addr} {n c : Nat} {X : Int}
theorem rwide_any (h : Rg w b r k) (lp : r.nP ≤ 300) : Calls Tryz.prog 94 #[.pointer (some ⟨b, 0, none⟩)] w fun e w' => e = .returned (.int .i64 ((nb r.P + 7) / 8 : Nat)) ∧ w = w' := by
  have q0 := h.c0
  have HP := Lib.hid h.p
  have hnb : nb r.P ≤ 100000 := by
    have h1 := h.p.len_
    have h2 := dl_dr h.p.pos
    have h3 := nb_le h.p.pos
    omega
  clear h
  go_enter Tryz.func94, Tryz.ntmps94
  go_wp2_with fail
  refine (rbits_any HP.out (by omega)).mono ?_
  rintro e w1 ⟨rfl, rfl⟩
  go_wp2_with fail
  go_ret
  exact ⟨by go_num, rfl⟩
theorem rby8_any (h : Rg w b r k) (lp : r.nP ≤ 300) {l : Nat} (hl : (nb r.P + 7) / 8 = l) (l3 : l ≤ 1024) (ha : Rn w A n c X) (hn : n ≤ 100000) :
    Calls Tryz.prog 58 #[.pointer (some ⟨b, 0, none⟩), .slice A n c] w (TobP X l w) := by
  have HL := Lib.hid hl
  have HA := Lib.hid ha
  have HG := Lib.hid h
  clear hl ha h
  go_enter Tryz.func58, Tryz.ntmps58
  go_wp2_with fail
  refine (rwide_any HG.out lp).mono ?_
  rintro e w1 ⟨rfl, rfl⟩
  rw [HL.out]
  go_wp2_with fail
  refine (rbytes_any HA.out hn l l3).mono ?_
  rintro e w2 ⟨rfl, hr, hb⟩
  have HR := Lib.hid hr
  have HB := Lib.hid hb
  clear hr hb
  go_wp2_with fail
  go_ret
  exact ⟨rfl, HR.out, HB.out⟩
end
/-! ### Lists of the document's numbers -/
structure Rs8 (w : World) (a : Option Addr) (n c : Nat) (S : Nat → Nsl) : Prop where
  c60 : n ≤ 16
  ex : 0 < n → ∃ b off, a = some ⟨b, off, none⟩ ∧ b < w.heap.size ∧ ∀ i, i < n → w.cell? ⟨b, off + i, none⟩ = some (.slice (S i).A (S i).n (S i).c)
  at_ : ∀ i, i < n → Rn w (S i).A (S i).n (S i).c (S i).N ∧ (S i).n ≤ 100000
theorem Rs8.below {w w' : World} {a : Option Addr} {n c : Nat} {S : Nat → Nsl} (h : Rs8 w a n c S) (hb : Below w.heap.size w w') : Rs8 w' a n c S :=
  ⟨h.c60, fun hn => by
    obtain ⟨b, off, e, hl, hc⟩ := h.ex hn
    exact ⟨b, off, e, Nat.lt_of_lt_of_le hl hb.size, fun i hi => (hb.cell (p := ⟨b, _, none⟩) hl).trans (hc i hi)⟩, fun i hi => ⟨(h.at_ i hi).1.below hb, (h.at_ i hi).2⟩⟩
theorem rs_lit {w : World} (L : List Nsl) (h : ∀ s ∈ L, Rn w s.A s.n s.c s.N ∧ s.n ≤ 100000) (hn : L.length ≤ 16) (t : TypeId) {g : Nat} (hg : w.heap.size = g) {n : Nat} (hL : L.length = n) :
    Rs8 (w.alloc (.cells (L.map Nsl.v).toArray t)) (some ⟨g, 0, none⟩) n n (lstN L) := by
  subst hg hL
  refine ⟨hn, fun _ => ⟨w.heap.size, 0, rfl, by simp, fun i hi => ?_⟩, fun i hi => ?_⟩
  · rw [Nat.zero_add, World.cell?_alloc_at]
    · simp [lstN, hi, Nsl.v]
    · rfl
  · have e : lstN L i = L[i] := by simp [lstN, hi]
    rw [e]
    exact ⟨(h _ (List.getElem_mem hi)).1.below (below_al _ _), (h _ (List.getElem_mem hi)).2⟩
theorem rows8 {w : World} {b k : Nat} {r : Rgd} (h : Rg w b r k) : w.cell? ⟨b, 1, none⟩ = some (.slice r.AQ r.nQ r.cQ) := h.c1
theorem size126 : (Tryz.prog.info? 110).map (·.size) = some 2 := by kernel_rfl
theorem tb_box (w : World) (x y : Value) : (w.alloc (.cells #[x, y] 110)).cell? ⟨w.heap.size, 0, none⟩ = some x ∧ (w.alloc (.cells #[x, y] 110)).cell? ⟨w.heap.size, 1, none⟩ = some y := by
  constructor <;> simp [World.cell?_alloc_at]
end Go.Proofs.YtjalncdllegfoaaGreatDoor
/-
  The document's layer 8: what answer and Know answer.
-/
namespace Go.Proofs.YtjalncdllegfoaaGreatDoor
open Go.RowKit
set_option linter.unusedVariables false
/-! ### Codes, and answers in one form -/
open Classical in
noncomputable def knwC (lg : Prop) : Int := if lg then 2 else 0
open Classical in
noncomputable def eqlC (lg el : Prop) : Int := if lg then 2 else if el then 0 else 8
open Classical in
noncomputable def chkC (lg el ok : Prop) : Int := if lg then 2 else if el then (if ok then 0 else 7) else 8
/-- What a proof's number is, where something is amiss. -/
def okN (code N : Int) : Int := if code = 0 then N else 0
/-- A proof and an error. -/
def PrfV (code E Z : Int) (w : World) (e : Ending) (w' : World) : Prop :=
  ∃ A1 n1 c1 A2 n2 c2 v, e = .returned (.tuple #[.agg #[.slice A1 n1 c1, .slice A2 n2 c2], v]) ∧ ErV v code ∧ Cn w' A1 n1 c1 (okN code E) ∧ Cn w' A2 n2 c2 (okN code Z) ∧ B8 w w'
/-- The document's: a proof and a number. -/
def DocV (code E Z : Int) (w : World) (e : Ending) (w' : World) : Prop :=
  ∃ A1 n1 c1 A2 n2 c2, e = .returned (.tuple #[.agg #[.slice A1 n1 c1, .slice A2 n2 c2], .int .i64 code]) ∧ Cn w' A1 n1 c1 (okN code E) ∧ Cn w' A2 n2 c2 (okN code Z) ∧ B8 w w'
theorem PrfA.v {E Z : Int} {w w' : World} {e : Ending} (h : PrfA E Z w e w') : PrfV 0 E Z w e w' := by
  obtain ⟨A1, n1, c1, A2, n2, c2, rfl, h1, h2, h3, -, -⟩ := h
  exact ⟨A1, n1, c1, A2, n2, c2, _, rfl, .inl ⟨rfl, rfl⟩, h1, h2, h3⟩
theorem PrfE.v {code E Z : Int} {w w' : World} {e : Ending} (h : PrfE code w e w') (h1 : 1 ≤ code) (h2 : code ≤ 15) : PrfV code E Z w e w' := by
  obtain ⟨rfl, hb⟩ := h
  have e0 : ∀ N, okN code N = 0 := fun N => if_neg (by omega)
  refine ⟨none, 0, 0, none, 0, 0, _, rfl, .inr ⟨⟨h1, h2⟩, rfl⟩, ?_, ?_, hb⟩
  · rw [e0]; exact Cn.nil _
  · rw [e0]; exact Cn.nil _
theorem doc_no {code E Z : Int} (hc : code ≠ 0) {w w' : World} {e : Ending} (he : e = .returned (.tuple #[.agg #[.slice none 0 0, .slice none 0 0], .int .i64 code])) (hb : B8 w w') : DocV code E Z w e w' := by
  have e0 : ∀ N, okN code N = 0 := fun N => if_neg hc
  refine ⟨none, 0, 0, none, 0, 0, he, ?_, ?_, hb⟩
  · rw [e0]; exact Cn.nil _
  · rw [e0]; exact Cn.nil _
section
variable {w : World} {b k : Nat} {r : Rgd} {A A' Ak Ac Ae Az : Option Addr} {n c n' c' nk ck nc cc ne ce nz cz : Nat} {X Y E S K Z : Int} {ctx : List Int}
theorem Rg.n3 {w w' : World} {b k : Nat} {r : Rgd} (h : Rg w b r k) (lp : r.nP ≤ 300) {A : Option Addr} {n c : Nat} {X : Int} (hx : Rn w' A n c X) (hlt : X < r.P) : n ≤ 300 := by
  have h1 := hx.len_
  have h2 := h.p.len_
  have h3 := dr_mono hx.pos (Int.le_of_lt hlt)
  omega
theorem Rg.q3 {w w' : World} {b k : Nat} {r : Rgd} (h : Rg w b r k) (lq : r.nQ ≤ 300) {A : Option Addr} {n c : Nat} {X : Int} (hx : Rn w' A n c X) (hlt : X < r.Q) : n ≤ 300 := by
  have h1 := hx.len_
  have h2 := h.q.len_
  have h3 := dr_mono hx.pos (Int.le_of_lt hlt)
  omega
theorem dr_add8 {N M : Int} (h0 : 0 ≤ N) (h1 : 0 ≤ M) {m : Nat} (a : dr N ≤ m) (b : dr M ≤ m) : dr (N + M) ≤ m + 1 := by
  refine dg_len_le D_two (by omega) ?_
  have h2 := dg_lt_pow D_two h0 a
  have h3 := dg_lt_pow D_two h1 b
  have c : D ^ (m + 1) = D ^ m * D := Int.pow_succ _ _
  rw [c]
  have d : D ^ m * 2 ≤ D ^ m * D := Int.mul_le_mul_of_nonneg_left (by decide) (by omega)
  omega
/-! ### answer -/
end
end Go.Proofs.YtjalncdllegfoaaGreatDoor
/-
  The document's layer 8: what back answers.
-/
namespace Go.Proofs.YtjalncdllegfoaaGreatDoor
open Go.RowKit
set_option linter.unusedVariables false
/-- A group of the document's, and how long its numbers are. -/
structure Rg8 (w : World) (b k : Nat) (r : Rgd) : Prop extends Rg7 w b r k where
  nbP : nb r.P ≤ 4096
theorem Rg8.bel {w w' : World} {b k : Nat} {r : Rgd} (h : Rg8 w b k r) (hb : B8 w w') : Rg8 w' b k r := ⟨h.toRg7.below hb, h.nbP⟩
theorem Rg8.gP {w : World} {b k : Nat} {r : Rgd} (h : Rg8 w b k r) : r.G < r.P := h.el.2.1
theorem Rg8.p0 {w : World} {b k : Nat} {r : Rgd} (h : Rg8 w b k r) : 0 < r.P := by have := h.safe.p2; omega
theorem Rg8.q0 {w : World} {b k : Nat} {r : Rgd} (h : Rg8 w b k r) : 0 < r.Q := by have := h.safe.q3; omega
section
variable {w : World} {b k : Nat} {r : Rgd} {A A' Ak Ac Ae Az : Option Addr} {n c n' c' nk ck nc cc ne ce nz cz : Nat} {X Y E S K Z : Int} {ctx : List Int}
theorem gx_ltP {P Q g s : Int} (hP : 0 < P) : gx P Q g s < P := Int.emod_lt_of_pos _ hP
theorem iv_ltP {P Q g : Int} (hP : 0 < P) : iv P Q g < P := Int.emod_lt_of_pos _ hP
theorem back_ltP {P Q a y z e : Int} (hP : 0 < P) : backE P Q a y z e < P := Int.emod_lt_of_pos _ hP
theorem dr_sc {N : Int} {m : Nat} (h0 : 0 ≤ N) (h : dl N ≤ 64) : dr N ≤ 256 := dr_nm h0 h
/-! ### back -/
end
end Go.Proofs.YtjalncdllegfoaaGreatDoor
