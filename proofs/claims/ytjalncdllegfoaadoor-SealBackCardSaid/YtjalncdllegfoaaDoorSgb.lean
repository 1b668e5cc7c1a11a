/-
  Several texts in one: Sg6, Sg7, Sg8, Sg9, U8, B8.
-/
import Derived.Test.YtjalncdllegfoaaDoorSga
import Derived.Test.YtjalncdllegfoaaDoorGro
import Derived.Deep.RegionLaw
import Derived.Test.YtjalncdllegfoaaDoorKnx
import Derived.Lib.SmallJoins
import Derived.Test.YtjalncdllegfoaaDoorPkf
/-
  What Know, Sign and Equal of package sigma answer.
-/
namespace Go.Proofs.YtjalncdllegfoaaDoor
open Go.RowKit
set_option linter.unusedVariables false
section
variable {w : World} {b : Nat} {d : Gd} {A A' Ac Ak Aa : Option Addr} {n c n' c' nc cc nk ck na ca : Nat} {X Y S K : Int} {ctx : List Int}
/-! ### Where something is amiss -/
/-! ### Know, Sign -/
/-! ### Equal -/
end
end Go.Proofs.YtjalncdllegfoaaDoor
/-
  What checkOne, Knows and Signed of package sigma answer.
-/
namespace Go.Proofs.YtjalncdllegfoaaDoor
open Go.RowKit
set_option linter.unusedVariables false
/-- Whether it holds. -/
def VerP (E C : Int) (w : World) (e : Ending) (w' : World) : Prop := (∃ v, e = .returned v ∧ (E = C ∧ v = .nilIface ∨ E ≠ C ∧ v = .iface 43 (.int .i64 7))) ∧ B8 w w'
def ErrP (code : Int) (w : World) (e : Ending) (w' : World) : Prop := e = .returned (.iface 43 (.int .i64 code)) ∧ B8 w w'
/-- What a check of one power asks for. -/
def kcE (P Q G : Int) (lab ctx : List Int) (y Z E : Int) : Int := chl P Q lab ctx (lsI [y, backE P Q G y Z E]) 2
section
variable {w : World} {b : Nat} {d : Gd} {A A' Ac Ae Az : Option Addr} {n c n' c' nc cc ne ce nz cz : Nat} {X Y E Z : Int} {ctx : List Int}
end
end Go.Proofs.YtjalncdllegfoaaDoor
/-
  What Knows, Signed and Equals of package sigma answer.
-/
namespace Go.Proofs.YtjalncdllegfoaaDoor
open Go.RowKit
set_option linter.unusedVariables false
section
variable {w : World} {b : Nat} {d : Gd} {A A' Ac Ae Az Aa Ad : Option Addr} {n c n' c' nc cc ne ce nz cz na ca nd cd : Nat} {X Y E Z M : Int} {ctx : List Int}
end
end Go.Proofs.YtjalncdllegfoaaDoor
/-
  What Equals of package sigma answer.
-/
namespace Go.Proofs.YtjalncdllegfoaaDoor
open Go.RowKit
set_option linter.unusedVariables false
section
variable {w : World} {b : Nat} {d : Gd} {A A' Ac Ae Az Aa Ad : Option Addr} {n c n' c' nc cc ne ce nz cz na ca nd cd : Nat} {X Y E Z M : Int} {ctx : List Int}
/-- What a check of two powers asks for. -/
def ceE (P Q G : Int) (ctx : List Int) (y a x Z E : Int) : Int := chl P Q (strB lbE) ctx (lsI [y, a, x, backE P Q G y Z E, backE P Q a x Z E]) 5
end
end Go.Proofs.YtjalncdllegfoaaDoor
/-
  The document's examples of layer 8: up answers true.
-/
namespace Go.Proofs.YtjalncdllegfoaaDoor
open Go.RowKit
set_option linter.unusedVariables false
theorem lit8 (w : World) {x : Int} (h0 : 0 ≤ x) (h1 : x < W) : Nm (w.alloc (.cells #[.int .u64 x] 45)) (some ⟨w.heap.size, 0, none⟩) 1 1 x :=
  Nm.one (Row.new w 45 .u64 [x]) h0 h1 (by omega) (by omega)
theorem nil8 (w : World) : Nm w none 0 0 0 := (Cn.nil w).nm
theorem bz_nil (w : World) : Bz w none 0 [] := ⟨Rd.nil _ _ _, fun x h => by cases h⟩
theorem dl_sm8 {x : Int} (h0 : 0 ≤ x) (h1 : x < W) : dl x ≤ 64 := by
  have h := dl_le h0 (k := 1) (by rwa [show W ^ 1 = W by decide])
  omega
/-- A letter of a text, laid out and marked. -/
theorem bz_c (w : World) (x : Int) (h0 : 0 ≤ x) (h1 : x < 256) (fr : Nat × Nat) : Bz (w.alloc (.cells #[.int .u8 x] 5 fr)) (some ⟨w.heap.size, 0, none⟩) 1 [x] :=
  ⟨⟨rfl, fun _ => ⟨w.heap.size, 0, rfl, by simp, fun j y hy => by
    rw [Nat.zero_add, Joins.cell_alloc_mark_at w _ _ fr w.heap.size j rfl]
    match j, hy with
    | 0, hy => simp at hy; subst hy; rfl⟩⟩, fun y hy => by rw [List.mem_singleton] at hy; subst hy; exact ⟨h0, h1⟩⟩
/-- What was proved holds. -/
theorem kc_holds {P Q G : Int} {lab ctx : List Int} {S K E : Int} (hP : 2 ≤ P) (hQ : 1 ≤ Q) (hG : El P Q G) (s0 : 0 ≤ S) (k0 : 0 ≤ K) (hE : E = knE P Q G lab ctx S K) :
    E = kcE P Q G lab ctx (gx P Q G S) (respN Q E S K) E := by
  have e0 : 0 ≤ E := by rw [hE]; exact (chl_nn (by omega)).1
  unfold kcE
  rw [back_holds hP hQ hG s0 e0 k0]
  exact hE
theorem ce_holds {P Q G : Int} {ctx : List Int} {A S K E : Int} (hP : 2 ≤ P) (hQ : 1 ≤ Q) (hG : El P Q G) (hA : El P Q A) (s0 : 0 ≤ S) (k0 : 0 ≤ K) (hE : E = eqE P Q G ctx A S K) :
    E = ceE P Q G ctx (gx P Q G S) A (gx P Q A S) (respN Q E S K) E := by
  have e0 : 0 ≤ E := by rw [hE]; exact (chl_nn (by omega)).1
  unfold ceE
  rw [back_holds hP hQ hG s0 e0 k0, back_holds hP hQ hA s0 e0 k0]
  exact hE
theorem VerP.yes {E C : Int} {w w' : World} {e : Ending} (h : VerP E C w e w') (he : E = C) : e = .returned .nilIface ∧ B8 w w' := by
  obtain ⟨⟨v, rfl, hv⟩, hb⟩ := h
  rcases hv with ⟨-, rfl⟩ | ⟨hn, -⟩
  · exact ⟨rfl, hb⟩
  · exact absurd he hn
set_option maxRecDepth 100000 in
theorem eq_err8 (c : Int) : ∀ w : World, (binOp .eql 28 (.iface 43 (.int .i64 c)) (.iface 43 (.int .i64 c))).run Tryd.prog w = .ok (.bool (c == c)) w := fun _ => rfl
set_option maxRecDepth 100000 in
theorem eq_nil8 : ∀ w : World, (binOp .eql 28 .nilIface .nilIface).run Tryd.prog w = .ok (.bool true) w := fun _ => rfl
theorem not_el0 {P Q : Int} : ¬ El P Q 0 := fun h => by have := h.1; omega
end Go.Proofs.YtjalncdllegfoaaDoor
/-
  What the walks of layer 8's laws have in common.
-/
namespace Go.Proofs.YtjalncdllegfoaaDoor
open Go.RowKit
set_option linter.unusedVariables false
set_option maxRecDepth 100000 in
theorem gne8 (b : Nat) : ∀ w : World, (binOp .neq 26 (.pointer (some ⟨b, 0, none⟩)) (.pointer none)).run Tryd.prog w = .ok (.bool true) w := fun _ => rfl
set_option maxRecDepth 100000 in
theorem meq8 (b : Nat) : ∀ w : World, (binOp .eql 50 (.pointer (some ⟨b, 0, none⟩)) (.pointer none)).run Tryd.prog w = .ok (.bool false) w := fun _ => rfl
theorem cn_len {w : World} {A : Option Addr} {n c : Nat} {N : Int} (h : Cn w A n c N) : n = dl N := h.len_
theorem dl_pos {N : Int} (h : 0 < N) : dl N ≠ 0 := fun e => by
  have := (dl_zero (show 0 ≤ N by omega)).1 e
  omega
theorem IsRow.bz8 {w : World} {a : Option Addr} {len cap : Nat} {zs : List Int} (h : IsRow .u8 1 w a len cap zs) : Bz w a len (zs.take len) ∧ len ≤ 140737488355328 :=
  ⟨⟨h.rd, fun x hx => by have := bounds_u8 (h.wf x hx); omega⟩, by have := h.nc.1; have := h.nc.2; omega⟩
end Go.Proofs.YtjalncdllegfoaaDoor
