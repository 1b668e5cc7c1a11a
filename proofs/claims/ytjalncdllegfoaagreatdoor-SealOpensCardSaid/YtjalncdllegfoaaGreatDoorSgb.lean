/-
  Several texts in one: Sg6, Sg7, Sg8, Sg9, U8, B8, M8.
-/
import Derived.Test.YtjalncdllegfoaaGreatDoorSga
import Derived.Test.YtjalncdllegfoaaGreatDoorGro
import Derived.Deep.RegionLaw
import Derived.Test.YtjalncdllegfoaaGreatDoorKnx
import Derived.Lib.SmallJoins
import Derived.Test.YtjalncdllegfoaaGreatDoorPkf
import Derived.Test.YtjalncdllegfoaaGreatDoorDoc
/-
  What Know, Sign and Equal of package sigma answer.
-/
namespace Go.Proofs.YtjalncdllegfoaaGreatDoor
open Go.RowKit
set_option linter.unusedVariables false
section
variable {w : World} {b : Nat} {d : Gd} {A A' Ac Ak Aa : Option Addr} {n c n' c' nc cc nk ck na ca : Nat} {X Y S K : Int} {ctx : List Int}
/-! ### Where something is amiss -/
/-! ### Know, Sign -/
/-! ### Equal -/
end
end Go.Proofs.YtjalncdllegfoaaGreatDoor
/-
  What checkOne, Knows and Signed of package sigma answer.
-/
namespace Go.Proofs.YtjalncdllegfoaaGreatDoor
open Go.RowKit
set_option linter.unusedVariables false
/-- Whether it holds. -/
def VerP (E C : Int) (w : World) (e : Ending) (w' : World) : Prop := (∃ v, e = .returned v ∧ (E = C ∧ v = .nilIface ∨ E ≠ C ∧ v = .iface 57 (.int .i64 7))) ∧ B8 w w'
def ErrP (code : Int) (w : World) (e : Ending) (w' : World) : Prop := e = .returned (.iface 57 (.int .i64 code)) ∧ B8 w w'
/-- What a check of one power asks for. -/
def kcE (P Q G : Int) (lab ctx : List Int) (y Z E : Int) : Int := chl P Q lab ctx (lsI [y, backE P Q G y Z E]) 2
section
variable {w : World} {b : Nat} {d : Gd} {A A' Ac Ae Az : Option Addr} {n c n' c' nc cc ne ce nz cz : Nat} {X Y E Z : Int} {ctx : List Int}
end
end Go.Proofs.YtjalncdllegfoaaGreatDoor
/-
  What Knows, Signed and Equals of package sigma answer.
-/
namespace Go.Proofs.YtjalncdllegfoaaGreatDoor
open Go.RowKit
set_option linter.unusedVariables false
section
variable {w : World} {b : Nat} {d : Gd} {A A' Ac Ae Az Aa Ad : Option Addr} {n c n' c' nc cc ne ce nz cz na ca nd cd : Nat} {X Y E Z M : Int} {ctx : List Int}
end
end Go.Proofs.YtjalncdllegfoaaGreatDoor
/-
  What Equals of package sigma answer.
-/
namespace Go.Proofs.YtjalncdllegfoaaGreatDoor
open Go.RowKit
set_option linter.unusedVariables false
section
variable {w : World} {b : Nat} {d : Gd} {A A' Ac Ae Az Aa Ad : Option Addr} {n c n' c' nc cc ne ce nz cz na ca nd cd : Nat} {X Y E Z M : Int} {ctx : List Int}
/-- What a check of two powers asks for. -/
def ceE (P Q G : Int) (ctx : List Int) (y a x Z E : Int) : Int := chl P Q (strB lbE) ctx (lsI [y, a, x, backE P Q G y Z E, backE P Q a x Z E]) 5
end
end Go.Proofs.YtjalncdllegfoaaGreatDoor
/-
  The document's examples of layer 8: up answers true.
-/
namespace Go.Proofs.YtjalncdllegfoaaGreatDoor
open Go.RowKit
set_option linter.unusedVariables false
theorem lit8 (w : World) {x : Int} (h0 : 0 ≤ x) (h1 : x < W) : Nm (w.alloc (.cells #[.int .u64 x] 56)) (some ⟨w.heap.size, 0, none⟩) 1 1 x :=
  Nm.one (Row.new w 56 .u64 [x]) h0 h1 (by omega) (by omega)
theorem nil8 (w : World) : Nm w none 0 0 0 := (Cn.nil w).nm
theorem bz_nil (w : World) : Bz w none 0 [] := ⟨Rd.nil _ _ _, fun x h => by cases h⟩
theorem dl_sm8 {x : Int} (h0 : 0 ≤ x) (h1 : x < W) : dl x ≤ 64 := by
  have h := dl_le h0 (k := 1) (by rwa [show W ^ 1 = W by decide])
  omega
/-- A letter of a text, laid out and marked. -/
theorem bz_c (w : World) (x : Int) (h0 : 0 ≤ x) (h1 : x < 256) (fr : Nat × Nat) : Bz (w.alloc (.cells #[.int .u8 x] 5 fr)) (some ⟨w.heap.size, 0, none⟩) 1 [x] :=
  ⟨⟨rfl, fun _ => ⟨w.heap.size, 0, rfl, by simp, fun j y hy => by
    rw [Nat.zero_add, Joins.cell_alloc_mark_at w _ _ fr w.heap.size j rfl]
    match j, hy with
    | 0, hy => simp at hy; subst hy; rfl⟩⟩, fun y hy => by rw [List.mem_singleton] at hy; subst hy; exact ⟨h0, h1⟩⟩
/-- What was proved holds. -/
theorem kc_holds {P Q G : Int} {lab ctx : List Int} {S K E : Int} (hP : 2 ≤ P) (hQ : 1 ≤ Q) (hG : El P Q G) (s0 : 0 ≤ S) (k0 : 0 ≤ K) (hE : E = knE P Q G lab ctx S K) :
    E = kcE P Q G lab ctx (gx P Q G S) (respN Q E S K) E := by
  have e0 : 0 ≤ E := by rw [hE]; exact (chl_nn (by omega)).1
  unfold kcE
  rw [back_holds hP hQ hG s0 e0 k0]
  exact hE
theorem ce_holds {P Q G : Int} {ctx : List Int} {A S K E : Int} (hP : 2 ≤ P) (hQ : 1 ≤ Q) (hG : El P Q G) (hA : El P Q A) (s0 : 0 ≤ S) (k0 : 0 ≤ K) (hE : E = eqE P Q G ctx A S K) :
    E = ceE P Q G ctx (gx P Q G S) A (gx P Q A S) (respN Q E S K) E := by
  have e0 : 0 ≤ E := by rw [hE]; exact (chl_nn (by omega)).1
  unfold ceE
  rw [back_holds hP hQ hG s0 e0 k0, back_holds hP hQ hA s0 e0 k0]
  exact hE
theorem VerP.yes {E C : Int} {w w' : World} {e : Ending} (h : VerP E C w e w') (he : E = C) : e = .returned .nilIface ∧ B8 w w' := by
  obtain ⟨⟨v, rfl, hv⟩, hb⟩ := h
  rcases hv with ⟨-, rfl⟩ | ⟨hn, -⟩
  · exact ⟨rfl, hb⟩
  · exact absurd he hn
set_option maxRecDepth 100000 in
theorem eq_err8 (c : Int) : ∀ w : World, (binOp .eql 35 (.iface 57 (.int .i64 c)) (.iface 57 (.int .i64 c))).run Tryz.prog w = .ok (.bool (c == c)) w := fun _ => rfl
set_option maxRecDepth 100000 in
theorem eq_nil8 : ∀ w : World, (binOp .eql 35 .nilIface .nilIface).run Tryz.prog w = .ok (.bool true) w := fun _ => rfl
theorem not_el0 {P Q : Int} : ¬ El P Q 0 := fun h => by have := h.1; omega
end Go.Proofs.YtjalncdllegfoaaGreatDoor
/-
  What the walks of layer 8's laws have in common.
-/
namespace Go.Proofs.YtjalncdllegfoaaGreatDoor
open Go.RowKit
set_option linter.unusedVariables false
set_option maxRecDepth 100000 in
theorem gne8 (b : Nat) : ∀ w : World, (binOp .neq 26 (.pointer (some ⟨b, 0, none⟩)) (.pointer none)).run Tryz.prog w = .ok (.bool true) w := fun _ => rfl
set_option maxRecDepth 100000 in
theorem meq8 (b : Nat) : ∀ w : World, (binOp .eql 80 (.pointer (some ⟨b, 0, none⟩)) (.pointer none)).run Tryz.prog w = .ok (.bool false) w := fun _ => rfl
theorem cn_len {w : World} {A : Option Addr} {n c : Nat} {N : Int} (h : Cn w A n c N) : n = dl N := h.len_
theorem dl_pos {N : Int} (h : 0 < N) : dl N ≠ 0 := fun e => by
  have := (dl_zero (show 0 ≤ N by omega)).1 e
  omega
theorem IsRow.bz8 {w : World} {a : Option Addr} {len cap : Nat} {zs : List Int} (h : IsRow .u8 1 w a len cap zs) : Bz w a len (zs.take len) ∧ len ≤ 140737488355328 :=
  ⟨⟨h.rd, fun x hx => by have := bounds_u8 (h.wf x hx); omega⟩, by have := h.nc.1; have := h.nc.2; omega⟩
/-- Two numbers that are the same are told alike. -/
theorem same8 {w : World} {A A' : Option Addr} {n c n' c' : Nat} {N M : Int} (h : Cn w A n c N) (h' : Cn w A' n' c' M) (e : N = M) :
    Calls Tryz.prog 30 #[.slice A n c, .slice A' n' c'] w (AnsB true w) := by
  subst e
  have e1 := h.len_
  have e2 := h'.len_
  obtain rfl : n = n' := by omega
  exact same_yes h.rd h'.rd h.c60
end Go.Proofs.YtjalncdllegfoaaGreatDoor
/-
  A number with the group's Q more, as a law makes it; what changes with it; same of two proofs.
-/
namespace Go.Proofs.YtjalncdllegfoaaGreatDoor
open Go.RowKit
set_option linter.unusedVariables false
theorem of_nm8 {w : World} {A : Option Addr} {n c : Nat} {X : Int} (h : Nm w A n c X) (hn : n ≤ 1000) : Calls Tryz.prog 25 #[.slice A n c] w (AnsN X w) := by
  obtain ⟨⟨ys, y1, y2, y3⟩, -, -, -⟩ := h
  have := of_any A n c ys w y1 y2 hn
  rwa [y3] at this
/-- A number in new memory. -/
def AnsT8 (N : Int) (w : World) (e : Ending) (w' : World) : Prop := ∃ B m cap, e = .returned (.slice B m cap) ∧ Cn w' B m cap N ∧ (∀ a, B = some a → w.heap.size ≤ a.block) ∧ B8 w w'
theorem to_new8 {A : Option Addr} {n c : Nat} {N : Int} {w : World} (h : Rn w A n c N) (hn : n ≤ 100000) : Calls Tryz.prog 29 #[.slice A n c] w (AnsT8 N w) :=
  (to_own h hn).mono fun e w' ⟨v, m, he, ho, hb⟩ => by
    obtain ⟨B, cap, rfl, h1, h2, h3⟩ := own_rd ho
    have hl := h1.len
    have hd : (dg W N).length = dl N := rfl
    have h4 := dl_dr h.pos
    have h5 := h.len_
    exact ⟨B, _, cap, he, ⟨h1, h2, by omega, h.pos⟩, h3, hb⟩
theorem dr_nm {N : Int} (h0 : 0 ≤ N) (h : dl N ≤ 64) : dr N ≤ 256 := by have := dr_le h0 h; omega
theorem dr_sum {N M : Int} (h0 : 0 ≤ N) (h1 : 0 ≤ M) (h : dl N ≤ 64) (h' : dl M ≤ 64) : dr (N + M) ≤ 1000 := by
  have e : N + M < W ^ 65 := by
    have a := lt_dl h0 h
    have b := lt_dl h1 h'
    have c : W ^ 65 = W ^ 64 * W := Int.pow_succ _ _
    rw [c]
    have d : W ^ 64 * 2 ≤ W ^ 64 * W := Int.mul_le_mul_of_nonneg_left (by decide) (by omega)
    omega
  have h2 := dl_le (N := N + M) (by omega) e
  have h3 := dr_le (N := N + M) (by omega) h2
  omega
theorem dl_sum {N M : Int} (h0 : 0 ≤ N) (h1 : 0 ≤ M) (h : dl N ≤ 63) (h' : dl M ≤ 63) : dl (N + M) ≤ 64 := by
  refine dl_le (by omega) ?_
  have a := lt_dl h0 h
  have b := lt_dl h1 h'
  have c : W ^ 64 = W ^ 63 * W := Int.pow_succ _ _
  rw [c]
  have d : W ^ 63 * 2 ≤ W ^ 63 * W := Int.mul_le_mul_of_nonneg_left (by decide) (by omega)
  omega
/-! ### With a Q more -/
theorem knE_more {P Q G : Int} {lab ctx : List Int} {S K : Int} (hQ : 1 ≤ Q) : knE P Q G lab ctx (S + Q) K = knE P Q G lab ctx S K := by
  unfold knE
  rw [gx_more hQ]
theorem resp_more {Q E S K : Int} : respN Q E (S + Q) K = respN Q E S K := by
  unfold respN
  rw [Int.mul_add, ← Int.add_assoc, Int.add_mul_emod_self_right]
theorem ce_more {P Q G : Int} {ctx : List Int} {y a x Z E : Int} (hQ : 1 ≤ Q) : ceE P Q G ctx y a x (Z + Q) E = ceE P Q G ctx y a x Z E := by
  unfold ceE
  rw [back_more hQ, back_more hQ]
/-! ### same -/
end Go.Proofs.YtjalncdllegfoaaGreatDoor
