/-
  Contracts for the laws of layer 5: what is answered, under a name of one's own.
-/
import Derived.Test.YtnfncaaclpddkaaDoorFit0
import Derived.Test.YtnfncaaclpddkaaDoorMn
namespace Go.Proofs.YtnfncaaclpddkaaDoor
open Go.RowKit
set_option linter.unusedVariables false
theorem cut_lit {A : Option Addr} {n c m : Nat} {v : Int} (hv : v = m) {k : Nat} (hk : min n m = k) (hn : n ≤ 140737488351232) (hnc : n ≤ c) (hA : A = none → n = 0) (w : World) :
    Calls Tryd.prog 8 #[.slice A n c, .int .i64 v] w fun e w' => e = .returned (.slice A k c) ∧ w = w' := by
  subst hv hk
  exact cut_any hn hnc hA w
theorem IsRow.none_len {w : World} {a : Option Addr} {len cap : Nat} {zs : List Int} (h : IsRow .u8 1 w a len cap zs) : a = none → len = 0 := fun ha => by
  rcases h with ⟨-, h2, -, -⟩ | ⟨x, h1, -⟩
  · exact h2
  · rw [ha] at h1; cases h1
theorem mac_long {x y : List Int} (h : 64 < x.length) : mac x y = mac (sha x) y := by
  have e : keyB x = keyB (sha x) := by
    unfold keyB
    rw [if_pos h, if_neg (by rw [sha_len]; omega)]
  unfold mac
  rw [e]
theorem strm_piece (k : List Int) {j r : Nat} (h : j < r) : ((stream k (32 * r)).drop (32 * j)).take 32 = parts [k, be8 (j : Int)] := by
  have e1 : stream k (32 * r) = strm k r := by rw [← stream_of k (m := r) (Nat.le_refl _)]; exact List.take_of_length_le (by rw [strm_len]; omega)
  have e2 := strm_take k (m := j + 1) (p := r) (by omega)
  rw [e1]
  have e3 : ((strm k r).take (32 * (j + 1))).drop (32 * j) = ((strm k r).drop (32 * j)).take 32 := by rw [List.drop_take]; congr 1; omega
  rw [← e3, e2]
  show (strm k j ++ parts [k, be8 (j : Int)]).drop (32 * j) = _
  rw [List.drop_left' (strm_len k j)]
section
variable {W : World} {A A2 : Option Addr} {n c n2 c2 : Nat} {l k R : List Int}
theorem sha_r (hR : sha l = R) (hT : Tabs W) (h : Bs W A n c l) : Calls Tryd.prog 9 #[.slice A n c] W (AnsB R 32 W) := by
  subst hR; exact sha_b hT h
theorem sha_r0 (hR : sha [] = R) (hT : Tabs W) : Calls Tryd.prog 9 #[.slice none 0 0] W (AnsB R 32 W) := by
  subst hR; exact sha_b0 hT
theorem parts_r0 (hR : sha [] = R) (hT : Tabs W) : Calls Tryd.prog 12 #[.slice none 0 0] W (AnsB R 32 W) := by
  subst hR; exact parts_b0 hT
theorem mac_r (hR : mac k l = R) (hT : Tabs W) (hk : Bs W A n c k) (h : Bs W A2 n2 c2 l) (hn : n2 ≤ 1000000) : Calls Tryd.prog 14 #[.slice A n c, .slice A2 n2 c2] W (AnsB R 32 W) := by
  subst hR; exact mac_b hT hk h (by omega)
end
theorem stream_l {W : World} {A : Option Addr} {n c q : Nat} {key : List Int} (hT : Tabs W) (hk : Bs W A n c key) (hq : q ≤ 1048576) (hn : n ≤ 1000000) :
    Calls Tryd.prog 16 #[.slice A n c, .int .i64 q] W fun e W' => ∃ A1 c1, e = .returned (.tuple #[.slice A1 q c1, .nilIface]) ∧ Bs W' A1 q c1 (stream key q) ∧ Bw W W' :=
  (stream_any hT hk q hq (by omega)).mono fun e W' h => by
    obtain ⟨v, rfl, ho, hb⟩ := h
    have hd : Dig 256 (stream key q) := fun x hx => strm_dig key _ x (List.mem_of_mem_take hx)
    obtain ⟨A, c, rfl, hbs⟩ := ho.bs hd (by rw [stream_len]; omega)
    rw [stream_len] at hbs ⊢
    exact ⟨A, c, rfl, hbs, hb⟩
theorem number_b (N : Int) (h0 : 0 ≤ N) (h1 : N < 9223372036854775808) (W : World) : Calls Tryd.prog 18 #[.int .i64 N] W (AnsB (be8 N) 8 W) :=
  (number_i N h0 h1 W).mono fun _ _ h => h.b (be8_len N) (be8_dig N) (by omega)
theorem parts_r2 {W : World} {A A2 : Option Addr} {n c n2 c2 : Nat} {l k R : List Int} (hR : parts [k, l] = R) (hT : Tabs W) (h : Bs W A n c k) (h2 : Bs W A2 n2 c2 l) (hn : n ≤ 1000000) (hn2 : n2 ≤ 1000000) {g : Nat} (hg : W.heap.size = g) :
    Calls Tryd.prog 12 #[.slice (some ⟨g, 0, none⟩) 2 2] (W.alloc (.cells #[.slice A n c, .slice A2 n2 c2] 22)) (AnsB R 32 W) := by
  subst hR; exact parts_b2 hT h h2 hn hn2 hg
def LpR (r : Nat) (w : World) (i : Value) (wr : World) : Prop := ∃ j : Nat, j ≤ r ∧ i = .int .i64 j ∧ Bw w wr
def ZrR (A : Option Addr) (w0 : World) (i : Value) (wr : World) : Prop := ∃ q : Nat, q ≤ 32 ∧ i = .int .i64 q ∧ Trd 5 .u8 A 32 w0 wr
theorem AnsO.nb {bs : List Int} {n : Nat} {W W' : World} {e : Ending} (hl : bs.length = n) (hd : Dig 256 bs) (hn : n ≤ 1099511627776) (h : AnsO bs W e W') : AnsB bs n W e W' := h.b hl hd hn
end Go.Proofs.YtnfncaaclpddkaaDoor
