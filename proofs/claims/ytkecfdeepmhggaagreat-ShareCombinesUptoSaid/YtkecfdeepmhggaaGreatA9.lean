/-
  Helpers of layer 9's own laws: a scalar of at most 40 digits; lists of such; the group that a law speaks of.
-/
import Derived.Test.YtkecfdeepmhggaaGreatPnc
import Derived.Test.YtkecfdeepmhggaaGreatMxx
import Derived.Test.YtkecfdeepmhggaaGreatOwk
namespace Go.Proofs.YtkecfdeepmhggaaGreat
open Go.RowKit
set_option linter.unusedVariables false
/-- A number of 40 digits at most. -/
def scN (s : Nsl) : Nsl := if 40 < s.n then ⟨s.A, 40, s.c, s.N % W ^ 40⟩ else s
theorem Nm.take9 {w : World} {A : Option Addr} {n c : Nat} {N : Int} (h : Nm w A n c N) {m : Nat} (hm : m ≤ n) : Nm w A m c (N % W ^ m) := by
  obtain ⟨⟨xs, h1, h2, h3⟩, h4, h5, h6⟩ := h
  have hl := h1.len
  have ht : (xs.take m).length = m := by rw [List.length_take]; omega
  have hd : Dig W (xs.take m) := fun x hx => h2 x (List.mem_of_mem_take hx)
  have hv : val W (xs.take m) = N % W ^ m := by
    have e := val_append W (xs.take m) (xs.drop m)
    rw [List.take_append_drop, ht, h3] at e
    have b1 := val_lt (b := W) (by decide) hd
    rw [ht] at b1
    rw [e, Int.add_mul_emod_self_left]
    exact (Int.emod_eq_of_lt (val_nonneg (by decide) hd) b1).symm
  exact ⟨⟨xs.take m, h1.take hm, hd, hv⟩, by omega, by omega, hv ▸ val_nonneg (by decide) hd⟩
theorem Nm.scN {w : World} {s : Nsl} (h : Nm w s.A s.n s.c s.N) : Nm w (scN s).A (scN s).n (scN s).c (scN s).N := by
  unfold Go.Proofs.YtkecfdeepmhggaaGreat.scN
  split
  · exact h.take9 (m := 40) (by omega)
  · exact h
theorem scN_le (s : Nsl) : (scN s).n ≤ 40 := by
  unfold scN
  split
  · exact Nat.le_refl _
  · omega
theorem Nm.dlsc {w : World} {s : Nsl} (h : Nm w s.A s.n s.c s.N) : dl (Go.Proofs.YtkecfdeepmhggaaGreat.scN s).N ≤ 64 := by
  have := h.scN.dl_le
  have := scN_le s
  omega
theorem Nm.possc {w : World} {s : Nsl} (h : Nm w s.A s.n s.c s.N) : 0 ≤ (Go.Proofs.YtkecfdeepmhggaaGreat.scN s).N := h.scN.pos
/-! ### Lists of numbers, side by side -/
theorem one_at9a (w : World) (u : Value) (t : TypeId) : (w.alloc (.cells #[u] t)).cell? ⟨w.heap.size, 0, none⟩ = some u := by simp [World.cell?_alloc_at]
theorem infoN9a : (Tryz.prog.info? 39).map (fun i => (i.zero, i.size, i.bytes)) = some (some (.slice none 0 0), 1, 24) := by kernel_rfl
theorem Owg.congr9 {κ : Type} {K : Kd κ} {e : TypeId} {w : World} {base : Nat} {v : Value} {n : Nat} {S T : Nat → κ} (h : Owg K e w base v n S) (he : ∀ i, i < n → S i = T i) : Owg K e w base v n T :=
  ⟨by
    have e1 : owgC K T n = owgC K S n := List.map_congr_left fun i hi => by rw [he i (List.mem_range.1 hi)]
    rw [e1]; exact h.own, fun i hi => he i hi ▸ h.at_ i hi, fun i hi => he i hi ▸ h.els i hi⟩
theorem Lst.congr9 {κ : Type} {K : Kd κ} {e : TypeId} {k : Nat} {c : Nat → Nat} {w : World} {base : Nat} {v : Value} {n : Nat} {S T : Nat → κ} (h : Lst K e k c w base v n S) (he : ∀ i, i < n → S i = T i) : Lst K e k c w base v n T :=
  ⟨h.l.congr9 he, h.row, fun i hi => he i hi ▸ h.con i hi⟩
theorem snoc_self9 {κ : Type} (S : Nat → κ) (n : Nat) : ∀ i, i < n + 1 → snocG S n (S n) i = S i := fun i hi => by
  rcases Nat.lt_or_ge i n with g | g
  · exact snocG_lt g
  · obtain rfl : i = n := by omega
    exact snocG_at
/-- What was there at the start has no colour. -/
def Old9 (w : World) (c : Nat → Nat) : Prop := ∀ b, b < w.heap.size → c b = 0
theorem Old9.same {w W : World} {c c' : Nat → Nat} (h : Old9 w c) (hs : SameC W c c') (hb : w.heap.size ≤ W.heap.size) : Old9 w c' := fun b g => (hs b (by omega)).trans (h b g)
theorem Kd.other9 {κ : Type} {K : Kd κ} {w w' : World} {c : Nat → Nat} {s : κ} (h : K.At w s) (hc : ∀ b, K.Bl s b → c b = 0) {v2 : Value} {k2 : Nat} (hg : w.grownBy w' v2.ownBlock) (h2 : ∀ g, v2.ownBlock = some g → c g = k2) (h0 : k2 ≠ 0) : K.At w' s :=
  K.stay h hg.size fun b hb => hg.block b (K.lt h hb) fun e => by have := h2 b e.symm; have := hc b hb; omega
end Go.Proofs.YtkecfdeepmhggaaGreat
