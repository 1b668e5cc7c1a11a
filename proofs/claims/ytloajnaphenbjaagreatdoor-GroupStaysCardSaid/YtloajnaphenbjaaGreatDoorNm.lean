/-
  A slice that is a number; what limbs makes of it; the post of calls that answer a number and no error.
-/
import Derived.Test.YtloajnaphenbjaaGreatDoorLim
import Derived.Test.YtloajnaphenbjaaGreatDoorBits
namespace Go.Proofs.YtloajnaphenbjaaGreatDoor
open Go.RowKit
/-- How many digits of 64 bits a number has. -/
def dl (N : Int) : Nat := (dg W N).length
/-- The slice is a number, however it is told. -/
structure Nm (w : World) (A : Option Addr) (n c : Nat) (N : Int) : Prop where
  ex : ∃ xs, Rd .u64 w A n xs ∧ Dig W xs ∧ val W xs = N
  nc : n ≤ c
  c60 : n ≤ 17592186044416
  pos : 0 ≤ N
/-- The slice is a number, told without noughts at the end. -/
structure Cn (w : World) (A : Option Addr) (n c : Nat) (N : Int) : Prop where
  rd : Rd .u64 w A n (dg W N)
  nc : n ≤ c
  c60 : n ≤ 17592186044416
  pos : 0 ≤ N
section
variable {w w' : World} {A : Option Addr} {n c : Nat} {N : Int}
theorem Cn.nm (h : Cn w A n c N) : Nm w A n c N := ⟨⟨_, h.rd, dig_dg W_two h.pos, val_dg W_two h.pos⟩, h.nc, h.c60, h.pos⟩
theorem Cn.len_ (h : Cn w A n c N) : n = dl N := h.rd.len.symm
theorem Nm.below (h : Nm w A n c N) (hb : Below w.heap.size w w') : Nm w' A n c N := by
  obtain ⟨⟨xs, h1, h2, h3⟩, h4, h5, h6⟩ := h
  exact ⟨⟨xs, h1.below hb, h2, h3⟩, h4, h5, h6⟩
theorem Cn.below (h : Cn w A n c N) (hb : Below w.heap.size w w') : Cn w' A n c N := ⟨h.rd.below hb, h.nc, h.c60, h.pos⟩
theorem Nm.drewN (h : Nm w A n c N) (m : Nat) : Nm (w.drewN m) A n c N := h.below (below_drewN (Below.refl _ _) m)
theorem Cn.drewN (h : Cn w A n c N) (m : Nat) : Cn (w.drewN m) A n c N := h.below (below_drewN (Below.refl _ _) m)
theorem Nm.alloc (h : Nm w A n c N) (o : Obj) : Nm (w.alloc o) A n c N := h.below ((Below.refl _ _).alloc (Nat.le_refl _) o)
theorem Cn.alloc (h : Cn w A n c N) (o : Obj) : Cn (w.alloc o) A n c N := h.below ((Below.refl _ _).alloc (Nat.le_refl _) o)
/-- What counts of it. -/
theorem Nm.lim (h : Nm w A n c N) : Cn w A (dl N) c N := by
  obtain ⟨⟨xs, h1, h2, h3⟩, h4, h5, h6⟩ := h
  subst h3
  -- the digits that count are a beginning of those that are told
  have hl := h1.len
  have key : ∃ m, m ≤ xs.length ∧ (∀ j, m ≤ j → j < xs.length → xs.getD j 0 = 0) ∧ (0 < m → xs.getD (m - 1) 0 ≠ 0) := by
    clear h1 h2 hl h4 h5 h6
    generalize hk : xs.length = k
    have h0 : ∀ j, k ≤ j → j < k → xs.getD j 0 = 0 := fun j a b => by omega
    have hle : k ≤ k := Nat.le_refl k
    revert h0 hle
    generalize hm : k = m
    have : ∀ m, (∀ j, m ≤ j → j < k → xs.getD j 0 = 0) → m ≤ k → ∃ m, m ≤ k ∧ (∀ j, m ≤ j → j < k → xs.getD j 0 = 0) ∧ (0 < m → xs.getD (m - 1) 0 ≠ 0) := by
      intro m
      induction m with
      | zero => intro h _; exact ⟨0, by omega, h, fun h => absurd h (by omega)⟩
      | succ m ih =>
        intro h hle
        by_cases hz : xs.getD m 0 = 0
        · refine ih (fun j a b => ?_) (by omega)
          rcases Nat.lt_or_ge m j with hj | hj
          · exact h j (by omega) b
          · obtain rfl : j = m := by omega
            exact hz
        · exact ⟨m + 1, hle, h, fun _ => by simpa using hz⟩
    subst hm
    exact this k
  obtain ⟨m, a, b, d⟩ := key
  obtain ⟨e1, e2⟩ := strip W_two h2 a b d
  have e3 : dl (val W xs) = m := e2.symm
  refine ⟨?_, by omega, by omega, h6⟩
  rw [e3, ← e1]
  exact h1.take (by omega)
theorem Nm.dl_le (h : Nm w A n c N) : dl N ≤ n := by
  obtain ⟨⟨xs, h1, h2, h3⟩, h4, h5, h6⟩ := h
  subst h3
  exact dg_len_le W_two h6 (h1.len ▸ val_lt (by decide) h2)
/-- nil is 0. -/
theorem Cn.nil (w : World) : Cn w none 0 0 0 := ⟨by rw [dg_zero]; exact Rd.nil _ _ _, Nat.le_refl _, by omega, Int.le_refl _⟩
/-- One digit. -/
theorem Nm.one {g cap : Nat} {x : Int} (h : Row w g 38 .u64 [x]) (h0 : 0 ≤ x) (h1 : x < W) (hc : 1 ≤ cap) (_hc : cap ≤ 17592186044416) : Nm w (some ⟨g, 0, none⟩) 1 cap x :=
  ⟨⟨[x], h.rd (by rfl) (fun j y hy => by simpa using hy), fun y hy => by simp at hy; subst hy; exact ⟨h0, h1⟩, by simp [val]⟩, hc, by omega, h0⟩
end

/-- limbs. -/
theorem limbs_nm {A : Option Addr} {n c : Nat} {N : Int} {w : World} (h : Nm w A n c N) :
    Calls Tryz.prog 61 #[.slice A n c] w fun e w' => e = .returned (.slice A (dl N) c) ∧ w = w' := by
  obtain ⟨⟨xs, h1, h2, h3⟩, h4, h5, h6⟩ := h
  refine (limbs_any A n c xs w h1 h2 h4 h5).mono fun e w' ⟨he, hw⟩ => ⟨?_, hw⟩
  subst h3
  exact he

/-- 'x, nil' was answered, x the number N in new memory. -/
def Ans (N : Int) (w : World) (e : Ending) (w' : World) : Prop :=
  ∃ B m cap, e = .returned (.tuple #[.slice B m cap, .nilIface]) ∧ Cn w' B m cap N ∧ Below w.heap.size w w' ∧ ∀ a, B = some a → w.heap.size ≤ a.block
/-- 'nil, err' was answered, err a Code. -/
def Err1 (code : Int) (w : World) (e : Ending) (w' : World) : Prop :=
  e = .returned (.tuple #[.slice none 0 0, .iface 39 (.int .i64 code)]) ∧ Below w.heap.size w w'
theorem dl_le {N : Int} (h0 : 0 ≤ N) {k : Nat} (h : N < W ^ k) : dl N ≤ k := dg_len_le W_two h0 h
theorem lt_dl {N : Int} (h0 : 0 ≤ N) {k : Nat} (h : dl N ≤ k) : N < W ^ k := dg_lt_pow W_two h0 h
theorem dl_mono {N M : Int} (h0 : 0 ≤ N) (h : N ≤ M) : dl N ≤ dl M := dg_len_mono W_two h0 h
theorem dl_zero {N : Int} (h0 : 0 ≤ N) : dl N = 0 ↔ N = 0 := dg_nil_iff W_two h0
theorem val_dl {N : Int} (h0 : 0 ≤ N) {m : Nat} (h : dl N ≤ m) : vf W (dig (dg W N)) m = N := by
  rw [← val_vf W (dg W N) h, val_dg W_two h0]
end Go.Proofs.YtloajnaphenbjaaGreatDoor
