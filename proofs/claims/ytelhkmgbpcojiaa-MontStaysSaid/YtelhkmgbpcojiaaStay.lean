/-
  Slices that the statement made itself and turns cell by cell: what stays as it was. A number in a block of its own (Norm, Modulus).
-/
import Derived.Test.YtelhkmgbpcojiaaMade
namespace Go.Proofs.Ytelhkmgbpcojiaa
open Go.RowKit
set_option linter.unusedVariables false
/-- A slice of the call's own, from base on, that may be stored into. -/
structure Mine (w : World) (base : Nat) (A : Option Addr) (n c : Nat) (xs : List Int) : Prop where
  len : xs.length = n
  nc : n ≤ c
  new : ∀ a, A = some a → base ≤ a.block
  lt : ∀ a, A = some a → a.block < w.heap.size
  row : 0 < n → ∃ (g : Nat) (cur : Array Value), A = some ⟨g, 0, none⟩ ∧ w.heap[g]? = some (.cells cur 51 (0, 0)) ∧ ∀ (j : Nat) (x : Int), xs[j]? = some x → cur[j]? = some (Value.int .u64 x)
theorem Mine.below {w w' : World} {base : Nat} {A : Option Addr} {n c : Nat} {xs : List Int} (h : Mine w base A n c xs) (hb : Below w.heap.size w w') : Mine w' base A n c xs :=
  ⟨h.len, h.nc, h.new, fun a ha => Nat.lt_of_lt_of_le (h.lt a ha) hb.size, fun hn => by
    obtain ⟨g, cur, e, hg, hc⟩ := h.row hn
    exact ⟨g, cur, e, (hb.block g (Array.getElem?_eq_some_iff.1 hg).1).trans hg, hc⟩⟩
theorem Mine.rd {w : World} {base : Nat} {A : Option Addr} {n c : Nat} {xs : List Int} (h : Mine w base A n c xs) : Rd .u64 w A n xs :=
  ⟨h.len, fun hn => by
    obtain ⟨g, cur, e, hg, hc⟩ := h.row hn
    exact ⟨g, 0, e, (Array.getElem?_eq_some_iff.1 hg).1, fun j x hx => by rw [Nat.zero_add, cell_of_row w g j cur _ _ hg]; exact hc j x hx⟩⟩
theorem Mine.told {w : World} {base : Nat} {A : Option Addr} {n c : Nat} {xs : List Int} (h : Mine w base A n c xs) (hd : Dig W xs) (hn : n ≤ 1000) : Told w A n c xs := ⟨h.rd, hd, h.nc, by omega⟩
theorem mine_own {w : World} {base : Nat} {v : Value} {n : Nat} {xs : List Int} (h : w.ownsRow base 51 1 v n (xs.map (Value.int .u64))) : ∃ A c, v = .slice A n c ∧ Mine w base A n c xs := by
  have hl : xs.length = n := by have := h.1; simpa using this
  rcases h.2 with ⟨rfl, rfl⟩ | ⟨g, cap, cur, rfl, hb, hg, hnc, hm, hs, ht⟩
  · exact ⟨none, 0, rfl, hl, Nat.le_refl _, fun a ha => (by cases ha), fun a ha => (by cases ha), fun h => absurd h (by omega)⟩
  · refine ⟨_, cap, rfl, hl, hnc, fun a ha => by injection ha with ha; subst ha; exact hb, fun a ha => by injection ha with ha; subst ha; exact (Array.getElem?_eq_some_iff.1 hg).1, fun hn => ⟨g, cur, rfl, hg, fun j x hx => ?_⟩⟩
    have hj : j < n := by
      rcases Nat.lt_or_ge j n with q | q
      · exact q
      · rw [List.getElem?_eq_none (by omega)] at hx; cases hx
    have h1 : (cur.toList.take (n * 1))[j]? = some (.int .u64 x) := by rw [ht, List.getElem?_map, hx]; rfl
    rw [List.getElem?_take_of_lt (by omega)] at h1
    simpa using h1
theorem mine_row {w : World} {base g : Nat} {n c : Nat} {xs : List Int} (h : Row w g 51 .u64 xs) (hl : xs.length = n) (hnc : n ≤ c) (hb : base ≤ g) : Mine w base (some ⟨g, 0, none⟩) n c xs :=
  ⟨hl, hnc, fun a ha => by injection ha with ha; subst ha; exact hb, fun a ha => by injection ha with ha; subst ha; exact h.lt, fun _ => ⟨g, _, rfl, h, fun j x hx => by simp [hx]⟩⟩
theorem Mine.nm {w : World} {base : Nat} {A : Option Addr} {n c : Nat} {xs : List Int} {N : Int} (h : Mine w base A n c xs) (hd : Dig W xs) (hn : n ≤ 1000) (hv : val W xs = N) : Nm w A n c N := by have h1 := (h.told hd hn).nm; rw [hv] at h1; exact h1
/-- Only what the slice A has may have turned. -/
structure Bumped (A : Option Addr) (n : Nat) (w0 w : World) : Prop where
  zero : n = 0 → w = w0
  row : 0 < n → ∃ (g : Nat) (cur : Array Value), A = some ⟨g, 0, none⟩ ∧ w.heap[g]? = some (.cells cur 51 (0, 0)) ∧ (∀ j, j < n → ∃ x : Int, cur[j]? = some (Value.int .u64 x)) ∧ w0.grownBy w (some g)
theorem Bumped.start {w : World} {base : Nat} {A : Option Addr} {n c : Nat} {xs : List Int} (h : Mine w base A n c xs) : Bumped A n w w :=
  ⟨fun _ => rfl, fun hn => by
    obtain ⟨g, cur, e, hg, hc⟩ := h.row hn
    exact ⟨g, cur, e, hg, fun j hj => ⟨_, hc j _ (getElem?_dig (by have := h.len; omega))⟩, World.grownBy.refl w _⟩⟩
theorem Bumped.below {A : Option Addr} {n : Nat} {w0 w a : World} {B : Nat} (h : Bumped A n w0 w) (hb : Below B a w0) (hB : B ≤ w0.heap.size) (hg : ∀ x, A = some x → B ≤ x.block) : Below B a w := by
  rcases Nat.eq_zero_or_pos n with g | g
  · rw [h.zero g]; exact hb
  · obtain ⟨g, cur, e, -, -, gr⟩ := h.row g
    exact below_grown hb gr hB (hg _ e)
theorem Bumped.size {A : Option Addr} {n : Nat} {w0 w : World} (h : Bumped A n w0 w) : w0.heap.size ≤ w.heap.size := by
  rcases Nat.eq_zero_or_pos n with g | g
  · rw [h.zero g]; exact Nat.le_refl _
  · obtain ⟨g, cur, e, -, -, gr⟩ := h.row g
    exact gr.size
theorem Bumped.rd {A A' : Option Addr} {n n' : Nat} {w0 w : World} {k : IntKind} {xs : List Int} (h : Bumped A n w0 w) (hr : Rd k w0 A' n' xs) (hne : 0 < n' → ∀ x y, A = some x → A' = some y → y.block ≠ x.block) : Rd k w A' n' xs := by
  rcases Nat.eq_zero_or_pos n with g | g
  · rw [h.zero g]; exact hr
  · obtain ⟨g, cur, e, -, -, gr⟩ := h.row g
    rcases Nat.eq_zero_or_pos n' with g' | g'
    · subst g'
      obtain rfl : xs = [] := List.eq_nil_of_length_eq_zero hr.len
      exact Rd.nil _ _ _
    · exact hr.grown gr (fun a ha => hne g' _ a e ha)
theorem Bumped.cn {A A' : Option Addr} {n n' c' : Nat} {w0 w : World} {N : Int} (h : Bumped A n w0 w) (hr : Cn w0 A' n' c' N) (hne : 0 < n' → ∀ x y, A = some x → A' = some y → y.block ≠ x.block) : Cn w A' n' c' N :=
  ⟨h.rd hr.rd hne, hr.nc, hr.c60, hr.pos⟩
theorem Bumped.nm {A A' : Option Addr} {n n' c' : Nat} {w0 w : World} {N : Int} (h : Bumped A n w0 w) (hr : Nm w0 A' n' c' N) (hne : 0 < n' → ∀ x y, A = some x → A' = some y → y.block ≠ x.block) : Nm w A' n' c' N := by
  obtain ⟨⟨xs, h1, h2, h3⟩, h4, h5, h6⟩ := hr
  exact ⟨⟨xs, h.rd h1 hne, h2, h3⟩, h4, h5, h6⟩
theorem Bumped.cell {A : Option Addr} {n : Nat} {w0 w : World} (h : Bumped A n w0 w) {p : Addr} (hp : p.block < w0.heap.size) (hne : ∀ x, A = some x → p.block ≠ x.block) : w.cell? p = w0.cell? p := by
  rcases Nat.eq_zero_or_pos n with g | g
  · rw [h.zero g]
  · obtain ⟨g, cur, e, -, -, gr⟩ := h.row g
    exact World.cell?_of_block (gr.block p.block hp (fun he => hne _ e (by injection he)))
theorem Bumped.md {w0 w : World} {b : Nat} {m : Int} {n : Nat} {A : Option Addr} {c : Nat} {low : Int} {B : Option Addr} {cB : Nat} {S : Option Addr} {cS : Nat} (md : Md w0 b m n A c low B cB S cS) {X : Option Addr} {k : Nat} (h : Bumped X k w0 w)
    (h0 : ∀ x, X = some x → b ≠ x.block) (h1 : ∀ x y, X = some x → A = some y → y.block ≠ x.block) (h2 : ∀ x y, X = some x → B = some y → y.block ≠ x.block) (h3 : ∀ x y, X = some x → S = some y → y.block ≠ x.block) : Md w b m n A c low B cB S cS :=
  ⟨Nat.lt_of_lt_of_le md.lt h.size, (h.cell (p := ⟨b, 0, none⟩) md.lt h0).trans md.c0, (h.cell (p := ⟨b, 1, none⟩) md.lt h0).trans md.c1, (h.cell (p := ⟨b, 2, none⟩) md.lt h0).trans md.c2, (h.cell (p := ⟨b, 3, none⟩) md.lt h0).trans md.c3,
    h.cn md.lim (fun _ => h1), md.low0, md.low1, md.lowm, h.nm md.one (fun _ => h2), h.nm md.shift (fun _ => h3), md.odd, md.m3, md.l32⟩
theorem Bumped.mine {X A : Option Addr} {k n c base : Nat} {xs : List Int} {w0 w : World} (h : Bumped X k w0 w) (hM : Mine w0 base A n c xs) (hne : ∀ x y, X = some x → A = some y → y.block ≠ x.block) : Mine w base A n c xs :=
  ⟨hM.len, hM.nc, hM.new, fun a ha => Nat.lt_of_lt_of_le (hM.lt a ha) h.size, fun hn => by
    obtain ⟨g, cur, e, hg, hc⟩ := hM.row hn
    refine ⟨g, cur, e, ?_, hc⟩
    rcases Nat.eq_zero_or_pos k with z | z
    · rw [h.zero z]; exact hg
    · obtain ⟨g', cur', e', -, -, gr⟩ := h.row z
      exact (gr.block g (Array.getElem?_eq_some_iff.1 hg).1 (fun he => hne _ _ e' e (by injection he))).trans hg⟩
/-- One cell more. -/
theorem Bumped.step {A : Option Addr} {n k g : Nat} {w0 w : World} {cur : Array Value} {x : Int} (hA : A = some ⟨g, 0, none⟩) (hk : k < n) (hg : w.heap[g]? = some (.cells cur 51 (0, 0))) (hc : ∀ j, j < n → ∃ x : Int, cur[j]? = some (Value.int .u64 x)) (gr : w0.grownBy w (some g)) :
    Bumped A n w0 (w.setCell ⟨g, k, none⟩ (.int .u64 x)) := by
  refine ⟨fun h => by omega, fun _ => ⟨g, cur.setIfInBounds k (.int .u64 x), hA, ?_, fun j hj => ?_, grown_setCell gr k _⟩⟩
  · rw [setCell_eq_setRow w g k cur _ _ _ hg]; exact setRow_heap w g cur _ _ _ hg
  · rw [Array.getElem?_setIfInBounds]
    split
    · rename_i h
      subst h
      obtain ⟨y, hy⟩ := hc k hk
      have := (Array.getElem?_eq_some_iff.1 hy).1
      rw [if_pos this]
      exact ⟨x, rfl⟩
    · exact hc j hj
def BumpR (A : Option Addr) (n : Nat) (w0 : World) (i : Value) (wr : World) : Prop := ∃ k : Nat, k ≤ n ∧ i = .int .i64 k ∧ Bumped A n w0 wr
/-! ### Norm and Modulus: the answer has a block of its own -/
def AnsR (N : Int) (w : World) (e : Ending) (w' : World) : Prop :=
  e = .returned (.slice (some ⟨w.heap.size, 0, none⟩) (dl N) (dl N)) ∧ Row w' w.heap.size 51 .u64 (dg W N) ∧ Below w.heap.size w w'
set_option maxHeartbeats 1000000 in
theorem norm_row {A : Option Addr} {n c : Nat} {N : Int} {w : World} (h : Nm w A n c N) :
    Calls Try.prog 34 #[.slice A n c] w (AnsR N w) := by
  have hx := h.lim
  have hle : dl N ≤ 17592186044416 := by have := hx.nc; have := hx.c60; omega
  have hmk := fun W => run_make64 (dl N) (C := (dl N : Int)) rfl (by omega) W
  obtain ⟨Z, hZ⟩ : ∃ Z : List Int, Z = List.replicate (dl N) 0 := ⟨_, rfl⟩
  rw [← hZ] at hmk
  have HZ := Lib.hid hZ
  clear hZ
  obtain ⟨X, hX⟩ : ∃ X : List Int, X = dg W N := ⟨_, rfl⟩
  have hxr := hx.rd
  rw [← hX] at hxr
  have HX := Lib.hid hX
  clear hX
  go_enter Try.func34, Try.ntmps34
  go_wp2_with fail
  refine (limbs_nm h).mono ?_
  rintro e w1 ⟨rfl, rfl⟩
  go_wp2_with (with_reducible refine wpList_copy_splice rfl (.tmp 10) (.tmp 11) 23 23 rfl 51 Try.underlying23 (by kernel_rfl) _ _ _ _ _ _ rfl rfl w.heap.size 0 (Z.map (Value.int .u64)) 51 ?hg (X.map (Value.int .u64)) ?hn ?hpos ?hfit ?h1 w.heap.size w ?hb (Nat.le_refl _) ?_)
  case hg => exact Row.new _ _ _ _
  case hn => rw [List.length_map, hxr.len]; simp
  case hpos => exact rd_pos hxr
  case hfit => rw [List.length_map, List.length_map, hxr.len, HZ.out]; simp
  case h1 => exact ints_oneCell _ _
  case hb => exact (Below.refl _ _).alloc (Nat.le_refl _) _
  intro w2 hrow hb
  clear hmk
  go_wp2
  go_ret
  have hr := hrow.out
  rw [splice_all (by rw [List.length_map, List.length_map, hxr.len, HZ.out]; simp)] at hr
  have hr2 : Row w2 w.heap.size 51 .u64 X := hr
  rw [HX.out] at hr2
  exact ⟨rfl, hr2, hb⟩
theorem modulus_row {w : World} {b : Nat} {m : Int} {n : Nat} {A : Option Addr} {c : Nat} {low : Int} {B : Option Addr} {cB : Nat} {S : Option Addr} {cS : Nat} (md : Md w b m n A c low B cB S cS) :
    Calls Try.prog 16 #[.pointer (some ⟨b, 0, none⟩)] w (AnsR m w) := by
  have q0 := md.c0
  go_enter Try.func16, Try.ntmps16
  go_wp2_with fail
  refine (norm_row md.lim.nm).mono ?_
  rintro e w1 ⟨rfl, k1, b1⟩
  go_wp2
  go_ret
  exact ⟨rfl, k1, b1⟩
theorem same_mine {A B : Option Addr} {n c c' : Nat} {xs : List Int} {w : World} (h : Rd .u64 w A n xs) (h' : Rd .u64 w B n xs) (hn : n ≤ 1000) :
    Calls Try.prog 15 #[.slice A n c, .slice B n c'] w (AnsV (.bool true) w) :=
  (same_yes h h' (by omega)).mono fun e w' ⟨he, q, hq⟩ => ⟨he, hq ▸ below_drewN (Below.refl _ _) q⟩
end Go.Proofs.Ytelhkmgbpcojiaa
