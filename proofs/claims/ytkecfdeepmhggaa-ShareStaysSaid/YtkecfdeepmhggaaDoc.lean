/-
  Several texts in one: Ref, Of, To, RefW, RAdd, RSum, RCmp, RefV, RDiv, RRe, RMul, RExp.
-/
import Derived.Test.YtkecfdeepmhggaaPka
import Derived.Test.YtkecfdeepmhggaaPkf
import Derived.Test.YtkecfdeepmhggaaPkg
import Derived.Deep.QuietTactic
import Derived.BigQuiet
import Derived.Test.YtkecfdeepmhggaaPkm
/-
  The document's own numbers, of digits of 16 bits: what Trim, at, Of and To answer.
-/
namespace Go.Proofs.Ytkecfdeepmhggaa
open Go.RowKit
set_option linter.unusedVariables false
/-- 2 to the 16. -/
def D : Int := 65536
theorem D_two : 2 ≤ D := by decide
theorem info3 : (Try.prog.info? 3).map (fun i => (i.zero, i.size, i.bytes)) = some (some (.int .i64 0), 1, 8) := by kernel_rfl

/-! ### Trim, at -/
theorem trim_end {b : Int} (hb2 : 2 ≤ b) {kd : IntKind} {A : Option Addr} {n k : Nat} {xs : List Int} {w : World} (h : Rd kd w A n xs) (hd : Dig b xs) (hk : k ≤ n) (hz : ∀ j, k ≤ j → j < n → xs.getD j 0 = 0) (hl : 0 < k → xs.getD (k - 1) 0 ≠ 0) : k = (dg b (val b xs)).length := by
  have hn := h.len
  subst hn
  exact (strip hb2 hd hk hz hl).2
/-- How many digits of 16 bits a number has. -/
def dr (N : Int) : Nat := (dg D N).length
/-- The slice is the document's number N. -/
structure Rn (w : World) (A : Option Addr) (n c : Nat) (N : Int) : Prop where
  rd : Rd .i64 w A n (dg D N)
  nc : n ≤ c
  n60 : n ≤ 1125899906842624
  pos : 0 ≤ N
theorem Rn.below {w w' : World} {A : Option Addr} {n c : Nat} {N : Int} (h : Rn w A n c N) (hb : Below w.heap.size w w') : Rn w' A n c N := ⟨h.rd.below hb, h.nc, h.n60, h.pos⟩
theorem Rn.len_ {w : World} {A : Option Addr} {n c : Nat} {N : Int} (h : Rn w A n c N) : n = dr N := h.rd.len.symm
/-- A number of the document's was answered. -/
def AnsN (N : Int) (w : World) (e : Ending) (w' : World) : Prop := ∃ B m cap, e = .returned (.slice B m cap) ∧ Rn w' B m cap N ∧ Below w.heap.size w w'
/-- The number, in memory of its own. -/
def AnsNn (N : Int) (w : World) (e : Ending) (w' : World) : Prop := ∃ B m cap, e = .returned (.slice B m cap) ∧ Rn w' B m cap N ∧ Below w.heap.size w w' ∧ ∀ a, B = some a → w.heap.size ≤ a.block
/-- The digits that count are a beginning of those that are told. -/
theorem strip_ex {b : Int} (hb : 2 ≤ b) {xs : List Int} (hd : Dig b xs) : dg b (val b xs) = xs.take (dg b (val b xs)).length := by
  have key : ∀ m, (∀ j, m ≤ j → j < xs.length → xs.getD j 0 = 0) → m ≤ xs.length → ∃ m, m ≤ xs.length ∧ (∀ j, m ≤ j → j < xs.length → xs.getD j 0 = 0) ∧ (0 < m → xs.getD (m - 1) 0 ≠ 0) := by
    intro m
    induction m with
    | zero => intro h _; exact ⟨0, by omega, h, fun h => absurd h (by omega)⟩
    | succ m ih =>
      intro h hle
      by_cases hz : xs.getD m 0 = 0
      · refine ih (fun j a b => ?_) (by omega)
        rcases Nat.lt_or_ge m j with hj | hj
        · exact h j (by omega) b
        · obtain rfl : j = m := by omega
          exact hz
      · exact ⟨m + 1, hle, h, fun _ => by simpa using hz⟩
  obtain ⟨m, h1, h2, h3⟩ := key xs.length (fun j a b => by omega) (Nat.le_refl _)
  obtain ⟨e1, e2⟩ := strip hb hd h1 h2 h3
  rw [← e2]
  exact e1.symm
/-- What Trim leaves of digits. -/
theorem trim_own {w : World} {A : Option Addr} {n c : Nat} {xs : List Int} (h : Rd .i64 w A n xs) (hd : Dig D xs) (hnc : n ≤ c) (hn : n ≤ 1125899906842624) : Rn w A (dr (val D xs)) c (val D xs) := by
  have hl := h.len
  have hle : dr (val D xs) ≤ n := dg_len_le D_two (val_nonneg (by decide) hd) (hl ▸ val_lt (by decide) hd)
  refine ⟨?_, by omega, by omega, val_nonneg (by decide) hd⟩
  have key := strip_ex D_two hd
  rw [show dg D (val D xs) = xs.take (dr (val D xs)) from key]
  exact h.take hle
/-! ### Of -/
theorem W_D (k : Nat) : W ^ k = D ^ (4 * k) := by
  have : W = D ^ 4 := by decide
  rw [this, ← Int.pow_mul]
end Go.Proofs.Ytkecfdeepmhggaa
/-
  The document's own numbers: what Of answers.
-/
namespace Go.Proofs.Ytkecfdeepmhggaa
open Go.RowKit
set_option linter.unusedVariables false
theorem Dig.snoc {b y : Int} {L : List Int} (h : Dig b L) (h0 : 0 ≤ y) (h1 : y < b) : Dig b (L ++ [y]) := by
  intro x hx
  rw [List.mem_append] at hx
  rcases hx with hx | hx
  · exact h x hx
  · simp at hx; subst hx; exact ⟨h0, h1⟩
theorem val_snoc (b : Int) (L : List Int) (y : Int) : val b (L ++ [y]) = val b L + y * b ^ L.length := by
  rw [val_append]; simp [val, Int.mul_comm]
def OfO (xs : List Int) (n : Nat) (w : World) (o i : Value) (wr : World) : Prop :=
  ∃ (k : Nat) (L : List Int), k ≤ n ∧ i = .int .i64 k ∧ wr.ownsRow w.heap.size 3 1 o (4 * k) (L.map (Value.int .i64)) ∧ Dig D L ∧ val D L = val W (xs.take k) ∧ Below w.heap.size w wr
def OfI (S : Int) (x0 : Int) (k : Nat) (w : World) (o x j : Value) (wr : World) : Prop :=
  ∃ (i : Nat) (y : Int) (L : List Int), i ≤ 4 ∧ j = .int .i64 i ∧ x = .int .u64 y ∧ 0 ≤ y ∧ y < 18446744073709551616 ∧ y * D ^ i ≤ x0 ∧ wr.ownsRow w.heap.size 3 1 o (4 * k + i) (L.map (Value.int .i64)) ∧ Dig D L ∧ val D L + y * D ^ (4 * k + i) = S + x0 * W ^ k ∧ Below w.heap.size w wr
theorem of_step {S x0 y d y' : Int} {L : List Int} {k i : Nat} (hl : L.length = 4 * k + i) (e : y = d + y' * D) (h : val D L + y * D ^ (4 * k + i) = S + x0 * W ^ k) : val D (L ++ [d]) + y' * D ^ (4 * k + (i + 1)) = S + x0 * W ^ k := by
  rw [val_snoc, hl, ← h, e, ← Nat.add_assoc, Int.pow_succ]
  generalize D ^ (4 * k + i) = p
  grind
theorem of_less {x0 y y' d : Int} {i : Nat} (e : y = d + y' * D) (d0 : 0 ≤ d) (h : y * D ^ i ≤ x0) : y' * D ^ (i + 1) ≤ x0 := by
  have hp := pow_pos' D_two i
  have : y' * D ^ (i + 1) = y' * D * D ^ i := by rw [Int.pow_succ]; grind
  rw [this]
  have h2 := Int.mul_le_mul_of_nonneg_right (show y' * D ≤ y by omega) (show 0 ≤ D ^ i by omega)
  omega
theorem of_done {x0 y : Int} (h : y * D ^ 4 ≤ x0) (y0 : 0 ≤ y) (hx : x0 < 18446744073709551616) : y = 0 := by
  have : D ^ 4 = 18446744073709551616 := by decide
  rw [this] at h
  omega
theorem val_take_succ {xs : List Int} {k : Nat} {x : Int} (h : xs[k]? = some x) : val W (xs.take (k + 1)) = val W (xs.take k) + x * W ^ k := by
  have hk : k < xs.length := by
    rcases Nat.lt_or_ge k xs.length with g | g
    · exact g
    · rw [List.getElem?_eq_none g] at h; cases h
  rw [val_take W xs (by omega), val_take W xs (by omega)]
  simp only [vf]
  rw [dig_lt h]
end Go.Proofs.Ytkecfdeepmhggaa
/-
  The document's own numbers: what To answers.
-/
namespace Go.Proofs.Ytkecfdeepmhggaa
open Go.RowKit
set_option linter.unusedVariables false
def ToO (X : List Int) (n : Nat) (w : World) (o i : Value) (wr : World) : Prop :=
  ∃ (k : Nat) (u : Int) (L : List Int), i = .int .i64 u ∧ u = 4 * (k : Int) ∧ (0 < k → 4 * (k - 1) < n) ∧ wr.ownsRow w.heap.size 54 1 o k (L.map (Value.int .u64)) ∧ Dig W L ∧ val W L = vf D (dig X) (4 * k) ∧ Below w.heap.size w wr
def ToI (X : List Int) (k : Nat) (w : World) (x j : Value) (wr : World) : Prop :=
  ∃ (r : Nat) (u y : Int), r ≤ 4 ∧ j = .int .i64 u ∧ u = (r : Int) - 1 ∧ x = .int .u64 y ∧ 0 ≤ y ∧ y < D ^ (4 - r) ∧ vf D (fun j => dig X (4 * k + j)) 4 = vf D (fun j => dig X (4 * k + j)) r + y * D ^ r ∧ w = wr
theorem to_step {X : List Int} {k s : Nat} {y S : Int} (h : S = vf D (fun j => dig X (4 * k + j)) (s + 1) + y * D ^ (s + 1)) : S = vf D (fun j => dig X (4 * k + j)) s + (y * 65536 + dig X (4 * k + s)) * D ^ s := by
  rw [h]
  have e : D ^ (s + 1) = D ^ s * 65536 := Int.pow_succ _ _
  simp only [vf]
  rw [e]
  generalize D ^ s = p
  grind
theorem to_bd {y x : Int} {s : Nat} (hs : s + 1 ≤ 4) (h0 : 0 ≤ y) (h : y < D ^ (4 - (s + 1))) (x0 : 0 ≤ x) (x1 : x < 65536) : 0 ≤ y * 65536 + x ∧ y * 65536 + x < D ^ (4 - s) ∧ y < 281474976710656 := by
  have e : D ^ (4 - s) = D ^ (4 - (s + 1)) * 65536 := by
    have : 4 - s = (4 - (s + 1)) + 1 := by omega
    rw [this]; exact Int.pow_succ _ _
  have h3 := pow_mono (b := D) (by decide) (show 4 - (s + 1) ≤ 3 by omega)
  have h4 : D ^ 3 = 281474976710656 := by decide
  rw [e]
  have : (y + 1) * 65536 ≤ D ^ (4 - (s + 1)) * 65536 := Int.mul_le_mul_of_nonneg_right (by omega) (by decide)
  omega
theorem to_sum {X L : List Int} {k : Nat} {y : Int} (hl : L.length = k) (hv : val W L = vf D (dig X) (4 * k)) (h : vf D (fun j => dig X (4 * k + j)) 4 = y) : val W (L ++ [y]) = vf D (dig X) (4 * (k + 1)) := by
  have e : 4 * (k + 1) = 4 * k + 4 := by omega
  rw [val_snoc, hl, hv, e, vf_split D (dig X) (4 * k) 4, h, W_D, Int.mul_comm]
/-- As many digits of 64 bits as those of 16 bits need. -/
theorem to_end {N : Int} {L : List Int} {k : Nat} (hN : 0 ≤ N) (hl : L.length = k) (hd : Dig W L) (hv : val W L = N) (h : 0 < k → 4 * (k - 1) < dr N) : dg W N = L := by
  have e := strip_ex W_two hd
  rw [hv] at e
  have hk : k ≤ (dg W N).length := by
    rcases Nat.eq_zero_or_pos k with g | g
    · omega
    · have h1 := h g
      rcases Nat.lt_or_ge (dg W N).length k with q | q
      · exfalso
        have a := dg_lt_pow W_two hN (show (dg W N).length ≤ k - 1 by omega)
        rw [W_D] at a
        have b := dg_len_le D_two hN a
        have : (dg D N).length = dr N := rfl
        omega
      · exact q
  rw [e, List.take_of_length_le (by omega)]
def AnsL (N : Int) (w : World) (e : Ending) (w' : World) : Prop := ∃ B m cap, e = .returned (.slice B m cap) ∧ Rd .u64 w' B m (dg W N) ∧ Below w.heap.size w w'
/-- A number in new memory that the call owns. -/
def AnsO (N : Int) (w : World) (e : Ending) (w' : World) : Prop := ∃ v n, e = .returned v ∧ w'.ownsRow w.heap.size 54 1 v n ((dg W N).map (Value.int .u64)) ∧ Below w.heap.size w w'
def AnsL2 (N : Int) (w : World) (e : Ending) (w' : World) : Prop := ∃ B m cap, e = .returned (.slice B m cap) ∧ Rd .u64 w' B m (dg W N) ∧ m ≤ cap ∧ Below w.heap.size w w'
end Go.Proofs.Ytkecfdeepmhggaa
/-
  Calls of the document's own numbers, in the form of the laws' walks: Of; two lists that are the same.
-/
namespace Go.Proofs.Ytkecfdeepmhggaa
open Go.RowKit
set_option linter.unusedVariables false
theorem same_rd {B B' : Option Addr} {m m' cap cap' : Nat} {N : Int} {w : World} (h : Rd .u64 w B m (dg W N)) (h' : Rd .u64 w B' m' (dg W N)) (hm : m ≤ 17592186044416) :
    Calls Try.prog 16 #[.slice B m cap, .slice B' m' cap'] w (AnsV (.bool true) w) := by
  obtain rfl : m = m' := by rw [← h.len, ← h'.len]
  exact (same_yes h h' hm).mono fun e w' ⟨he, q, hq⟩ => ⟨he, hq ▸ below_drewN (Below.refl _ _) q⟩
theorem dr_le {N : Int} (h0 : 0 ≤ N) {k : Nat} (h : dl N ≤ k) : dr N ≤ 4 * k := by
  refine dg_len_le D_two h0 ?_
  rw [← W_D]
  exact lt_dl h0 h
end Go.Proofs.Ytkecfdeepmhggaa
/-
  The document's own sums and differences: what treenailref01.Add and Sub answer.
-/
namespace Go.Proofs.Ytkecfdeepmhggaa
open Go.RowKit
set_option linter.unusedVariables false
theorem val_dr {N : Int} (h0 : 0 ≤ N) {m : Nat} (h : dr N ≤ m) : vf D (dig (dg D N)) m = N := by
  rw [← val_vf D (dg D N) h, val_dg D_two h0]
theorem dig_D {xs : List Int} (h : Dig D xs) (i : Nat) : 0 ≤ dig xs i ∧ dig xs i < 65536 := dig_bd (by decide) h i
def RaR (X Y : List Int) (mx : Nat) (w : World) (o c i : Value) (wr : World) : Prop :=
  ∃ (k : Nat) (cr : Int) (L : List Int), k ≤ mx + 1 ∧ i = .int .i64 k ∧ c = .int .i64 cr ∧ 0 ≤ cr ∧ cr ≤ 1 ∧ (mx < k → cr = 0) ∧ wr.ownsRow w.heap.size 3 1 o k (L.map (Value.int .i64)) ∧ Dig D L ∧ val D L + cr * D ^ k = vf D (dig X) k + vf D (dig Y) k ∧ Below w.heap.size w wr
theorem ra_step {X Y L : List Int} {k : Nat} {cr d c' : Int} (hl : L.length = k) (e : d + c' * 65536 = dig X k + dig Y k + cr) (h : val D L + cr * D ^ k = vf D (dig X) k + vf D (dig Y) k) : val D (L ++ [d]) + c' * D ^ (k + 1) = vf D (dig X) (k + 1) + vf D (dig Y) (k + 1) := by
  rw [val_snoc, hl]
  simp only [vf]
  have e2 : D ^ (k + 1) = D ^ k * 65536 := Int.pow_succ _ _
  rw [e2]
  generalize D ^ k = p at *
  generalize val D L = a at *
  generalize vf D (dig X) k = x at *
  generalize vf D (dig Y) k = y at *
  grind
/-! ### Sub -/
end Go.Proofs.Ytkecfdeepmhggaa
/-
  What the document's Sub answers.
-/
namespace Go.Proofs.Ytkecfdeepmhggaa
open Go.RowKit
set_option linter.unusedVariables false
def RsR (X Y : List Int) (n : Nat) (w : World) (o c i : Value) (wr : World) : Prop :=
  ∃ (k : Nat) (cr : Int) (L : List Int), k ≤ n ∧ i = .int .i64 k ∧ c = .int .i64 cr ∧ 0 ≤ cr ∧ cr ≤ 1 ∧ wr.ownsRow w.heap.size 3 1 o k (L.map (Value.int .i64)) ∧ Dig D L ∧ val D L - cr * D ^ k = vf D (dig X) k - vf D (dig Y) k ∧ Below w.heap.size w wr
theorem rs_step {X Y L : List Int} {k : Nat} {cr d c' : Int} (hl : L.length = k) (e : d - c' * 65536 = dig X k - dig Y k - cr) (h : val D L - cr * D ^ k = vf D (dig X) k - vf D (dig Y) k) : val D (L ++ [d]) - c' * D ^ (k + 1) = vf D (dig X) (k + 1) - vf D (dig Y) (k + 1) := by
  rw [val_snoc, hl]
  simp only [vf]
  have e2 : D ^ (k + 1) = D ^ k * 65536 := Int.pow_succ _ _
  rw [e2]
  generalize D ^ k = p at *
  generalize val D L = a at *
  generalize vf D (dig X) k = x at *
  generalize vf D (dig Y) k = y at *
  grind
theorem rs_end {N M cr : Int} {L : List Int} {n : Nat} (h0 : 0 ≤ M) (hNM : M ≤ N) (hl : L.length = n) (hn : n = dr N) (hd : Dig D L) (c0 : 0 ≤ cr) (h : val D L - cr * D ^ n = vf D (dig (dg D N)) n - vf D (dig (dg D M)) n) : val D L = N - M := by
  have hM : dr M ≤ n := by rw [hn]; exact dg_len_mono D_two h0 hNM
  rw [val_dr (by omega) (by omega), val_dr h0 hM] at h
  have hb := val_lt (b := D) (by decide) hd
  rw [hl] at hb
  have hp := pow_pos' D_two n
  rcases Int.lt_or_le 0 cr with g | g
  · have := Int.mul_le_mul_of_nonneg_right (show (1 : Int) ≤ cr by omega) (show 0 ≤ D ^ n by omega)
    omega
  · have : cr = 0 := by omega
    subst this; simpa using h
end Go.Proofs.Ytkecfdeepmhggaa
/-
  The document's own order and bits: what treenailref01.Cmp, Bits and Bit answer.
-/
namespace Go.Proofs.Ytkecfdeepmhggaa
open Go.RowKit
set_option linter.unusedVariables false
theorem rcmp_at {N M : Int} (hN : 0 ≤ N) (hM : 0 ≤ M) {k m : Nat} (h1 : dr N = m) (h2 : dr M = m) (hm : k < m) (h : ∀ j, k < j → dig (dg D N) j = dig (dg D M) j) : cmpI N M = cmpI (dig (dg D N) k) (dig (dg D M) k) ∨ dig (dg D N) k = dig (dg D M) k := by
  have a1 := val_dr hN (m := m) (by omega)
  have a2 := val_dr hM (m := m) (by omega)
  have b1 := fun j => dig_bd (b := D) (by decide) (dig_dg D_two hN) j
  have b2 := fun j => dig_bd (b := D) (by decide) (dig_dg D_two hM) j
  rcases Int.lt_trichotomy (dig (dg D N) k) (dig (dg D M) k) with g | g | g
  · left
    have := vf_less (b := D) (by decide) b1 b2 hm h g
    rw [cmpI_lt g, cmpI_lt (by omega)]
  · exact .inr g
  · left
    have := vf_less (b := D) (by decide) b2 b1 hm (fun j hj => (h j hj).symm) g
    rw [cmpI_gt g, cmpI_gt (by omega)]
theorem rcmp_all {N M : Int} (hN : 0 ≤ N) (hM : 0 ≤ M) (h : ∀ j, dig (dg D N) j = dig (dg D M) j) : cmpI N M = 0 := by
  have a1 := val_dr hN (m := max (dr N) (dr M)) (by omega)
  have a2 := val_dr hM (m := max (dr N) (dr M)) (by omega)
  rw [vf_congr D (g := dig (dg D M)) (fun j _ => h j), a2] at a1
  subst a1
  exact cmpI_eq _
theorem rcmp_len {N M : Int} (hN : 0 ≤ N) (hM : 0 ≤ M) (h : dr N < dr M) : N < M := by
  rcases Int.lt_or_le N M with k | k
  · exact k
  · have := dg_len_mono D_two hM k
    have e1 : (dg D N).length = dr N := rfl
    have e2 : (dg D M).length = dr M := rfl
    omega
theorem rdig_past {N : Int} {j : Nat} (h : dr N ≤ j) : dig (dg D N) j = 0 := dig_ge h
def RCmpR (N M : Int) (n : Nat) (w : World) (i : Value) (wr : World) : Prop :=
  ∃ v : Int, i = .int .i64 v ∧ -1 ≤ v ∧ v < n ∧ (∀ j : Nat, v < j → dig (dg D N) j = dig (dg D M) j) ∧ ∃ q, wr = w.drewN q
/-! ### Bits -/
theorem D_pow (n : Nat) : D ^ n = 2 ^ (16 * n) := by
  have : D = 2 ^ 16 := by decide
  rw [this, ← Int.pow_mul]
theorem rnb_top {N t : Int} {m r : Nat} (hN : 0 < N) (hm : dr N = m + 1) (ht : dig (dg D N) m = t) (h0 : t < 2 ^ r) (h1 : 0 < r → 2 ^ (r - 1) ≤ t) (h2 : 0 < t) : nb N = 16 * m + r := by
  have hv := val_dr (show 0 ≤ N by omega) (Nat.le_of_eq hm)
  have hlow := vf_bd (b := D) (by decide) (fun j => dig_bd (b := D) (by decide) (dig_dg D_two (show 0 ≤ N by omega)) j) m
  have hv' : vf D (dig (dg D N)) m + dig (dg D N) m * D ^ m = N := hv
  rw [ht] at hv'
  have hp := pow_pos' D_two m
  have hr : 0 < r := by
    rcases Nat.eq_zero_or_pos r with g | g
    · subst g; simp at h0; omega
    · exact g
  refine dg_len_eq (by decide) ?_ ?_ (by omega)
  · have e1 : 16 * m + r - 1 = (r - 1) + 16 * m := by omega
    rw [e1, Int.pow_add, ← D_pow]
    have := Int.mul_le_mul_of_nonneg_right (h1 hr) (show 0 ≤ D ^ m by omega)
    omega
  · have e1 : 16 * m + r = r + 16 * m := by omega
    rw [e1, Int.pow_add, ← D_pow]
    have := Int.mul_le_mul_of_nonneg_right (show t + 1 ≤ 2 ^ r by omega) (show 0 ≤ D ^ m by omega)
    rw [Int.add_mul] at this
    omega
def RbR (m : Nat) (t : Int) (c x : Value) : Prop := ∃ (r : Nat) (y : Int), c = .int .i64 (16 * (m : Int) + r) ∧ x = .int .i64 y ∧ y = t / 2 ^ r ∧ (0 < r → 2 ^ (r - 1) ≤ t) ∧ r ≤ 16
theorem half_half {t : Int} {r : Nat} : t / 2 ^ r / 2 = t / 2 ^ (r + 1) := by
  have e : (2 : Int) ^ (r + 1) = 2 ^ r * 2 := Int.pow_succ _ _
  rw [e, ← Int.ediv_ediv_of_nonneg (Int.le_of_lt (Int.pow_pos (by decide)))]
theorem le_of_half {t : Int} {r : Nat} (h : 0 < t / 2 ^ r) (h0 : 0 ≤ t) : 2 ^ r ≤ t := by
  have hp : (0 : Int) < 2 ^ r := Int.pow_pos (by decide)
  rcases Int.lt_or_le t (2 ^ r) with g | g
  · rw [Int.ediv_eq_zero_of_lt h0 g] at h; omega
  · exact g
/-! ### Bit -/
theorem rsplit {xs : List Int} {m r : Nat} (hd : Dig D xs) (hr : r < 16) : val D xs / 2 ^ (16 * m + r) % 2 = dig xs m / 2 ^ r % 2 := by
  have h := val_vf D xs (m := m + 1 + xs.length) (by omega)
  rw [vf_split D (dig xs) (m + 1) xs.length] at h
  have hlow := vf_bd (b := D) (by decide) (fun j => dig_bd (b := D) (by decide) hd j) m
  generalize vf D (fun j => dig xs (m + 1 + j)) xs.length = hi at h
  simp only [vf] at h
  rw [h]
  have e1 : (2 : Int) ^ (16 * m + r) = D ^ m * 2 ^ r := by rw [Int.pow_add, D_pow]
  have e2 : D ^ (m + 1) = D ^ m * D := Int.pow_succ _ _
  have e3 : D = 2 ^ r * 2 ^ (15 - r) * 2 := by
    rw [← Int.pow_add, show r + (15 - r) = 15 by omega]; decide
  have hp := pow_pos' D_two m
  have hp2 : (0 : Int) < 2 ^ r := Int.pow_pos (by decide)
  have e4 : vf D (dig xs) m + dig xs m * D ^ m + D ^ (m + 1) * hi = vf D (dig xs) m + D ^ m * (dig xs m + D * hi) := by rw [e2]; grind
  rw [e4, e1, ← Int.ediv_ediv_of_nonneg (Int.le_of_lt hp), Int.add_mul_ediv_left _ _ (Int.ne_of_gt hp), Int.ediv_eq_zero_of_lt hlow.1 hlow.2, Int.zero_add]
  have e5 : dig xs m + D * hi = dig xs m + 2 ^ r * (2 * (2 ^ (15 - r) * hi)) := by
    have : D * hi = 2 ^ r * (2 * (2 ^ (15 - r) * hi)) := by
      conv => lhs; rw [e3]
      generalize (2 : Int) ^ r = p
      generalize (2 : Int) ^ (15 - r) = q
      grind
    rw [this]
  rw [e5, Int.add_mul_ediv_left _ _ (Int.ne_of_gt hp2), Int.add_mul_emod_self_left]
def RtR (t : Int) (r : Nat) (x k : Value) : Prop := ∃ (j : Nat) (y : Int), j ≤ r ∧ k = .int .i64 j ∧ x = .int .i64 y ∧ y = t / 2 ^ j ∧ 0 ≤ y ∧ y ≤ 65535
end Go.Proofs.Ytkecfdeepmhggaa
/-
  What the document's Cmp answers, in the form of the laws' walks.
-/
namespace Go.Proofs.Ytkecfdeepmhggaa
open Go.RowKit
set_option linter.unusedVariables false
end Go.Proofs.Ytkecfdeepmhggaa
/-
  The document's own quotient and rest: what treenailref01.double and Div answer.
-/
namespace Go.Proofs.Ytkecfdeepmhggaa
open Go.RowKit
set_option linter.unusedVariables false
theorem Rn.nil (w : World) : Rn w none 0 0 0 := ⟨by rw [dg_zero]; exact Rd.nil _ _ _, Nat.le_refl _, by omega, Int.le_refl _⟩
theorem dgD_one {x : Int} (h0 : 1 ≤ x) (h1 : x < D) : dg D x = [x] := by
  rw [dg_pos D_two (by omega), Int.emod_eq_of_lt (by omega) h1, Int.ediv_eq_zero_of_lt (by omega) h1, dg_zero]
theorem rlit (w : World) {x : Int} (h0 : 1 ≤ x) (h1 : x < D) : Rn (w.alloc (.cells #[.int .i64 x] 3)) (some ⟨w.heap.size, 0, none⟩) 1 1 x := by
  have hr : Row (w.alloc (.cells #[.int .i64 x] 3)) w.heap.size 3 .i64 [x] := Row.new w 3 .i64 [x]
  exact ⟨by rw [dgD_one h0 h1]; exact hr.rd rfl (fun j y hy => by rwa [Nat.zero_add]), Nat.le_refl _, by omega, by omega⟩
/-- Twice, and one more. -/
def dbl (N : Int) (b : Bool) : Int := 2 * N + if b then 1 else 0
theorem dr_mono {N M : Int} (h0 : 0 ≤ N) (h : N ≤ M) : dr N ≤ dr M := dg_len_mono D_two h0 h
def RdR (N M : Int) (w : World) (q r i : Value) (wr : World) : Prop :=
  ∃ (k : Nat) (v Q R : Int) (B : Option Addr) (m cap : Nat) (B' : Option Addr) (m' cap' : Nat), i = .int .i64 v ∧ v = (k : Int) - 1 ∧ k ≤ nb N ∧ q = .slice B m cap ∧ r = .slice B' m' cap' ∧ Rn wr B m cap Q ∧ Rn wr B' m' cap' R ∧ R < M ∧ Q * M + R = N / 2 ^ k ∧ Below w.heap.size w wr
def QRN (Q R : Int) (w : World) (e : Ending) (w' : World) : Prop :=
  ∃ B m cap B' m' cap', e = .returned (.tuple #[.slice B m cap, .slice B' m' cap']) ∧ Rn w' B m cap Q ∧ Rn w' B' m' cap' R ∧ Below w.heap.size w w'
theorem rdiv_fin {N M Q R : Int} (h : Q * M + R = N) (r0 : 0 ≤ R) (r1 : R < M) : Q = N / M ∧ R = N % M := by
  have e : N = R + M * Q := by rw [Int.mul_comm]; omega
  rw [e]
  refine ⟨?_, ?_⟩
  · rw [Int.add_mul_ediv_left _ _ (by omega), Int.ediv_eq_zero_of_lt r0 r1]; simp
  · rw [Int.add_mul_emod_self_left, Int.emod_eq_of_lt r0 r1]
end Go.Proofs.Ytkecfdeepmhggaa
/-
  The document's own rest; a number of theirs as digits of 64 bits; digits of 64 bits as a number of theirs.
-/
namespace Go.Proofs.Ytkecfdeepmhggaa
open Go.RowKit
set_option linter.unusedVariables false
def AnsCn (N : Int) (w : World) (e : Ending) (w' : World) : Prop := ∃ B m cap, e = .returned (.slice B m cap) ∧ Cn w' B m cap N ∧ Below w.heap.size w w'
theorem dl_dr {N : Int} (h : 0 ≤ N) : dl N ≤ dr N := by
  refine dl_le h ?_
  have h1 := dg_lt_pow D_two h (Nat.le_refl (dr N))
  rw [W_D]
  exact Int.lt_of_lt_of_le h1 (pow_mono (by decide) (by omega))
theorem below_one_ (w : World) (o : Obj) : Below w.heap.size w (w.alloc o) := (Below.refl _ _).alloc (Nat.le_refl _) _
theorem dr_rest {N M : Int} (hM : 0 < M) : dr (N % M) ≤ dr M := dr_mono (Int.emod_nonneg _ (by omega)) (Int.le_of_lt (Int.emod_lt_of_pos _ hM))
end Go.Proofs.Ytkecfdeepmhggaa
/-
  The document's own products and quotients: what treenailref01.Mul, double and Div answer.
-/
namespace Go.Proofs.Ytkecfdeepmhggaa
open Go.RowKit
set_option linter.unusedVariables false
/-- The number that n digits of 16 bits from off on are. -/
def wd (zs : List Int) (off n : Nat) : Int := vf D (fun j => dig zs (off + j)) n
theorem wd_set {zs : List Int} {off k : Nat} (hk : off + k < zs.length) (v : Int) : wd (zs.set (off + k) v) off (k + 1) = wd zs off k + v * D ^ k := by
  unfold wd
  simp only [vf]
  rw [dig_set_same hk, vf_congr D (g := fun j => dig zs (off + j)) (fun j hj => dig_set_ne (by omega))]
theorem vf_windowD {rs ys : List Int} {j n t : Nat} (hr : ∀ i, i < j ∨ j + n ≤ i → dig ys i = dig rs i) (ht : j + n ≤ t) : vf D (dig ys) t - vf D (dig rs) t = D ^ j * (wd ys j n - wd rs j n) := by
  have a := vf_split D (dig ys) j n
  have b := vf_split D (dig rs) j n
  have c := vf_same D (f := dig ys) (g := dig rs) (k := j + n) ht (fun i hi => hr i (.inr hi))
  have d := vf_congr D (f := dig ys) (g := dig rs) (k := j) (fun i hi => hr i (.inl hi))
  have ea : vf D (fun i => dig ys (j + i)) n = wd ys j n := rfl
  have eb : vf D (fun i => dig rs (j + i)) n = wd rs j n := rfl
  rw [ea] at a
  rw [eb] at b
  rw [Int.mul_sub]
  omega
theorem rm_step {zs ys Y : List Int} {i k : Nat} {x c d c' : Int} (hk : i + k < ys.length) (hr : dig ys (i + k) = dig zs (i + k)) (e : d + c' * 65536 = dig ys (i + k) + x * dig Y k + c)
    (h : wd ys i k + c * D ^ k = wd zs i k + x * vf D (dig Y) k) : wd (ys.set (i + k) d) i (k + 1) + c' * D ^ (k + 1) = wd zs i (k + 1) + x * vf D (dig Y) (k + 1) := by
  rw [wd_set hk]
  have e2 : D ^ (k + 1) = D ^ k * 65536 := Int.pow_succ _ _
  have e3 : wd zs i (k + 1) = wd zs i k + dig zs (i + k) * D ^ k := rfl
  rw [e2, e3, ← hr]
  simp only [vf]
  generalize wd ys i k = a at *
  generalize wd zs i k = b at *
  generalize vf D (dig Y) k = y at *
  generalize D ^ k = p at *
  generalize dig ys (i + k) = z at *
  generalize dig Y k = q at *
  grind
def RmI (zs Y : List Int) (x : Int) (i n' T : Nat) (w : World) (c k : Value) (wr : World) : Prop :=
  ∃ (j : Nat) (cr : Int) (ys : List Int), j ≤ n' + 1 ∧ k = .int .i64 j ∧ c = .int .i64 cr ∧ 0 ≤ cr ∧ cr ≤ 65535 ∧ (n' < j → cr = 0) ∧ Row wr w.heap.size 3 .i64 ys ∧ ys.length = T ∧ Dig D ys ∧ (∀ q, q < i ∨ i + j ≤ q → dig ys q = dig zs q) ∧
    wd ys i j + cr * D ^ j = wd zs i j + x * vf D (dig Y) j ∧ Below w.heap.size w wr
def RmO (X : List Int) (M : Int) (n n' T : Nat) (w : World) (k : Value) (wr : World) : Prop :=
  ∃ (i : Nat) (zs : List Int), i ≤ n ∧ k = .int .i64 i ∧ Row wr w.heap.size 3 .i64 zs ∧ zs.length = T ∧ Dig D zs ∧ (∀ q, i + n' ≤ q → dig zs q = 0) ∧ vf D (dig zs) T = vf D (dig X) i * M ∧ Below w.heap.size w wr
theorem made3 (n : Nat) : madeCells (Value.cells (.int .i64 0)) (n * 1) = ((List.replicate n 0).map (Value.int .i64)).toArray := by
  apply Array.ext'
  rw [Nat.mul_one]
  show (madeCells #[Value.int .i64 0] n).toList = _
  rw [toList_madeCells_one]; simp
end Go.Proofs.Ytkecfdeepmhggaa
/-
  The document's own rest, power and greatest common divisor; a number of theirs as digits of 64 bits.
-/
namespace Go.Proofs.Ytkecfdeepmhggaa
open Go.RowKit
set_option linter.unusedVariables false
theorem dr_mul {N M : Int} (h0 : 0 ≤ N) (h1 : 0 ≤ M) : dr (N * M) ≤ dr N + dr M := by
  refine dg_len_le D_two (Int.mul_nonneg h0 h1) ?_
  have a := dg_lt_pow D_two h0 (Nat.le_refl (dr N))
  have b := dg_lt_pow D_two h1 (Nat.le_refl (dr M))
  rw [Int.pow_add]
  have hp := pow_pos' D_two (dr N)
  have hq := pow_pos' D_two (dr M)
  have c1 := Int.mul_le_mul_of_nonneg_left (show M ≤ D ^ dr M by omega) h0
  have c2 := Int.mul_lt_mul_of_pos_right a hq
  omega
/-! ### Gcd -/
def GcR (g : Int) (lim : Nat) (w : World) (a b : Value) (wr : World) : Prop :=
  ∃ N M A n c A' n' c', a = .slice A n c ∧ b = .slice A' n' c' ∧ Rn wr A n c N ∧ Rn wr A' n' c' M ∧ n ≤ lim ∧ n' ≤ lim ∧ (Int.gcd N M : Int) = g ∧ Below w.heap.size w wr
theorem readN_rn {w : World} {A : Option Addr} {n c : Nat} {N : Int} (h : Rn w A n c N) : readN D w (.slice A n c) = N := by
  rw [readN_rd h.rd, val_dg D_two h.pos]
/-! ### Exp -/
def RxR (A E M : Int) (w : World) (o i : Value) (wr : World) : Prop :=
  ∃ (k : Nat) (v : Int) (B : Option Addr) (n c : Nat), i = .int .i64 v ∧ v = (k : Int) - 1 ∧ k ≤ nb E ∧ o = .slice B n c ∧ Rn wr B n c (A ^ (E / 2 ^ k).toNat % M) ∧ Below w.heap.size w wr
theorem rx_next {A E M : Int} {j : Nat} (h : 0 ≤ E) : A ^ (E / 2 ^ j).toNat % M = (if bt E j = true then (A ^ (E / 2 ^ (j + 1)).toNat % M * (A ^ (E / 2 ^ (j + 1)).toNat % M) % M * (A % M)) % M else A ^ (E / 2 ^ (j + 1)).toNat % M * (A ^ (E / 2 ^ (j + 1)).toNat % M) % M) := by
  have hs := half_step (N := E) (j := j)
  have hv := bt_val (N := E) (j := j)
  have q0 : 0 ≤ E / 2 ^ (j + 1) := Int.ediv_nonneg h (Int.le_of_lt (Int.pow_pos (by decide)))
  generalize E / 2 ^ j = q at *
  generalize E / 2 ^ (j + 1) = t at *
  by_cases g : bt E j = true
  · rw [if_pos g] at hv ⊢
    have e : q.toNat = t.toNat + t.toNat + 1 := by omega
    rw [e, Int.pow_succ, Int.pow_add]
    rw [← Eqm.iff]
    refine Eqm.trans ?_ ((((Eqm.mod M _).symm.mul (Eqm.mod M _).symm).trans (Eqm.mod M _).symm).mul (Eqm.mod M A).symm)
    exact Eqm.refl _ _
  · rw [if_neg g] at hv ⊢
    have e : q.toNat = t.toNat + t.toNat := by omega
    rw [e, Int.pow_add]
    exact Int.mul_emod _ _ _
theorem nb_dr {E : Int} (h : 0 ≤ E) {k : Nat} (hk : dr E ≤ k) : nb E ≤ 16 * k := by
  refine dg_len_le (by decide) h ?_
  have := dg_lt_pow D_two h hk
  rw [D_pow] at this
  exact this
end Go.Proofs.Ytkecfdeepmhggaa
