/-
  Several texts in one: Bkw, P9n, P9v, P9p.
-/
import Derived.RangeFuncNested
import Derived.RangeFuncBound
import Derived.RangeFuncCalls
import Derived.RangeFuncLeaves
import Derived.Shelf.Abstract
import Derived.Shelf.RegionOpen
import Derived.WalkKit
import Derived.OwnWalkIn
import Derived.TacticsInMore
import Derived.LoopNIn
import Derived.LoopIn
import Derived.Lib.Hide
import Derived.Test.YtkecfdeepmhggaaMxx
import Derived.Test.YtkecfdeepmhggaaNin
import Derived.Test.YtkecfdeepmhggaaPna
import Derived.Test.YtkecfdeepmhggaaPkm
import Derived.Test.YtkecfdeepmhggaaGro
/-
  A list of numbers from its last one on: what slices.Backward answers, and what it gives to the body of a loop.
-/
namespace Go.Proofs.Ytkecfdeepmhggaa
open Go.RowKit Go.Shelf
set_option linter.unusedVariables false
attribute [local go_sem] Oper.semAt_some
/-- What has come when k rounds are over. -/
def upk {α : Type} (f : Nat → α) (k : Nat) : List α := (List.range k).map f
theorem upk_succ {α : Type} (f : Nat → α) (k : Nat) : upk f (k + 1) = upk f k ++ [f k] := by simp [upk, List.range_succ]
theorem upk_len {α : Type} (f : Nat → α) (k : Nat) : (upk f k).length = k := by simp [upk]
/-- From the last one on. -/
def bkf {n : Nat} (h : 0 < n) (k : Nat) : Fin n := ⟨n - 1 - k, by omega⟩
/-- A number is the same where a block that is no cells turns. -/
theorem Cn.own {X Y : World} {row : Option Nat} {A : Option Addr} {n c : Nat} {N : Int} (h : Cn X A n c N) (hg : X.grownBy Y row) (hr : ∀ r, row = some r → ∃ o : Obj, X.heap[r]? = some o ∧ o.isCells = false) : Cn Y A n c N :=
  ⟨⟨h.rd.len, fun hn => by
    obtain ⟨b, off, e, hl, hc⟩ := h.rd.cells hn
    exact ⟨b, off, e, Nat.lt_of_lt_of_le hl hg.size, fun j x hx => cell_kept (hc j x hx) hg hr⟩⟩, h.nc, h.c60, h.pos⟩
/-- Nothing that was there has turned: nor has what is no cells. -/
theorem KeepsFrom.of_below {B : Nat} {W W' : World} (h : Below W.heap.size W W') : KeepsFrom B W W' :=
  ⟨h.size, fun k o _ hk _ => (h.block k (Array.getElem?_eq_some_iff.1 hk).1).trans hk⟩
section
variable {n0 b off len cap : Nat} {S : Nat → Nsl} {W w : World}
/-- The numbers of a list, as cells, in a block that is older than n0. -/
def BkC (n0 : Nat) (W : World) (b off len : Nat) (S : Nat → Nsl) : Prop := b < n0 ∧ ∀ i, i < len → W.cell? ⟨b, off + i, none⟩ = some (.slice (S i).A (S i).n (S i).c)
theorem BkC.below {A B : World} (h : BkC n0 A b off len S) (hb : Below n0 A B) : BkC n0 B b off len S := ⟨h.1, fun i hi => (hb.cell (p := ⟨b, off + i, none⟩) h.1).trans (h.2 i hi)⟩
/-- What a round keeps: what is older than n0, and the list's box. -/
def KpB (n0 Bs : Nat) (A B : World) : Prop := Below n0 A B ∧ B.heap[Bs]? = A.heap[Bs]?
theorem KpB.refl (n0 Bs : Nat) (A : World) : KpB n0 Bs A A := ⟨Below.refl _ _, rfl⟩
theorem KpB.trans {n0 Bs : Nat} {A B C : World} (h : KpB n0 Bs A B) (k : KpB n0 Bs B C) : KpB n0 Bs A C := ⟨h.1.trans k.1, k.2.trans h.2⟩
theorem KpB.put {n0 Bs : Nat} {w : World} (hn : n0 ≤ w.heap.size) (hB : Bs < w.heap.size) (W : World) (l : Nat) (o o' : Obj) (hl : w.heap.size ≤ l) (h : W.heap[l]? = some o) (h1 : o.isCells = false) (h2 : o.isWalk = false) : KpB n0 Bs W (W.putObj l o') :=
  ⟨belowK_b hn W l o o' hl h h1 h2, World.putObj_heap_other (by omega)⟩
theorem KpB.of_below {n0 Bs : Nat} {W W' : World} (hn : n0 ≤ W.heap.size) (hB : Bs < W.heap.size) (h : Below W.heap.size W W') : KpB n0 Bs W W' := ⟨h.mono hn, h.block _ hB⟩
set_option maxRecDepth 100000 in
set_option maxHeartbeats 2000000 in
theorem bk1_in (F : Fence) (n : Nat) (hf : F.fn 84) (hro : F.round = none) (hn : 1 ≤ n) (h0 : 0 < len) (h60 : len ≤ 17592186044416) (l Bs : Nat) (J Jx : List (Fin len) → World → Prop)
    (hY : ∀ (pre : List (Fin len)) (x : Fin len) (W : World), J pre W → pre.length < len → YieldAt F (n - 1) Try.prog l #[.int .i64 (x.1 : Int), .slice (S x.1).A (S x.1).n (S x.1).c] W fun e W' =>
      (e = .returned (.bool true) ∧ J (pre ++ [x]) W' ∧ KpB n0 Bs W W') ∨ (e = .returned (.bool false) ∧ Jx (pre ++ [x]) W'))
    (W : World) (hBs : W.cell? ⟨Bs, 0, none⟩ = some (.slice (some ⟨b, off, none⟩) len cap)) (hc : BkC n0 W b off len S) (hj0 : J [] W) :
    CallsIn F n Try.prog 84 #[.func (.yield l) #[] #[], .pointer (some ⟨Bs, 0, none⟩)] W fun e W' => (∃ v, e = .returned v) ∧
      ((∃ ys, ys = upk (bkf h0) len ∧ J ys W') ∨ (∃ pre, (∃ k, k ≤ len ∧ pre = upk (bkf h0) k) ∧ Jx pre W')) := by
  refine callsIn_of_wp Try.func84 rfl hf ?_ hro
  simp only [Try.ntmps84, List.size_toArray, List.length_cons, List.length_nil, Nat.reduceAdd, Nat.reduceSub, Array.replicate_succ, Array.replicate_zero, List.push_toArray, List.append_toArray, List.nil_append, List.cons_append]
  have e1 : IntKind.i64.wrap ((len : Int) - 1) = (len : Int) - 1 := IntWalk.i64_in _ (by omega)
  gi_wp2
  gi_loopw [3] (fun i wr => ∃ k : Nat, k ≤ len ∧ i = .int .i64 ((len : Int) - 1 - k) ∧ J (upk (bkf h0) k) wr ∧ KpB n0 Bs W wr)
    (fun i _ => (intOf i + 1).toNat)
  case atStart => exact ⟨0, Nat.zero_le _, by simp, hj0, KpB.refl _ _ _⟩
  case round =>
    obtain ⟨k, hk, rfl, hJs, hnx⟩ := hrel
    have hbs := (World.cell?_of_block (a := ⟨Bs, 0, none⟩) hnx.2).trans hBs
    by_cases hlt : k < len
    · obtain ⟨fn, tmps, assign, body, hy, hR⟩ := hY _ (bkf h0 k) wr hJs (by rw [upk_len]; exact hlt)
      have ek : ((bkf h0 k).1 : Int) = (len : Int) - 1 - k := by show ((len - 1 - k : Nat) : Int) = _; omega
      have hcx := (hc.below hnx.1).2 (bkf h0 k).1 (bkf h0 k).2
      obtain ⟨q, hq⟩ : ∃ q : Nat, (bkf h0 k).1 = q := ⟨_, rfl⟩
      rw [hq] at ek hcx hy
      rw [← ek]
      have EK := Lib.hid ek
      clear ek hq
      have g1 : (0 : Int) ≤ (q : Int) := by omega
      have g2 : (q : Int) < (len : Int) := by have := EK.out; omega
      have e2 : IntKind.i64.wrap ((q : Int) - 1) = (q : Int) - 1 := IntWalk.i64_in _ (by omega)
      gi_wp2
      refine hR.mono ?_
      rintro e W3 (⟨rfl, hJ3, hk3⟩ | ⟨rfl, hJx3⟩)
      · gi_wp2
        go_roundw
        case rel => exact ⟨k + 1, by omega, by rw [EK.out]; congr 1; omega, by rw [upk_succ]; exact hJ3, hnx.trans hk3⟩
        case measure => first | (simp [intOf]; done) | (simp [intOf]; have := EK.out; omega)
      · gi_wp2
        refine bodyPost_ret (results_none rfl _ _ _) rfl ?_
        exact ⟨⟨_, rfl⟩, .inr ⟨_, ⟨k + 1, by omega, (upk_succ _ _).symm⟩, hJx3⟩⟩
    · obtain rfl : k = len := by omega
      have g1 : decide ((0 : Int) ≤ (k : Int) - 1 - (k : Int)) = false := by simp; omega
      gi_wp2
      go_end0
      exact ⟨⟨_, rfl⟩, .inl ⟨_, rfl, hJs⟩⟩
set_option maxHeartbeats 1000000 in
/-- slices.Backward: the slice is boxed, the function takes the box with it. -/
theorem bk_in (F : Fence) (n : Nat) (hf : F.fn 58) (hro : F.round = none) (a : Option Addr) (len cap : Nat) (w : World) :
    CallsIn F n Try.prog 58 #[.slice a len cap] w fun e w' => e = .returned (.func (.func 84) #[] #[.pointer (some ⟨w.heap.size, 0, none⟩)]) ∧ w' = w.alloc (.cells #[.slice a len cap] 22) := by
  refine callsIn_of_wp Try.func58 rfl hf ?_ hro
  simp only [Try.ntmps58, List.size_toArray, List.length_cons, List.length_nil, Nat.reduceAdd, Nat.reduceSub, Array.replicate_succ, Array.replicate_zero, List.push_toArray, List.append_toArray, List.nil_append, List.cons_append]
  gi_wp2
  go_ret
  exact ⟨rfl, rfl⟩
/-- It gives each number with its place, the last one first. -/
theorem bk_stops (F : Fence) (n : Nat) (hf : F.fn 84) (hro : F.round = none) (hn : 1 ≤ n) (h0 : 0 < len) (h60 : len ≤ 17592186044416) (Bs : Nat) (w : World) (hBs : Bs < w.heap.size) (hn0 : n0 ≤ w.heap.size)
    (hc : w.cell? ⟨Bs, 0, none⟩ = some (.slice (some ⟨b, off, none⟩) len cap)) (hI : BkC n0 w b off len S) :
    SeqStopsK F n Try.prog 84 #[.pointer (some ⟨Bs, 0, none⟩)] (fun x : Fin len => #[Value.int .i64 (x.1 : Int), Value.slice (S x.1).A (S x.1).n (S x.1).c]) (KpB n0 Bs) (fun ys => ys = upk (bkf h0) len)
      (fun pre => ∃ k, k ≤ len ∧ pre = upk (bkf h0) k) len w := fun l J Jx W hW _ _ hY hj0 => by
  have hW0 : Below n0 w W := hW.mono hn0
  exact bk1_in F n hf hro hn h0 h60 l Bs J Jx hY W ((hW.cell (p := ⟨Bs, 0, none⟩) hBs).trans hc) (hI.below hW0) hj0
end
end Go.Proofs.Ytkecfdeepmhggaa
/-
  Public elements by Horner's rule, with powers for products and products for sums: they are the document's.
-/
namespace Go.Proofs.Ytkecfdeepmhggaa
set_option linter.unusedVariables false
/-- The product of c's powers, not reduced. -/
def puX (c : Nat → Int) (Y : Nat) : Nat → Int
  | 0 => 1
  | n + 1 => puX c Y n * c n ^ (Y ^ n)
theorem puX_head {c : Nat → Int} {Y : Nat} : ∀ k, puX c Y (k + 1) = puX (fun t => c (t + 1)) Y k ^ Y * c 0
  | 0 => by
    show (1 : Int) * c 0 ^ 1 = 1 ^ Y * c 0
    rw [Int.one_pow, Int.pow_succ, Int.pow_zero, Int.one_mul]
  | k + 1 => by
    rw [puX, puX_head k, puX, Int.mul_pow, Nat.pow_succ, Int.pow_mul]
    grind
/-- From the last one on. -/
def huN (P : Int) (a : Nat → Int) (Y n : Nat) : Nat → Int
  | 0 => 1
  | j + 1 => (huN P a Y n j ^ Y % P) * a (n - 1 - j) % P
theorem huN_eqm {P : Int} {a : Nat → Int} {Y n : Nat} : ∀ j, j ≤ n → Eqm P (huN P a Y n j) (puX (fun t => a (n - j + t)) Y j)
  | 0, _ => Eqm.refl _ _
  | j + 1, h => by
    rw [huN, puX_head]
    have e1 : (fun t => a (n - (j + 1) + (t + 1))) = fun t => a (n - j + t) := by funext t; congr 1; omega
    rw [e1]
    refine (Eqm.mod _ _).trans (((Eqm.mod _ _).trans ((huN_eqm j (by omega)).pow Y)).mul (Eqm.of_eq ?_))
    congr 1
    omega
theorem toNat_pow {y : Int} (h : 0 ≤ y) : ∀ n : Nat, (y ^ n).toNat = y.toNat ^ n
  | 0 => by simp
  | n + 1 => by
    obtain ⟨m, rfl⟩ : ∃ m : Nat, y = m := ⟨y.toNat, by omega⟩
    rw [Int.toNat_natCast, ← Int.natCast_pow, Int.toNat_natCast]
theorem pubI_eqm {P Q y : Int} (hP : 2 ≤ P) (hQ : 1 ≤ Q) (hy : 0 ≤ y) {c : Nat → Int} : ∀ n, (∀ t, t < n → El P Q (c t)) → Eqm P (pubI P Q c y n) (puX c y.toNat n)
  | 0, _ => Eqm.refl _ _
  | n + 1, h => by
    rw [pubI, puX]
    refine (Eqm.mod _ _).trans ((pubI_eqm hP hQ hy n fun t ht => h t (by omega)).mul ?_)
    have h1 := gx_eqm hP hQ (h n (by omega)) (pow_nn hy n)
    rwa [toNat_pow hy] at h1
theorem hu_pub {P Q y : Int} (hP : 2 ≤ P) (hQ : 1 ≤ Q) (hy : 0 ≤ y) {c : Nat → Int} {n : Nat} (hn : 0 < n) (h : ∀ t, t < n → El P Q (c t)) : huN P c y.toNat n n = pubI P Q c y n := by
  have h1 := huN_eqm (P := P) (a := c) (Y := y.toNat) (n := n) n (Nat.le_refl _)
  have e : (fun t => c (n - n + t)) = c := by funext t; congr 1; omega
  rw [e] at h1
  have h2 := h1.trans (pubI_eqm hP hQ hy n h).symm
  obtain ⟨m, rfl⟩ : ∃ m, n = m + 1 := ⟨n - 1, by omega⟩
  have h3 := h2.emod
  rw [huN, pubI, Int.emod_emod_of_dvd _ (Int.dvd_refl P), Int.emod_emod_of_dvd _ (Int.dvd_refl P)] at h3
  exact h3
/-- What has come, from the last one on. -/
def huL {n : Nat} (P : Int) (a : Nat → Int) (Y : Nat) (pre : List (Fin n)) : Int := pre.foldl (fun v x => (v ^ Y % P) * a x.1 % P) 1
theorem huL_snoc {n : Nat} (P : Int) (a : Nat → Int) (Y : Nat) (pre : List (Fin n)) (x : Fin n) : huL P a Y (pre ++ [x]) = (huL P a Y pre ^ Y % P) * a x.1 % P := by simp [huL]
theorem huL_all {n : Nat} (h : 0 < n) (P : Int) (a : Nat → Int) (Y : Nat) : ∀ k, huL P a Y (upk (bkf h) k) = huN P a Y n k
  | 0 => rfl
  | k + 1 => by rw [upk_succ, huL_snoc, huL_all h P a Y k, huN]; rfl
theorem huL_el {n : Nat} {P Q : Int} {a : Nat → Int} {Y : Nat} (hP : 2 ≤ P) (hQ : 1 ≤ Q) (pre : List (Fin n)) (h : ∀ x ∈ pre, El P Q (a x.1)) : El P Q (huL P a Y pre) := by
  rcases List.eq_nil_or_concat pre with rfl | ⟨l, x, rfl⟩
  · exact el_one hP
  · rw [List.concat_eq_append] at h ⊢
    rw [huL_snoc]
    exact ((huL_el hP hQ l fun z hz => h z (List.mem_append_left _ hz)).pow hP hQ _).mul hP hQ (h x (by simp))
termination_by pre.length
decreasing_by simp_all
theorem upk_mem {n : Nat} (h : 0 < n) (i : Nat) (hi : i < n) : (⟨i, hi⟩ : Fin n) ∈ upk (bkf h) n := by
  unfold upk
  exact List.mem_map.2 ⟨n - 1 - i, List.mem_range.2 (by omega), Fin.ext (by show n - 1 - (n - 1 - i) = i; omega)⟩
end Go.Proofs.Ytkecfdeepmhggaa
/-
  Layer 9, the program: a polynomial's value, by Horner's rule, in a loop over what slices.Backward gives.
-/
namespace Go.Proofs.Ytkecfdeepmhggaa
open Go.RowKit Go.Shelf
set_option linter.unusedVariables false
attribute [local go_sem] Oper.semAt_some
/-- Horner's rule over what has come. -/
def hrL {n : Nat} (Q : Int) (a : Nat → Int) (y : Int) (pre : List (Fin n)) : Int := pre.foldl (fun v x => (v * y + a x.1) % Q) 0
theorem hrL_snoc {n : Nat} (Q : Int) (a : Nat → Int) (y : Int) (pre : List (Fin n)) (x : Fin n) : hrL Q a y (pre ++ [x]) = (hrL Q a y pre * y + a x.1) % Q := by simp [hrL]
theorem hrL_all {n : Nat} (h : 0 < n) (Q : Int) (a : Nat → Int) (y : Int) : ∀ k, hrL Q a y (upk (bkf h) k) = hrN Q a y n k
  | 0 => rfl
  | k + 1 => by rw [upk_succ, hrL_snoc, hrL_all h Q a y k, hrN]; rfl
theorem hrL_rng {n : Nat} {Q : Int} {a : Nat → Int} {y : Int} (hQ : 1 ≤ Q) (pre : List (Fin n)) : 0 ≤ hrL Q a y pre ∧ hrL Q a y pre ≤ Q := by
  rcases List.eq_nil_or_concat pre with rfl | ⟨l, x, rfl⟩
  · exact ⟨Int.le_refl _, by show (0 : Int) ≤ Q; omega⟩
  · rw [List.concat_eq_append, hrL_snoc]
    exact ⟨Int.emod_nonneg _ (by omega), Int.le_of_lt (Int.emod_lt_of_pos _ (by omega))⟩
/-- Between two rounds: i's box z, the results' boxes z + 1 and z + 2, the scalars' box q, the value's box q + 1. -/
def VaI (Q y : Int) (a : Nat → Int) {n : Nat} (w : World) (z q bs : Nat) (pre : List (Fin n)) (W : World) : Prop :=
  ((∃ B m cap, Boxed W (q + 1) 25 (.slice B m cap) ∧ Cn W B m cap (hrL Q a y pre) ∧ (∀ x, B = some x → q + 1 < x.block)) ∧
  Boxed W z 3 (.int .i64 y) ∧ Boxed W (z + 1) 25 (.slice none 0 0) ∧ Boxed W (z + 1 + 1) 29 .nilIface ∧ Boxed W q 46 (.pointer (some ⟨bs, 0, none⟩)) ∧ q + 2 < W.heap.size) ∧ Below w.heap.size w W
theorem VaI.own {Q y : Int} {a : Nat → Int} {n : Nat} {w : World} {z q bs B0 : Nat} (h0 : w.heap.size ≤ B0) : OwnFrom B0 (VaI (n := n) Q y a w z q bs) :=
  OwnFrom.and (Own.from (fun s X Y row hs hg hr => by
    obtain ⟨⟨B, m, cap, h1, h2, h3⟩, h4, h5, h6, h7, h8⟩ := hs
    have key : ∀ {k : Nat} {t : TypeId} {v : Value}, Boxed X k t v → Boxed Y k t v := fun hv => hv.kept hg (fun e' => by
      obtain ⟨o, ho, hc⟩ := hr _ e'.symm
      rw [show X.heap[_]? = _ from hv] at ho; cases ho; cases hc)
    exact ⟨⟨B, m, cap, key h1, h2.own hg hr, h3⟩, key h4, key h5, key h6, key h7, Nat.lt_of_lt_of_le h8 hg.size⟩) _) (ownFrom_below (Nat.le_refl _) h0)
set_option maxHeartbeats 4000000 in
set_option maxRecDepth 100000 in
theorem pvalue_any {w : World} {b : Nat} {d : Gd} {A : Option Addr} {n c : Nat} {S : Nat → Nsl} (h : Gr w b d) (hl : Ns w A n c S) (hn : 0 < n) (h32 : n ≤ 32) (hS : ∀ i, i < n → dl (S i).N ≤ 64) (y : Int) (y0 : 0 ≤ y) (y1 : y ≤ 255) :
    Calls Try.prog 34 #[.pointer (some ⟨b, 0, none⟩), .slice A n c, .int .i64 y] w (Ans (hrN d.Q (fun i => (S i).N) y n n) w) := by
  obtain ⟨bl, off, rfl, hbl, hcl⟩ := hl.ex hn
  have HG := Lib.hid h
  have HL := Lib.hid hl
  have HS := Lib.hid hS
  have HCL := Lib.hid hcl
  clear h hl hS hcl
  refine (callsIn_wide (n := 9)).1 ?_
  refine callsIn_of_wp_marks Try.func34 rfl trivial ?_ rfl
  simp only [Try.ntmps34, List.size_toArray, List.length_cons, List.length_nil, Nat.reduceAdd, Nat.reduceSub, Array.replicate_succ, Array.replicate_zero, List.push_toArray, List.append_toArray, List.nil_append, List.cons_append]
  have hs1 := HG.out.lt
  obtain ⟨W1, hW1⟩ : ∃ W1, ((w.alloc (.cells #[.int .i64 y] 3)).alloc (.cells #[.slice none 0 0] 25)).alloc (.cells #[.nilIface] 29) = W1 := ⟨_, rfl⟩
  have B1 : Hid (Below w.heap.size w W1) := Lib.hid (by rw [← hW1]; exact (((Below.refl _ w).alloc (Nat.le_refl _) _).alloc (by simp) _).alloc (by simp; omega) _)
  have X1 : Hid (Boxed W1 w.heap.size 3 (.int .i64 y) ∧ Boxed W1 (w.heap.size + 1) 25 (.slice none 0 0) ∧ Boxed W1 (w.heap.size + 1 + 1) 29 .nilIface) := Lib.hid (by
    have e1 := Boxed.new w 3 (.int .i64 y)
    have e2 := Boxed.new (w.alloc (.cells #[.int .i64 y] 3)) 25 (.slice none 0 0)
    have e3 := Boxed.new ((w.alloc (.cells #[.int .i64 y] 3)).alloc (.cells #[.slice none 0 0] 25)) 29 .nilIface
    simp only [World.size_alloc] at e2 e3
    rw [← hW1]
    exact ⟨(e1.alloc _).alloc _, e2.alloc _, e3⟩)
  gi_wp2_with fail
  refine ⟨trivial, ?_⟩
  refine (callsIn_wide.2 (gscalars_any (HG.out.below B1.out).toGr0)).mono ?_
  rintro e W2 ⟨bs, Am, cm, low, Bm, cB, Sm, cS, rfl, md, b2, -⟩
  have MD := Lib.hid md
  have B2 := Lib.hid (B1.out.trans (b2.mono B1.out.size))
  have key : ∀ {k : Nat} {t : TypeId} {v : Value}, Boxed W1 k t v → Boxed W2 k t v := fun hv => (b2.block _ hv.lt).trans hv
  have X2 := Lib.hid (And.intro (key X1.out.1) (And.intro (key X1.out.2.1) (key X1.out.2.2)))
  have lt2 := Lib.hid (Nat.lt_of_lt_of_le X1.out.2.2.lt b2.size)
  clear md b2 key hW1 X1 B1
  obtain ⟨W3, hW3⟩ : ∃ W3, (W2.alloc (.cells #[.pointer (some ⟨bs, 0, none⟩)] 46)).alloc (.cells #[.slice none 0 0] 25) = W3 := ⟨_, rfl⟩
  gi_wp2_with fail
  refine ⟨trivial, ?_⟩
  refine (bk_in Fence.wide _ trivial rfl _ _ _ _).mono ?_
  rintro e w' ⟨rfl, rfl⟩
  have B3 := Lib.hid (show Below W2.heap.size W2 W3 by rw [← hW3]; exact ((Below.refl _ _).alloc (Nat.le_refl _) _).alloc (by simp) _)
  have Z3 := Lib.hid (show W3.heap.size = W2.heap.size + 2 by rw [← hW3]; simp)
  have X3 := Lib.hid (show Boxed W3 W2.heap.size 46 (.pointer (some ⟨bs, 0, none⟩)) ∧ Boxed W3 (W2.heap.size + 1) 25 (.slice none 0 0) by
    have e1 := Boxed.new W2 46 (.pointer (some ⟨bs, 0, none⟩))
    have e2 := Boxed.new (W2.alloc (.cells #[.pointer (some ⟨bs, 0, none⟩)] 46)) 25 (.slice none 0 0)
    simp only [World.size_alloc] at e2
    rw [← hW3]
    exact ⟨e1.alloc _, e2⟩)
  clear hW3
  obtain ⟨W4, hW4⟩ : ∃ W4, W3.alloc (.cells #[.slice (some ⟨bl, off, none⟩) n c] 22) = W4 := ⟨_, rfl⟩
  have X4 := Lib.hid (show Boxed W4 W3.heap.size 22 (.slice (some ⟨bl, off, none⟩) n c) by rw [← hW4]; exact Boxed.new _ _ _)
  have B4 := Lib.hid (show Below W3.heap.size W3 W4 by rw [← hW4]; exact (Below.refl _ _).alloc (Nat.le_refl _) _)
  have Z4 := Lib.hid (show W4.heap.size = W2.heap.size + 3 by rw [← hW4, World.size_alloc, Z3.out])
  gi_wp2_with fail
  clear hW4
  have sz2 := B2.out.size
  have b24 : Below W2.heap.size W2 W4 := B3.out.trans (B4.out.mono (by have := Z3.out; omega))
  have b04 : Below w.heap.size w W4 := B2.out.trans (b24.mono sz2)
  have k34 : ∀ {k : Nat} {t : TypeId} {v : Value}, Boxed W3 k t v → Boxed W4 k t v := fun hv => (B4.out.block _ hv.lt).trans hv
  have k24 : ∀ {k : Nat} {t : TypeId} {v : Value}, Boxed W2 k t v → Boxed W4 k t v := fun hv => (b24.block _ hv.lt).trans hv
  have z3 := Z3.out
  have z4 := Z4.out
  refine wpIn_rangeFunc_ownG (F := Fence.wide) (n := 9) rfl (by decide) (gf := 84) (lb := #[.pointer (some ⟨W3.heap.size, 0, none⟩)]) rfl trivial (enters_of Try.func84 (by kernel_rfl) rfl)
    (bk_stops (n0 := W2.heap.size) (S := S) Fence.wide 8 trivial rfl (by decide) hn (by omega) W3.heap.size W4 (by omega) (by omega) X4.out.cell ⟨by omega, fun i hi => ((b04.cell (p := ⟨bl, off + i, none⟩) hbl).trans (HCL.out i hi))⟩)
    KpB.trans (KpB.put (by omega) (by omega)) (Below.refl _ _) (fun _ => rfl)
    (VaI d.Q y (fun i => (S i).N) W2 w.heap.size W2.heap.size bs) (fun _ _ _ => False) (VaI.own (by omega)) (fun _ _ _ _ _ hs _ _ => hs)
    ⟨⟨⟨none, 0, 0, k34 X3.out.2, ⟨by rw [show hrL d.Q (fun i => (S i).N) y ([] : List (Fin n)) = 0 from rfl, dg_zero]; exact Rd.nil _ _ _, Nat.le_refl _, by omega, Int.le_refl _⟩, fun x hx => (by cases hx)⟩, k24 X2.out.1, k24 X2.out.2.1, k24 X2.out.2.2, k34 X3.out.1, by omega⟩, b24⟩
    (fun x => { tmps := #[.pointer (some ⟨b, 0, none⟩), .slice (some ⟨bl, off, none⟩) n c, .int .i64 y, undef, undef, .pointer (some ⟨w.heap.size, 0, none⟩), .pointer (some ⟨w.heap.size + 1, 0, none⟩), .pointer (some ⟨w.heap.size + 1 + 1, 0, none⟩), .pointer (some ⟨W2.heap.size, 0, none⟩), .pointer (some ⟨W2.heap.size + 1, 0, none⟩), undef, .slice (S x.1).A (S x.1).n (S x.1).c, undef, undef, .pointer (some ⟨b, 0, none⟩), .pointer (some ⟨bs, 0, none⟩), .slice (some ⟨bl, off, none⟩) n c, .func (.func 84) #[] #[.pointer (some ⟨W3.heap.size, 0, none⟩)], .int .i64 (x.1 : Int), .slice (S x.1).A (S x.1).n (S x.1).c, undef, undef, undef, undef, undef, undef, undef, undef, undef, undef, undef, undef, undef, undef, undef, undef, undef, undef, undef, undef, undef, undef], defers := [] }) ?assign ?body ?done ?stop
  case assign =>
    clear z3 z4 b24 b04 k34 k24
    intro l x W K hK
    gi_wp2
    exact hK
  case body =>
    clear z3 z4 k34 k24
    rintro l pre x W ⟨⟨⟨B, m, cap, hb, hc, hnw⟩, h4, h5, h6, h7, h8⟩, hB⟩ hlen
    have hmx : Try.prog.follows .mixedOrders = true := by kernel_rfl
    have HB := Lib.hid hB
    have HC := Lib.hid hc
    have HN := Lib.hid hnw
    have HBX := Lib.hid (And.intro hb (And.intro h4 (And.intro h5 (And.intro h6 h7))))
    have a5 : W.drew.cell? ⟨w.heap.size, 0, none⟩ = some (.int .i64 y) := h4.cell
    have a8 : W.drew.cell? ⟨W2.heap.size, 0, none⟩ = some (.pointer (some ⟨bs, 0, none⟩)) := h7.cell
    have a9 : W.drew.cell? ⟨W2.heap.size + 1, 0, none⟩ = some (.slice B m cap) := hb.cell
    have N1 := Lib.hid (show ∀ wN, wN = W.drew.alloc (.cells #[.int .u64 y] 54) → Nm wN (some ⟨W.drew.heap.size, 0, none⟩) 1 1 y from fun wN e => e ▸ num9 W.drew y0 y1)
    have BN := Lib.hid (show Below W.heap.size W (W.drew.alloc (.cells #[.int .u64 y] 54)) from ((Below.refl _ _).drew).alloc (Nat.le_refl _) _)
    have MDN := Lib.hid (show ∀ wN, wN = W.drew.alloc (.cells #[.int .u64 y] 54) → Md wN bs d.Q (dl d.Q) Am cm low Bm cB Sm cS from fun wN e => e ▸ (MD.out.below (hB.trans (BN.out.mono hB.size))))
    have HCN := Lib.hid (show ∀ wN, wN = W.drew.alloc (.cells #[.int .u64 y] 54) → Nm wN B m cap (hrL d.Q (fun i => (S i).N) y pre) from fun wN e => e ▸ ((hc.below BN.out).nm))
    have E8 := Lib.hid (show ∀ wN, wN = W.drew.alloc (.cells #[.int .u64 y] 54) → wN.cell? ⟨W2.heap.size, 0, none⟩ = some (.pointer (some ⟨bs, 0, none⟩)) from fun wN e => e ▸ ((BN.out.cell (p := ⟨W2.heap.size, 0, none⟩) h7.lt).trans h7.cell))
    have E9 := Lib.hid (show ∀ wN, wN = W.drew.alloc (.cells #[.int .u64 y] 54) → wN.cell? ⟨W2.heap.size + 1, 0, none⟩ = some (.slice B m cap) from fun wN e => e ▸ ((BN.out.cell (p := ⟨W2.heap.size + 1, 0, none⟩) hb.lt).trans hb.cell))
    have LX := Lib.hid (hrL_rng (a := fun i => (S i).N) (y := y) HG.out.safe.q1 pre)
    have LV : dl (hrL d.Q (fun i => (S i).N) y pre) ≤ 64 := by
      have h1 := dl_mono LX.out.1 LX.out.2
      have := HG.out.lq
      omega
    have LY : dl y ≤ 64 := dl_sm9 y0 y1
    have ZW := Lib.hid h8
    have HX := Lib.hid ((HL.out.at_ x.1 x.2).below (B2.out.trans (hB.mono B2.out.size)))
    have DX := Lib.hid (HS.out x.1 x.2)
    have he0 := neq0_9
    clear hb hc hnw h4 h5 h6 h7 h8 hB
    gi_wp2_with fail
    gi_region_with_o (first
      | (refine ⟨trivial, ?_⟩; gi_at_call 21; refine (CallsIn.inRound l (callsIn_wide.2 (mmul_any (MDN.out _ WN.out) (HCN.out _ WN.out) (N1.out _ WN.out) LV LY))).mono ?_; rintro e w5 ⟨B5, m5, cap5, rfl, hc5, hb5, hn5⟩; have HC5 := Lib.hid hc5; have HB5 := Lib.hid hb5; have HN5 := Lib.hid hn5; clear hc5 hb5 hn5)
      | (refine ⟨trivial, ?_⟩; gi_at_call 59; refine (CallsIn.inRound l (callsIn_wide.2 (pnum_any y y0 y1 _))).mono ?_; rintro e wN ⟨rfl, hwN⟩; have d8 := E8.out _ hwN; have d9 := E9.out _ hwN; have WN := Lib.hid hwN; clear hwN))
    all_goals
      have BW5 := Lib.hid (show Below W.heap.size W w5 from (WN.out ▸ BN.out).trans (HB5.out.mono (WN.out ▸ BN.out.size)))
      clear d8 d9 a5 a8 a9 WN HB5 MDN HCN N1 E8 E9
      have g8 := (BW5.out.block _ HBX.out.2.2.2.2.lt).trans HBX.out.2.2.2.2
      have f8 := Boxed.cell g8
      have LV5 := Lib.hid (Int.emod_nonneg (hrL d.Q (fun i => (S i).N) y pre * y) (show d.Q ≠ 0 by have := HG.out.safe.q1; omega))
      have LW5 := Lib.hid (show dl (hrL d.Q (fun i => (S i).N) y pre * y % d.Q) ≤ 64 by
        have h1 := dl_mono LV5.out (show hrL d.Q (fun i => (S i).N) y pre * y % d.Q ≤ d.Q from Int.le_of_lt (Int.emod_lt_of_pos _ (by have := HG.out.safe.q1; omega)))
        have := HG.out.lq
        omega)
      clear g8
      gi_wp2_with fail
      refine ⟨trivial, ?_⟩
      refine (CallsIn.inRound l (callsIn_wide.2 (madd_any (MD.out.below (HB.out.trans (BW5.out.mono HB.out.size))) HC5.out.nm (HX.out.below BW5.out) LW5.out DX.out))).mono ?_
      rintro e w6 ⟨B6, m6, cap6, rfl, hc6, hb6, hn6⟩
      have BW6 := Lib.hid (BW5.out.trans (hb6.mono BW5.out.size))
      have C6 := Lib.hid hc6
      have N6 := Lib.hid (show ∀ a, B6 = some a → W.heap.size ≤ a.block from fun a ha => Nat.le_trans BW5.out.size (hn6 a ha))
      have g9 := (BW6.out.block _ HBX.out.1.lt).trans HBX.out.1
      have f9 := Boxed.cell g9
      have z9 := Boxed.frozen g9
      clear hc6 hb6 hn6 g9 f8
      gi_wp2_with fail
      have b6 := BW6.out
      have s6 := b6.size
      have zw := ZW.out
      have z3 := Z3.out
      have lt2' := lt2.out
      have key : ∀ {k : Nat} {t : TypeId} {v : Value}, Boxed W k t v → k ≠ W2.heap.size + 1 → Boxed (w6.setCell ⟨W2.heap.size + 1, 0, none⟩ (.slice B6 m6 cap6)) k t v := fun hv hne => Boxed.other (show Boxed w6 _ _ _ from (b6.block _ hv.lt).trans hv) hne _
      have hx : Bo (W2.heap.size + 1) w6 (w6.setCell ⟨W2.heap.size + 1, 0, none⟩ (.slice B6 m6 cap6)) := Bo.set _ _ _ _
      have e9 : hrL d.Q (fun i => (S i).N) y (pre ++ [x]) = (hrL d.Q (fun i => (S i).N) y pre * y % d.Q + (S x.1).N) % d.Q := by rw [hrL_snoc, Int.emod_add_emod]
      have hbx := HBX.out
      have hN6 := N6.out
      refine ⟨(KeepsFrom.of_below b6).trans ((KeepsOthers.setCell _ _ _).from _), ⟨(b6.mono (by omega)).setCell (p := ⟨W2.heap.size + 1, 0, none⟩) (by simp) _, (heap_setCell_other w6 _ W3.heap.size _ (show W3.heap.size ≠ W2.heap.size + 1 by omega)).trans (b6.block _ (by omega))⟩, ⟨⟨B6, m6, cap6, Boxed.set _ (show Boxed w6 _ _ _ from (b6.block _ hbx.1.lt).trans hbx.1), hx.cn (e9 ▸ C6.out) (fun a ha => by have := hN6 a ha; omega), fun a ha => by have := hN6 a ha; omega⟩, key hbx.2.1 (by omega), key hbx.2.2.1 (by omega), key hbx.2.2.2.1 (by omega), key hbx.2.2.2.2 (by omega), by simp; omega⟩, (HB.out.trans (b6.mono (by omega))).setCell (p := ⟨W2.heap.size + 1, 0, none⟩) (by simp) _⟩
  case done =>
    rintro D ys W hD rfl ⟨⟨⟨B, m, cap, hb, hc, hnw⟩, h4, h5, h6, h7, h8⟩, hB⟩ hK
    have lt2' := lt2.out
    have HB := Lib.hid (B2.out.trans (hB.mono sz2))
    have HC := Lib.hid hc
    have HN := Lib.hid hnw
    have HK := Lib.hid hK
    have H56 := Lib.hid (And.intro h5 h6)
    have c9 := hb.cell
    have c5 := h5.cell
    have z5 := h5.frozen
    have c6 := h6.cell
    have z6 := h6.frozen
    have HD := Lib.hid hD
    have Z34 := Lib.hid (And.intro z3 z4)
    clear hb hc hnw h4 h5 h6 h7 h8 hB hK k34 k24 b24 b04 z3 z4 hD
    gi_wp2_with fail
    have hd := HD.out
    have z34 := Z34.out
    have hK1 := (KeepsOthers.setCell W ⟨w.heap.size + 1, 0, none⟩ (.slice B m cap)).same D _ HK.out rfl
    have hK2 := (KeepsOthers.setCell (W.setCell ⟨w.heap.size + 1, 0, none⟩ (.slice B m cap)) ⟨w.heap.size + 1 + 1, 0, none⟩ .nilIface).same D _ hK1 rfl
    have y5 := Boxed.other (Boxed.set (.slice B m cap) H56.out.1) (show w.heap.size + 1 ≠ w.heap.size + 1 + 1 by omega) .nilIface
    have y6 := Boxed.set .nilIface (Boxed.other H56.out.2 (show w.heap.size + 1 + 1 ≠ w.heap.size + 1 by omega) (.slice B m cap))
    have p5 := cell_kept y5.cell (grownBy_putObj' _ D (.deferred none)) (fun r e => by cases e; exact ⟨_, hK2, rfl⟩)
    have p6 := cell_kept y6.cell (grownBy_putObj' _ D (.deferred none)) (fun r e => by cases e; exact ⟨_, hK2, rfl⟩)
    refine ⟨by simp, .inl ⟨_, _, rfl, run_takeDeferred hK2, ?_⟩⟩
    have hx1 : Bo (w.heap.size + 1) W (W.setCell ⟨w.heap.size + 1, 0, none⟩ (.slice B m cap)) := Bo.set _ _ _ _
    have hx2 : Bo (w.heap.size + 1 + 1) (W.setCell ⟨w.heap.size + 1, 0, none⟩ (.slice B m cap)) ((W.setCell ⟨w.heap.size + 1, 0, none⟩ (.slice B m cap)).setCell ⟨w.heap.size + 1 + 1, 0, none⟩ .nilIface) := Bo.set _ _ _ _
    have hN := HN.out
    refine ⟨.tuple #[.slice B m cap, .nilIface], ?_, B, m, cap, rfl, ?_, ?_, fun a ha => by have := hN a ha; omega⟩
    · simp [results, Try.f34, go_sem, p5, p6]
    · have hc2 := hx2.cn (hx1.cn HC.out (fun a ha => by have := hN a ha; omega)) (fun a ha => by have := hN a ha; omega)
      rw [hrL_all] at hc2
      exact hc2.own (grownBy_putObj' _ D (.deferred none)) (fun r e => by cases e; exact ⟨_, hK2, rfl⟩)
    · exact ((HB.out.setCell (p := ⟨w.heap.size + 1, 0, none⟩) (by simp) _).setCell (p := ⟨w.heap.size + 1 + 1, 0, none⟩) (by simp; omega) _).trans (belowK_b (w := w) (Nat.le_refl _) _ D _ _ (by omega) hK2 rfl rfl)
  case stop =>
    rintro D c pre W _ _ h _
    exact h.elim
end Go.Proofs.Ytkecfdeepmhggaa
/-
  Layer 9, the program: the public element of a share, by Horner's rule, in a loop over what slices.Backward gives.
-/
namespace Go.Proofs.Ytkecfdeepmhggaa
open Go.RowKit Go.Shelf
set_option linter.unusedVariables false
attribute [local go_sem] Oper.semAt_some
/-- Between two rounds: the group's box z0, i's box z1, the results' boxes z2 and z3, the value's box v. -/
def PuI (P Q y : Int) (a : Nat → Int) {n : Nat} (w : World) (z0 z1 z2 z3 v b : Nat) (pre : List (Fin n)) (W : World) : Prop :=
  ((∃ B m cap, Boxed W v 25 (.slice B m cap) ∧ Cn W B m cap (huL P a y.toNat pre) ∧ (∀ x, B = some x → x.block ≠ v ∧ w.heap.size ≤ x.block ∧ z2 < x.block ∧ z3 < x.block)) ∧
  Boxed W z0 27 (.pointer (some ⟨b, 0, none⟩)) ∧ Boxed W z1 3 (.int .i64 y) ∧ Boxed W z2 25 (.slice none 0 0) ∧ Boxed W z3 29 .nilIface ∧ v + 1 < W.heap.size ∧ ∀ x ∈ pre, El P Q (a x.1)) ∧ Below w.heap.size w W
/-- Where a commitment is no element. -/
def PuX (P Q : Int) (a : Nat → Int) {n : Nat} (w : World) (z2 z3 : Nat) (c : Code) (pre : List (Fin n)) (W : World) : Prop :=
  (c = .ret ∧ (∃ x ∈ pre, ¬ El P Q (a x.1)) ∧ Boxed W z2 25 (.slice none 0 0) ∧ Boxed W z3 29 (.iface 51 (.int .i64 8))) ∧ Below w.heap.size w W
theorem boxed_own9 {X Y : World} {row : Option Nat} (hg : X.grownBy Y row) (hr : ∀ r, row = some r → ∃ o : Obj, X.heap[r]? = some o ∧ o.isCells = false) {k : Nat} {t : TypeId} {v : Value} (hv : Boxed X k t v) : Boxed Y k t v :=
  hv.kept hg (fun e' => by
    obtain ⟨o, ho, hc⟩ := hr _ e'.symm
    rw [show X.heap[_]? = _ from hv] at ho; cases ho; cases hc)
theorem PuI.own {P Q y : Int} {a : Nat → Int} {n : Nat} {w : World} {z0 z1 z2 z3 v b B0 : Nat} (h0 : w.heap.size ≤ B0) : OwnFrom B0 (PuI (n := n) P Q y a w z0 z1 z2 z3 v b) :=
  OwnFrom.and (Own.from (fun s X Y row hs hg hr => by
    obtain ⟨⟨B, m, cap, h1, h2, h3⟩, h4, h5, h6, h7, h8, h9⟩ := hs
    exact ⟨⟨B, m, cap, boxed_own9 hg hr h1, h2.own hg hr, h3⟩, boxed_own9 hg hr h4, boxed_own9 hg hr h5, boxed_own9 hg hr h6, boxed_own9 hg hr h7, Nat.lt_of_lt_of_le h8 hg.size, h9⟩) _) (ownFrom_below (Nat.le_refl _) h0)
theorem PuX.own {P Q : Int} {a : Nat → Int} {n : Nat} {w : World} {z2 z3 B0 : Nat} (h0 : w.heap.size ≤ B0) (c : Code) : OwnFrom B0 (PuX (n := n) P Q a w z2 z3 c) :=
  OwnFrom.and (Own.from (fun s X Y row hs hg hr => by
    obtain ⟨h1, h2, h3, h4⟩ := hs
    exact ⟨h1, h2, boxed_own9 hg hr h3, boxed_own9 hg hr h4⟩) _) (ownFrom_below (Nat.le_refl _) h0)
/-- What publicValue answers. -/
def PubV (P Q : Int) (N : Nat → Int) (n : Nat) (y : Int) (w : World) (e : Ending) (w' : World) : Prop :=
  ((∀ i, i < n → El P Q (N i)) ∧ Ans (pubI P Q N y n) w e w') ∨ ((∃ i, i < n ∧ ¬ El P Q (N i)) ∧ Err1 8 w e w')
set_option maxHeartbeats 4000000 in
set_option maxRecDepth 100000 in
theorem ppub_any {w : World} {b : Nat} {d : Gd} {A : Option Addr} {n c : Nat} {S : Nat → Nsl} (h : Gr w b d) (hl : Ns w A n c S) (hn : 0 < n) (h32 : n ≤ 32) (y : Int) (y0 : 0 ≤ y) (y1 : y ≤ 255) :
    Calls Try.prog 36 #[.pointer (some ⟨b, 0, none⟩), .slice A n c, .int .i64 y] w (PubV d.P d.Q (fun i => (S i).N) n y w) := by
  obtain ⟨bl, off, rfl, hbl, hcl⟩ := hl.ex hn
  have HG := Lib.hid h
  have HL := Lib.hid hl
  have HCL := Lib.hid hcl
  clear h hl hcl
  refine (callsIn_wide (n := 9)).1 ?_
  refine callsIn_of_wp_marks Try.func36 rfl trivial ?_ rfl
  simp only [Try.ntmps36, List.size_toArray, List.length_cons, List.length_nil, Nat.reduceAdd, Nat.reduceSub, Array.replicate_succ, Array.replicate_zero, List.push_toArray, List.append_toArray, List.nil_append, List.cons_append]
  have hs1 := HG.out.lt
  obtain ⟨U0, hU0⟩ : ∃ U, w.alloc (.cells #[.pointer (some ⟨b, 0, none⟩)] 27) = U := ⟨_, rfl⟩
  obtain ⟨U1, hU1⟩ : ∃ U, U0.alloc (.cells #[.int .i64 y] 3) = U := ⟨_, rfl⟩
  obtain ⟨U2, hU2⟩ : ∃ U, U1.alloc (.cells #[.slice none 0 0] 25) = U := ⟨_, rfl⟩
  obtain ⟨U3, hU3⟩ : ∃ U, U2.alloc (.cells #[.nilIface] 29) = U := ⟨_, rfl⟩
  obtain ⟨U4, hU4⟩ : ∃ U, U3.alloc (.cells #[.int .u64 1] 54) = U := ⟨_, rfl⟩
  obtain ⟨U5, hU5⟩ : ∃ U, U4.alloc (.cells #[.slice none 0 0] 25) = U := ⟨_, rfl⟩
  have Z := Lib.hid (show U0.heap.size = w.heap.size + 1 ∧ U1.heap.size = w.heap.size + 2 ∧ U2.heap.size = w.heap.size + 3 ∧ U3.heap.size = w.heap.size + 4 ∧ U4.heap.size = w.heap.size + 5 ∧ U5.heap.size = w.heap.size + 6 by
    have e0 : U0.heap.size = w.heap.size + 1 := by rw [← hU0]; simp
    have e1 : U1.heap.size = U0.heap.size + 1 := by rw [← hU1]; simp
    have e2 : U2.heap.size = U1.heap.size + 1 := by rw [← hU2]; simp
    have e3 : U3.heap.size = U2.heap.size + 1 := by rw [← hU3]; simp
    have e4 : U4.heap.size = U3.heap.size + 1 := by rw [← hU4]; simp
    have e5 : U5.heap.size = U4.heap.size + 1 := by rw [← hU5]; simp
    omega)
  have bx0 : Boxed U5 w.heap.size 27 (.pointer (some ⟨b, 0, none⟩)) := by
    have e := Boxed.new w 27 (.pointer (some ⟨b, 0, none⟩))
    rw [hU0] at e
    rw [← hU5, ← hU4, ← hU3, ← hU2, ← hU1]
    exact ((((e.alloc _).alloc _).alloc _).alloc _).alloc _
  have bx1 : Boxed U5 U0.heap.size 3 (.int .i64 y) := by
    have e := Boxed.new U0 3 (.int .i64 y)
    rw [hU1] at e
    rw [← hU5, ← hU4, ← hU3, ← hU2]
    exact (((e.alloc _).alloc _).alloc _).alloc _
  have bx2 : Boxed U5 U1.heap.size 25 (.slice none 0 0) := by
    have e := Boxed.new U1 25 (.slice none 0 0)
    rw [hU2] at e
    rw [← hU5, ← hU4, ← hU3]
    exact ((e.alloc _).alloc _).alloc _
  have bx3 : Boxed U5 U2.heap.size 29 .nilIface := by
    have e := Boxed.new U2 29 .nilIface
    rw [hU3] at e
    rw [← hU5, ← hU4]
    exact (e.alloc _).alloc _
  have bc4 : Cn U5 (some ⟨U3.heap.size, 0, none⟩) 1 1 1 := by
    have e := lit_cn U3 1 (by decide) (by decide)
    rw [hU4] at e
    rw [← hU5]
    exact e.below ((Below.refl _ _).alloc (Nat.le_refl _) _)
  have bx5 : Boxed U5 U4.heap.size 25 (.slice none 0 0) := by
    have e := Boxed.new U4 25 (.slice none 0 0)
    rwa [hU5] at e
  have b5 : Below w.heap.size w U5 := by
    rw [← hU5, ← hU4, ← hU3, ← hU2, ← hU1, ← hU0]
    exact ((((((Below.refl _ w).alloc (Nat.le_refl _) _).alloc (by simp) _).alloc (by simp; omega) _).alloc (by simp; omega) _).alloc (by simp; omega) _).alloc (by simp; omega) _
  have c5 := bx5.cell
  have z5 := bx5.frozen
  obtain ⟨V0, hV0⟩ : ∃ V, U5.setCell ⟨U4.heap.size, 0, none⟩ (.slice (some ⟨U3.heap.size, 0, none⟩) 1 1) = V := ⟨_, rfl⟩
  have X := Lib.hid (show Boxed V0 w.heap.size 27 (.pointer (some ⟨b, 0, none⟩)) ∧ Boxed V0 U0.heap.size 3 (.int .i64 y) ∧ Boxed V0 U1.heap.size 25 (.slice none 0 0) ∧ Boxed V0 U2.heap.size 29 .nilIface ∧ Boxed V0 U4.heap.size 25 (.slice (some ⟨U3.heap.size, 0, none⟩) 1 1) ∧ Cn V0 (some ⟨U3.heap.size, 0, none⟩) 1 1 1 ∧ Below w.heap.size w V0 ∧ V0.heap.size = w.heap.size + 6 by
    have hz := Z.out
    rw [← hV0]
    exact ⟨bx0.other (by omega) _, bx1.other (by omega) _, bx2.other (by omega) _, bx3.other (by omega) _, bx5.set _, (Bo.set U4.heap.size 0 U5 _).cn bc4 (fun a ha => by injection ha with ha; subst ha; show U3.heap.size ≠ U4.heap.size; omega), b5.setCell (p := ⟨U4.heap.size, 0, none⟩) (by show w.heap.size ≤ U4.heap.size; omega) _, by simp; omega⟩)
  clear bx0 bx1 bx2 bx3 bc4 bx5 b5
  gi_wp2_with fail
  clear hU0 hU1 hU2 hU3 hU4 hU5 hV0 c5 z5
  refine ⟨trivial, ?_⟩
  refine (bk_in Fence.wide _ trivial rfl _ _ _ _).mono ?_
  rintro e w' ⟨rfl, rfl⟩
  obtain ⟨V1, hV1⟩ : ∃ V, V0.alloc (.cells #[.slice (some ⟨bl, off, none⟩) n c] 22) = V := ⟨_, rfl⟩
  have X1 := Lib.hid (show Boxed V1 V0.heap.size 22 (.slice (some ⟨bl, off, none⟩) n c) ∧ Below V0.heap.size V0 V1 ∧ V1.heap.size = V0.heap.size + 1 by
    rw [← hV1]
    exact ⟨Boxed.new _ _ _, (Below.refl _ _).alloc (Nat.le_refl _) _, by simp⟩)
  gi_wp2_with fail
  clear hV1
  have z4 := Z.out
  have x0 := X.out
  have x1 := X1.out
  have b1 : Below w.heap.size w V1 := x0.2.2.2.2.2.2.1.trans (x1.2.1.mono (by omega))
  have k1 : ∀ {k : Nat} {t : TypeId} {v : Value}, Boxed V0 k t v → Boxed V1 k t v := fun hv => (x1.2.1.block _ hv.lt).trans hv
  refine wpIn_rangeFunc_ownG (F := Fence.wide) (n := 9) rfl (by decide) (gf := 84) (lb := #[.pointer (some ⟨V0.heap.size, 0, none⟩)]) rfl trivial (enters_of Try.func84 (by kernel_rfl) rfl)
    (bk_stops (n0 := w.heap.size) (S := S) Fence.wide 8 trivial rfl (by decide) hn (by omega) V0.heap.size V1 (by omega) (by omega) x1.1.cell ⟨hbl, fun i hi => ((b1.cell (p := ⟨bl, off + i, none⟩) hbl).trans (HCL.out i hi))⟩)
    KpB.trans (KpB.put (by omega) (by omega)) (Below.refl _ _) (fun _ => rfl)
    (PuI d.P d.Q y (fun i => (S i).N) w w.heap.size U0.heap.size U1.heap.size U2.heap.size U4.heap.size b) (PuX d.P d.Q (fun i => (S i).N) w U1.heap.size U2.heap.size) (PuI.own (by omega)) (fun c => PuX.own (by omega) c)
    ⟨⟨⟨_, _, _, k1 x0.2.2.2.2.1, x0.2.2.2.2.2.1.below x1.2.1, fun x hx => by injection hx with hx; subst hx; exact ⟨by show U3.heap.size ≠ U4.heap.size; omega, by show w.heap.size ≤ U3.heap.size; omega, by show U1.heap.size < U3.heap.size; omega, by show U2.heap.size < U3.heap.size; omega⟩⟩, k1 x0.1, k1 x0.2.1, k1 x0.2.2.1, k1 x0.2.2.2.1, by omega, fun x hx => (by cases hx)⟩, b1⟩
    (fun x => { tmps := #[.pointer (some ⟨b, 0, none⟩), .slice (some ⟨bl, off, none⟩) n c, .int .i64 y, .pointer (some ⟨w.heap.size, 0, none⟩), undef, .pointer (some ⟨U0.heap.size, 0, none⟩), .pointer (some ⟨U1.heap.size, 0, none⟩), .pointer (some ⟨U2.heap.size, 0, none⟩), .pointer (some ⟨U4.heap.size, 0, none⟩), undef, .slice (S x.1).A (S x.1).n (S x.1).c, undef, undef, .slice (some ⟨U3.heap.size, 0, none⟩) 1 1, .slice (some ⟨bl, off, none⟩) n c, .func (.func 84) #[] #[.pointer (some ⟨V0.heap.size, 0, none⟩)], .int .i64 (x.1 : Int), .slice (S x.1).A (S x.1).n (S x.1).c, undef, undef, undef, undef, undef, undef, undef, undef, undef, undef, undef, undef, undef, undef, undef, undef, undef, undef, undef, undef, undef, undef], defers := [] }) ?assign ?body ?done ?stop
  case assign =>
    clear z4 x0 x1 b1 k1
    intro l x W K hK
    gi_wp2
    exact hK
  case body =>
    clear z4 x0 x1 b1 k1
    rintro l pre x W ⟨⟨⟨B, m, cap, hb, hc, hnw⟩, h4, h5, h6, h7, h8, h9⟩, hB⟩ hlen
    have hmx : Try.prog.follows .mixedOrders = true := by kernel_rfl
    have HB := Lib.hid hB
    have HN := Lib.hid hnw
    have HBX := Lib.hid (And.intro hb (And.intro h4 (And.intro h5 (And.intro h6 h7))))
    have HEL := Lib.hid h9
    have EV := Lib.hid (huL_el (a := fun i => (S i).N) (Y := y.toNat) HG.out.safe.p2 HG.out.safe.q1 pre h9)
    have a3 : W.drew.cell? ⟨w.heap.size, 0, none⟩ = some (.pointer (some ⟨b, 0, none⟩)) := h4.cell
    have a5 : W.drew.cell? ⟨U0.heap.size, 0, none⟩ = some (.int .i64 y) := h5.cell
    have a8 : W.drew.cell? ⟨U4.heap.size, 0, none⟩ = some (.slice B m cap) := hb.cell
    have N1 := Lib.hid (show ∀ wN, wN = W.drew.alloc (.cells #[.int .u64 y] 54) → Nm wN (some ⟨W.drew.heap.size, 0, none⟩) 1 1 y from fun wN e => e ▸ num9 W.drew y0 y1)
    have BN := Lib.hid (show Below W.heap.size W (W.drew.alloc (.cells #[.int .u64 y] 54)) from ((Below.refl _ _).drew).alloc (Nat.le_refl _) _)
    have GRN := Lib.hid (show ∀ wN, wN = W.drew.alloc (.cells #[.int .u64 y] 54) → Gr0 wN b d from fun wN e => e ▸ (HG.out.below (hB.trans (BN.out.mono hB.size))).toGr0)
    have HCN := Lib.hid (show ∀ wN, wN = W.drew.alloc (.cells #[.int .u64 y] 54) → Nm wN B m cap (huL d.P (fun i => (S i).N) y.toNat pre) from fun wN e => e ▸ ((hc.below BN.out).nm))
    have E3 := Lib.hid (show ∀ wN, wN = W.drew.alloc (.cells #[.int .u64 y] 54) → wN.cell? ⟨w.heap.size, 0, none⟩ = some (.pointer (some ⟨b, 0, none⟩)) from fun wN e => e ▸ ((BN.out.cell (p := ⟨w.heap.size, 0, none⟩) h4.lt).trans h4.cell))
    have E8 := Lib.hid (show ∀ wN, wN = W.drew.alloc (.cells #[.int .u64 y] 54) → wN.cell? ⟨U4.heap.size, 0, none⟩ = some (.slice B m cap) from fun wN e => e ▸ ((BN.out.cell (p := ⟨U4.heap.size, 0, none⟩) hb.lt).trans hb.cell))
    have LY : dl y ≤ 64 := dl_sm9 y0 y1
    have ZW := Lib.hid h8
    have HX := Lib.hid ((HL.out.at_ x.1 x.2).below hB)
    have he0 := neq0_9
    have he1 := neq1_9 8
    clear hb hc hnw h4 h5 h6 h7 h8 h9 hB
    gi_wp2_with fail
    gi_region_with_o (first
      | (refine ⟨trivial, ?_⟩; gi_at_call 61; refine (CallsIn.inRound l (callsIn_wide.2 (gexp_any (GRN.out _ WN.out) (HCN.out _ WN.out) (N1.out _ WN.out) EV.out LY))).mono ?_; rintro e w5 ⟨B5, m5, cap5, rfl, hc5, hb5, hn5⟩; have HC5 := Lib.hid hc5; have HB5 := Lib.hid hb5; have HN5 := Lib.hid hn5; clear hc5 hb5 hn5)
      | (refine ⟨trivial, ?_⟩; gi_at_call 59; refine (CallsIn.inRound l (callsIn_wide.2 (pnum_any y y0 y1 _))).mono ?_; rintro e wN ⟨rfl, hwN⟩; have d8 := E3.out _ hwN; have d9 := E8.out _ hwN; have WN := Lib.hid hwN; clear hwN))
    all_goals
      have BW5 := Lib.hid (show Below W.heap.size W w5 from (WN.out ▸ BN.out).trans (HB5.out.mono (WN.out ▸ BN.out.size)))
      clear d8 d9 a3 a5 a8 WN HB5 GRN HCN N1 E3 E8
      have g3 := (BW5.out.block _ HBX.out.2.1.lt).trans HBX.out.2.1
      have f3 := Boxed.cell g3
      have G5 := Lib.hid (HG.out.below (HB.out.trans (BW5.out.mono HB.out.size)))
      clear g3
      by_cases q : El d.P d.Q (S x.1).N
      · have QX := Lib.hid q
        clear q
        gi_wp2_with fail
        refine ⟨trivial, ?_⟩
        refine (CallsIn.inRound l (callsIn_wide.2 (gmul_any G5.out.toGr0 HC5.out.nm (HX.out.below BW5.out) (EV.out.pow HG.out.safe.p2 HG.out.safe.q1 _) QX.out))).mono ?_
        rintro e w6 ⟨B6, m6, cap6, rfl, hc6, hb6, hn6⟩
        have BW6 := Lib.hid (BW5.out.trans (hb6.mono BW5.out.size))
        have C6 := Lib.hid hc6
        have N6 := Lib.hid (show ∀ a, B6 = some a → W.heap.size ≤ a.block from fun a ha => Nat.le_trans BW5.out.size (hn6 a ha))
        have g9 := (BW6.out.block _ HBX.out.1.lt).trans HBX.out.1
        have f9 := Boxed.cell g9
        have z9 := Boxed.frozen g9
        clear hc6 hb6 hn6 g9 f3
        gi_wp2_with fail
        have b6 := BW6.out
        have s6 := b6.size
        have zw := ZW.out
        have hz := Z.out
        have hx1 := X1.out
        have hx0 := X.out
        have hWz := HB.out.size
        have key : ∀ {k : Nat} {t : TypeId} {v : Value}, Boxed W k t v → k ≠ U4.heap.size → Boxed (w6.setCell ⟨U4.heap.size, 0, none⟩ (.slice B6 m6 cap6)) k t v := fun hv hne => Boxed.other (show Boxed w6 _ _ _ from (b6.block _ hv.lt).trans hv) hne _
        have hx : Bo U4.heap.size w6 (w6.setCell ⟨U4.heap.size, 0, none⟩ (.slice B6 m6 cap6)) := Bo.set _ _ _ _
        have e9 := huL_snoc d.P (fun i => (S i).N) y.toNat pre x
        have hbx := HBX.out
        have hN6 := N6.out
        refine ⟨(KeepsFrom.of_below b6).trans ((KeepsOthers.setCell _ _ _).from _), ⟨(b6.mono (by omega)).setCell (p := ⟨U4.heap.size, 0, none⟩) (by show w.heap.size ≤ U4.heap.size; omega) _, (heap_setCell_other w6 _ V0.heap.size _ (show V0.heap.size ≠ U4.heap.size by omega)).trans (b6.block _ (by omega))⟩, ⟨⟨B6, m6, cap6, Boxed.set _ (show Boxed w6 _ _ _ from (b6.block _ hbx.1.lt).trans hbx.1), hx.cn (e9 ▸ C6.out) (fun a ha => by have := hN6 a ha; omega), fun a ha => by have := hN6 a ha; omega⟩, key hbx.2.1 (by omega), key hbx.2.2.1 (by omega), key hbx.2.2.2.1 (by omega), key hbx.2.2.2.2 (by omega), by simp; omega, fun t ht => ?_⟩, (HB.out.trans (b6.mono (by omega))).setCell (p := ⟨U4.heap.size, 0, none⟩) (by show w.heap.size ≤ U4.heap.size; omega) _⟩
        rcases List.mem_append.1 ht with g | g
        · exact HEL.out t g
        · rw [List.mem_singleton] at g
          subst g
          exact QX.out
      · have QX := Lib.hid q
        clear q
        gi_wp2_with fail
        refine ⟨trivial, ?_⟩
        refine (CallsIn.inRound l (callsIn_wide.2 (gmul_no G5.out.toGr0 HC5.out.nm (HX.out.below BW5.out) (fun k => QX.out k.2)))).mono ?_
        rintro e w6 ⟨rfl, hb6⟩
        have BW6 := Lib.hid (BW5.out.trans (hb6.mono BW5.out.size))
        have g9 := (BW6.out.block _ HBX.out.1.lt).trans HBX.out.1
        have f9 := Boxed.cell g9
        have z9 := Boxed.frozen g9
        have hz := Z.out
        have r2 := Boxed.other (show Boxed w6 _ _ _ from (BW6.out.block _ HBX.out.2.2.2.1.lt).trans HBX.out.2.2.2.1) (show U1.heap.size ≠ U4.heap.size by omega) (.slice none 0 0)
        have r3 := Boxed.other (show Boxed w6 _ _ _ from (BW6.out.block _ HBX.out.2.2.2.2.lt).trans HBX.out.2.2.2.2) (show U2.heap.size ≠ U4.heap.size by omega) (.slice none 0 0)
        have f2 := Boxed.cell r2
        have y2 := Boxed.frozen r2
        have r3' := Boxed.other r3 (show U2.heap.size ≠ U1.heap.size by omega) (.slice none 0 0)
        have f4 := Boxed.cell r3'
        have y4 := Boxed.frozen r3'
        have R2 := Lib.hid r2
        have R3 := Lib.hid r3'
        clear hb6 g9 f3 hz r2 r3 r3'
        gi_wp2_with fail
        have b6 := BW6.out
        have hz := Z.out
        have hWz := HB.out.size
        have e2 := Boxed.other (Boxed.set (.slice none 0 0) R2.out) (show U1.heap.size ≠ U2.heap.size by omega) (.iface 51 (.int .i64 8))
        have e3 := Boxed.set (.iface 51 (.int .i64 8)) R3.out
        refine ⟨(((KeepsFrom.of_below b6).trans ((KeepsOthers.setCell _ _ _).from _)).trans ((KeepsOthers.setCell _ _ _).from _)).trans ((KeepsOthers.setCell _ _ _).from _), ⟨rfl, ⟨x, by simp, QX.out⟩, e2, e3⟩, ((((HB.out.trans (b6.mono (by omega))).setCell (p := ⟨U4.heap.size, 0, none⟩) (by show w.heap.size ≤ U4.heap.size; omega) _).setCell (p := ⟨U1.heap.size, 0, none⟩) (by show w.heap.size ≤ U1.heap.size; omega) _).setCell (p := ⟨U2.heap.size, 0, none⟩) (by show w.heap.size ≤ U2.heap.size; omega) _)⟩
  case done =>
    rintro D ys W hD rfl ⟨⟨⟨B, m, cap, hb, hc, hnw⟩, h4, h5, h6, h7, h8, h9⟩, hB⟩ hK
    have HB := Lib.hid hB
    have HC := Lib.hid hc
    have HN := Lib.hid hnw
    have HK := Lib.hid hK
    have H56 := Lib.hid (And.intro h6 h7)
    have HEL := Lib.hid (show ∀ i, i < n → El d.P d.Q (S i).N from fun i hi => h9 ⟨i, hi⟩ (upk_mem hn i hi))
    have c9 := hb.cell
    have c5 := h6.cell
    have z5 := h6.frozen
    have r3 := Boxed.other h7 (show U2.heap.size ≠ U1.heap.size by omega) (.slice B m cap)
    have c6 := r3.cell
    have z6 := r3.frozen
    have R3 := Lib.hid r3
    have HD := Lib.hid (show w.heap.size ≤ D by omega)
    clear hb hc hnw h4 h5 h6 h7 h8 h9 hB hK k1 b1 x0 x1 z4 hD r3
    gi_wp2_with fail
    have hd := HD.out
    have hz := Z.out
    have hK1 := (KeepsOthers.setCell W ⟨U1.heap.size, 0, none⟩ (.slice B m cap)).same D _ HK.out rfl
    have hK2 := (KeepsOthers.setCell (W.setCell ⟨U1.heap.size, 0, none⟩ (.slice B m cap)) ⟨U2.heap.size, 0, none⟩ .nilIface).same D _ hK1 rfl
    have y5 := Boxed.other (Boxed.set (.slice B m cap) H56.out.1) (show U1.heap.size ≠ U2.heap.size by omega) .nilIface
    have y6 := Boxed.set .nilIface R3.out
    have p5 := cell_kept y5.cell (grownBy_putObj' _ D (.deferred none)) (fun r e => by cases e; exact ⟨_, hK2, rfl⟩)
    have p6 := cell_kept y6.cell (grownBy_putObj' _ D (.deferred none)) (fun r e => by cases e; exact ⟨_, hK2, rfl⟩)
    refine ⟨by simp, .inl ⟨_, _, rfl, run_takeDeferred hK2, ?_⟩⟩
    have hx1 : Bo U1.heap.size W (W.setCell ⟨U1.heap.size, 0, none⟩ (.slice B m cap)) := Bo.set _ _ _ _
    have hx2 : Bo U2.heap.size (W.setCell ⟨U1.heap.size, 0, none⟩ (.slice B m cap)) ((W.setCell ⟨U1.heap.size, 0, none⟩ (.slice B m cap)).setCell ⟨U2.heap.size, 0, none⟩ .nilIface) := Bo.set _ _ _ _
    have hN := HN.out
    refine ⟨.tuple #[.slice B m cap, .nilIface], ?_, .inl ⟨HEL.out, B, m, cap, rfl, ?_, ?_, fun a ha => (hN a ha).2.1⟩⟩
    · simp [results, Try.f36, go_sem, p5, p6]
    · have hcb : Cn W B m cap (pubI d.P d.Q (fun i => (S i).N) y n) := by
        have := HC.out
        rwa [huL_all, hu_pub HG.out.safe.p2 HG.out.safe.q1 y0 hn HEL.out] at this
      exact (hx2.cn (hx1.cn hcb (fun a ha => by have := hN a ha; omega)) (fun a ha => by have := hN a ha; omega)).own (grownBy_putObj' _ D (.deferred none)) (fun r e => by cases e; exact ⟨_, hK2, rfl⟩)
    · exact ((HB.out.setCell (p := ⟨U1.heap.size, 0, none⟩) (by show w.heap.size ≤ U1.heap.size; omega) _).setCell (p := ⟨U2.heap.size, 0, none⟩) (by show w.heap.size ≤ U2.heap.size; omega) _).trans (belowK_b (w := w) (Nat.le_refl _) _ D _ _ (by omega) hK2 rfl rfl)
  case stop =>
    rintro D c pre W hD ⟨k, hk, rfl⟩ ⟨⟨rfl, ⟨x, hx, hne⟩, h5, h6⟩, hB⟩ hK
    have HB := Lib.hid hB
    have HNE := Lib.hid (show ∃ i, i < n ∧ ¬ El d.P d.Q (S i).N from ⟨x.1, x.2, hne⟩)
    have HK := Lib.hid hK
    have H56 := Lib.hid (And.intro h5 h6)
    have HD := Lib.hid (show w.heap.size ≤ D by omega)
    clear h5 h6 hB hK k1 b1 x0 x1 z4 hD hx hne
    gi_wp2_with fail
    have p5 := cell_kept H56.out.1.cell (grownBy_putObj' _ D (.deferred none)) (fun r e => by cases e; exact ⟨_, HK.out, rfl⟩)
    have p6 := cell_kept H56.out.2.cell (grownBy_putObj' _ D (.deferred none)) (fun r e => by cases e; exact ⟨_, HK.out, rfl⟩)
    refine ⟨by simp, .inl ⟨_, _, rfl, run_takeDeferred HK.out, ?_⟩⟩
    refine ⟨.tuple #[.slice none 0 0, .iface 51 (.int .i64 8)], ?_, .inr ⟨HNE.out, rfl, HB.out.trans (belowK_b (w := w) (Nat.le_refl _) W D _ _ HD.out HK.out rfl rfl)⟩⟩
    simp [results, Try.f36, go_sem, p5, p6]
end Go.Proofs.Ytkecfdeepmhggaa
