/-
  Several texts in one: Eqc, Lit, Same, Arg0, Arg, Kit0, Own0, Own, Kit.
-/
import Derived.Test.YtcnekfpgoceblaaPka
import Derived.LaidEql
import Derived.Deep.QuietTactic
import Derived.BigQuiet
import Derived.OpenShut
import Derived.OwnWalk
import Derived.Laws.AppendOwn
/-
  Two errors that are Codes, compared.
-/
namespace Go
section
variable {P : Program} (w : World)
theorem run_equalIn_iface_int (d : Nat) {ti tn : TypeId} {ms : Array (String × TypeId)} {i : TypeInfo} {k : IntKind} (a b : Int)
    (hi : P.underlying ti = some (.interface ms)) (hn : P.underlying tn = some (.int k)) (hinfo : P.info? tn = some i) (hcomp : i.comparable = true) :
    (Op.equalIn (d + 2) ti (.iface tn (.int k a)) (.iface tn (.int k b))).run P w = .ok (a == b) w := by
  simp [Op.equalIn, run_underlying hi, run_underlying hn, typeInfo, hinfo, hcomp]
/-- Two interface values of one integer type: as the numbers are. -/
theorem run_eql_iface_int {ti tn : TypeId} {ms : Array (String × TypeId)} {i : TypeInfo} {k : IntKind} (a b : Int)
    (hi : P.underlying ti = some (.interface ms)) (hn : P.underlying tn = some (.int k)) (hinfo : P.info? tn = some i) (hcomp : i.comparable = true) :
    (binOp .eql ti (.iface tn (.int k a)) (.iface tn (.int k b))).run P w = .ok (.bool (a == b)) w := by
  simp only [binOp]
  simp [Op.equal, Op.maxDepth, run_equalIn_iface_int w 9998 a b hi hn hinfo hcomp]
end
end Go
namespace Go.Proofs.Ytcnekfpgoceblaa
open Go.RowKit
set_option linter.unusedVariables false
theorem comp32 : (Try.prog.info? 57).map (·.comparable) = some true := by kernel_rfl
/-- Two errors that are Codes. -/
theorem eql_code (a b : Int) (w : World) : (binOp .eql 35 (.iface 57 (.int .i64 a)) (.iface 57 (.int .i64 b))).run Try.prog w = .ok (.bool (a == b)) w := by
  have h := comp32
  cases hi : Try.prog.info? 57 with
  | none => rw [hi] at h; cases h
  | some i =>
    rw [hi] at h
    exact run_eql_iface_int w a b Try.underlying35 Try.underlying57 hi (by simpa using h)
end Go.Proofs.Ytcnekfpgoceblaa
/-
  Numbers of one digit in new memory, errors that are Codes, what a walk says of the world.
-/
namespace Go.Proofs.Ytcnekfpgoceblaa
open Go.RowKit
set_option linter.unusedVariables false
theorem lit_one (w : World) (x : Int) (h0 : 0 ≤ x) (h1 : x < W) : Nm (w.alloc (.cells #[.int .u64 x] 41)) (some ⟨w.heap.size, 0, none⟩) 1 1 x :=
  Nm.one (show Row _ _ _ _ [x] from Row.new w 41 .u64 [x]) h0 h1 (Nat.le_refl _) (by omega)
theorem lit_two (w : World) (x y : Int) (h0 : 0 ≤ x) (h1 : x < W) (k0 : 0 ≤ y) (k1 : y < W) :
    Nm ((w.alloc (.cells #[.int .u64 x] 41)).alloc (.cells #[.int .u64 y] 41)) (some ⟨w.heap.size, 0, none⟩) 1 1 x ∧
    Nm ((w.alloc (.cells #[.int .u64 x] 41)).alloc (.cells #[.int .u64 y] 41)) (some ⟨w.heap.size + 1, 0, none⟩) 1 1 y := by
  refine ⟨(lit_one w x h0 h1).alloc _, ?_⟩
  have h := lit_one (w.alloc (.cells #[.int .u64 x] 41)) y k0 k1
  have e : (w.alloc (.cells #[.int .u64 x] 41)).heap.size = w.heap.size + 1 := by simp
  rw [e] at h
  exact h
theorem dl_small {x : Int} (h0 : 0 ≤ x) (h1 : x < W) : dl x ≤ 64 := by
  have := dl_le h0 (k := 1) (by simpa [Int.pow_succ] using h1)
  omega
theorem dg_one {x : Int} (h0 : 1 ≤ x) (h1 : x < W) : dg W x = [x] := by
  rw [dg_pos W_two (by omega), Int.emod_eq_of_lt (by omega) h1, Int.ediv_eq_zero_of_lt (by omega) h1, dg_zero]
theorem cn_one {w : World} {B : Option Addr} {m cap : Nat} {x : Int} (h : Cn w B m cap x) (h0 : 1 ≤ x) (h1 : x < W) : m = 1 ∧ ∃ b off, B = some ⟨b, off, none⟩ ∧ b < w.heap.size ∧ w.cell? ⟨b, off, none⟩ = some (.int .u64 x) := by
  have hr := h.rd
  rw [dg_one h0 h1] at hr
  have hl := hr.len
  simp at hl
  subst hl
  obtain ⟨b, off, y, e, hb, hy, hc⟩ := hr.at_ (j := 0) (by omega)
  simp at hy
  subst hy
  exact ⟨rfl, b, off, e, hb, hc⟩
theorem below_one {w w' : World} {o : Obj} (h : Below (w.alloc o).heap.size (w.alloc o) w') : Below w.heap.size w w' :=
  ((Below.refl _ _).alloc (Nat.le_refl _) _).trans (h.mono (by simp))
theorem below_two {w w' : World} {o o' : Obj} (h : Below ((w.alloc o).alloc o').heap.size ((w.alloc o).alloc o') w') : Below w.heap.size w w' := below_one (below_one h)
/-- The value v was answered; nothing that was there has turned. -/
def AnsV (v : Value) (w : World) (e : Ending) (w' : World) : Prop := e = .returned v ∧ Below w.heap.size w w'
end Go.Proofs.Ytcnekfpgoceblaa
/-
  What treenailref01.Same answers of two lists that are the same, and what copied makes.
-/
namespace Go.Proofs.Ytcnekfpgoceblaa
open Go.RowKit
set_option linter.unusedVariables false
def SameR (n : Nat) (w : World) (i : Value) (wr : World) : Prop := ∃ k : Nat, k ≤ n ∧ i = .int .i64 k ∧ ∃ q, wr = w.drewN q
def AnsB (b : Bool) (w : World) (e : Ending) (w' : World) : Prop := e = .returned (.bool b) ∧ ∃ q, w' = w.drewN q
set_option maxHeartbeats 400000 in
theorem same_yes {A A' : Option Addr} {n c c' : Nat} {xs : List Int} {w : World} (h : Rd .u64 w A n xs) (h' : Rd .u64 w A' n xs) (hn : n ≤ 17592186044416) :
    Calls Try.prog 39 #[.slice A n c, .slice A' n c'] w (AnsB true w) := by
  have hq : ((n : Int) != (n : Int)) = false := by simp
  go_enter Try.func39, Try.ntmps39
  go_wp2_with fail
  go_loopw [5] (fun i wr => SameR n w i wr) (fun i _ => n - (intOf i).toNat)
  case atStart => exact ⟨0, Nat.zero_le _, rfl, 0, rfl⟩
  case round =>
    obtain ⟨k, hk, rfl, q, rfl⟩ := hrel
    rcases Nat.lt_or_ge k n with hlt | hge
    · obtain ⟨b, off, x, rfl, hb, hx, hcell⟩ := h.at_ hlt
      obtain ⟨b', off', y, rfl, hb', hy, hcell'⟩ := h'.at_ hlt
      obtain rfl : x = y := by rw [hx] at hy; injection hy
      have hne : ((x : Int) != x) = false := by simp
      have hkn : (k : Int) < (n : Int) := by omega
      clear hx hy
      go_wp2_with fail
      go_quiet (fail)
      go_wp2
      go_roundw
      case rel => exact ⟨k + 1, by omega, by go_num, _, rfl⟩
      case measure => simp [intOf]; omega
    · obtain rfl : k = n := by omega
      go_wp2
      go_ret
      exact ⟨rfl, q, rfl⟩
end Go.Proofs.Ytcnekfpgoceblaa
/-
  A slice of integers that came in: what is known of it.
-/
namespace Go.Proofs.Ytcnekfpgoceblaa
open Go.RowKit
set_option linter.unusedVariables false
/-- A slice of integers that came in: nil, or a row of cap cells, zs, within the reach. -/
def IsRow (k : IntKind) (sz : Nat) (w : World) (a : Option Addr) (len cap : Nat) (zs : List Int) : Prop :=
  (a = none ∧ len = 0 ∧ cap = 0 ∧ zs = []) ∨
  ∃ x, a = some x ∧ len ≤ cap ∧ cap * sz ≤ 140737488351232 ∧ zs.length = cap ∧ (∀ i, i < zs.length → w.cell? (x.add i) = some (.int k (zs.getD i 0))) ∧ ∀ n ∈ zs, (Lit.int k n).wf = true
theorem IsRow.rd {k : IntKind} {sz : Nat} {w : World} {a : Option Addr} {len cap : Nat} {zs : List Int} (h : IsRow k sz w a len cap zs) : Rd k w a len (zs.take len) := by
  rcases h with ⟨rfl, rfl, rfl, rfl⟩ | ⟨x, rfl, hl, hm, hz, hcell, hwz⟩
  · exact Rd.nil _ _ _
  · refine ⟨by rw [List.length_take]; omega, fun hn => ?_⟩
    obtain ⟨b, off, spot⟩ := x
    have hc := hcell 0 (by omega)
    have hspot : spot = none := by simpa [Addr.add] using World.cell?_spot hc
    subst hspot
    have hplain : ∀ j, (⟨b, off, none⟩ : Addr).add j = ⟨b, off + j, none⟩ := fun j => by
      unfold Addr.add; split
      · rename_i h0; subst h0; rfl
      · rfl
    rw [hplain] at hc
    refine ⟨b, off, rfl, block_lt_of_cell hc, fun j v hv => ?_⟩
    have hj : j < len := by
      rcases Nat.lt_or_ge j len with g | g
      · exact g
      · rw [List.getElem?_eq_none (by rw [List.length_take]; omega)] at hv; cases hv
    rw [List.getElem?_take_of_lt hj] at hv
    have := hcell j (by omega)
    rw [hplain, List.getD_eq_getElem?_getD, hv] at this
    exact this
theorem IsRow.nc {k : IntKind} {sz : Nat} {w : World} {a : Option Addr} {len cap : Nat} {zs : List Int} (h : IsRow k sz w a len cap zs) : len ≤ cap ∧ cap * sz ≤ 140737488351232 := by
  rcases h with ⟨rfl, rfl, rfl, rfl⟩ | ⟨x, rfl, hl, hm, _⟩
  · exact ⟨Nat.le_refl _, by omega⟩
  · exact ⟨hl, hm⟩
theorem IsRow.wf {k : IntKind} {sz : Nat} {w : World} {a : Option Addr} {len cap : Nat} {zs : List Int} (h : IsRow k sz w a len cap zs) : ∀ x ∈ zs.take len, (Lit.int k x).wf = true := by
  rcases h with ⟨rfl, rfl, rfl, rfl⟩ | ⟨x, rfl, hl, hm, hz, hcell, hwz⟩
  · intro x hx; cases hx
  · exact fun x hx => hwz x (List.mem_of_mem_take hx)
end Go.Proofs.Ytcnekfpgoceblaa
/-
  A slice of integers that came in: what is known of it, and that it is a number.
-/
namespace Go.Proofs.Ytcnekfpgoceblaa
open Go.RowKit
set_option linter.unusedVariables false
/-- Digits as they were told. -/
structure Told (w : World) (A : Option Addr) (n c : Nat) (xs : List Int) : Prop where
  rd : Rd .u64 w A n xs
  dig_ : Dig W xs
  nc : n ≤ c
  c60 : n ≤ 17592186044416
theorem Told.nm {w : World} {A : Option Addr} {n c : Nat} {xs : List Int} (h : Told w A n c xs) : Nm w A n c (val W xs) := ⟨⟨xs, h.rd, h.dig_, rfl⟩, h.nc, h.c60, val_nonneg (by decide) h.dig_⟩
theorem Told.below {w w' : World} {A : Option Addr} {n c : Nat} {xs : List Int} (h : Told w A n c xs) (hb : Below w.heap.size w w') : Told w' A n c xs := ⟨h.rd.below hb, h.dig_, h.nc, h.c60⟩
theorem IsRow.told {w : World} {a : Option Addr} {len cap : Nat} {zs : List Int} (h : IsRow .u64 8 w a len cap zs) : Told w a len cap (zs.take len) :=
  ⟨h.rd, fun x hx => by have := bounds_u64 (h.wf x hx); unfold W; omega, h.nc.1, by have := h.nc.1; have := h.nc.2; omega⟩
end Go.Proofs.Ytcnekfpgoceblaa
/-
  Contracts in one form for the laws' walks: what is answered, and that nothing that was there has turned.
-/
namespace Go.Proofs.Ytcnekfpgoceblaa
open Go.RowKit
set_option linter.unusedVariables false
theorem same_cn {B B' : Option Addr} {m m' cap cap' : Nat} {N : Int} {w : World} (h : Cn w B m cap N) (h' : Cn w B' m' cap' N) :
    Calls Try.prog 39 #[.slice B m cap, .slice B' m' cap'] w (AnsV (.bool true) w) := by
  obtain rfl := h.len_
  obtain rfl := h'.len_
  exact (same_yes h.rd h'.rd (by have := h.nc; have := h.c60; omega)).mono fun e w' ⟨he, q, hq⟩ => ⟨he, hq ▸ below_drewN (Below.refl _ _) q⟩
theorem dl_add {N M : Int} (h0 : 0 ≤ N) (h1 : 0 ≤ M) {k : Nat} (hN : dl N ≤ k) (hM : dl M ≤ k) : dl (N + M) ≤ k + 1 := by
  refine dl_le (by omega) ?_
  have a := lt_dl h0 hN
  have b := lt_dl h1 hM
  have e : W ^ (k + 1) = W ^ k * W := Int.pow_succ _ _
  have hp := pow_pos' W_two k
  have : W ^ k * 2 ≤ W ^ k * W := Int.mul_le_mul_of_nonneg_left (by decide) (by omega)
  omega
theorem dl_mul {N M : Int} (h0 : 0 ≤ N) (h1 : 0 ≤ M) {j k : Nat} (hN : dl N ≤ j) (hM : dl M ≤ k) : dl (N * M) ≤ j + k := by
  refine dl_le (Int.mul_nonneg h0 h1) ?_
  have a := lt_dl h0 hN
  have b := lt_dl h1 hM
  rw [Int.pow_add]
  have hp := pow_pos' W_two j
  have hq := pow_pos' W_two k
  have c1 := Int.mul_le_mul_of_nonneg_left (show M ≤ W ^ k by omega) h0
  have c2 := Int.mul_lt_mul_of_pos_right a hq
  omega
end Go.Proofs.Ytcnekfpgoceblaa
/-
  Slices that the call itself makes and appends to.
-/
namespace Go.Proofs.Ytcnekfpgoceblaa
open Go.RowKit
set_option linter.unusedVariables false
/-- What the call owns, of integers: as a slice reads. -/
theorem own_rd {w : World} {base : Nat} {e : TypeId} {k : IntKind} {v : Value} {n : Nat} {L : List Int} (h : w.ownsRow base e 1 v n (L.map (Value.int k))) :
    ∃ A cap, v = .slice A n cap ∧ Rd k w A n L ∧ n ≤ cap ∧ ∀ a, A = some a → base ≤ a.block := by
  have hl : L.length = n := by have := h.1; simpa using this
  rcases h.2 with ⟨rfl, hn⟩ | ⟨g, cap, cur, rfl, hb, hg, hnc, hm, hs, ht⟩
  · subst hn
    obtain rfl : L = [] := List.eq_nil_of_length_eq_zero hl
    exact ⟨none, 0, rfl, Rd.nil _ _ _, Nat.le_refl _, fun a ha => by cases ha⟩
  · refine ⟨_, cap, rfl, ⟨hl, fun hp => ⟨g, 0, rfl, (Array.getElem?_eq_some_iff.1 hg).1, fun j x hx => ?_⟩⟩, hnc, fun a ha => by injection ha with ha; subst ha; exact hb⟩
    have hc := h.cells (g := g) rfl j (.int k x) (by rw [List.getElem?_map, hx]; rfl)
    have e : (⟨g, 0, none⟩ : Addr).add j = ⟨g, 0 + j, none⟩ := by
      unfold Addr.add; split
      · rename_i h0; subst h0; rfl
      · rfl
    rw [e] at hc
    exact hc
theorem own_below {w w' : World} {B base : Nat} {e : TypeId} {v : Value} {n : Nat} {xs : List Value} {a : World} (hb : Below B a w) (h : w.ownsRow base e 1 v n xs) (hg : w.grownBy w' v.ownBlock) (hB : B ≤ w.heap.size) (hB' : B ≤ base) : Below B a w' :=
  hb.grown hg hB (fun k e => Nat.le_trans hB' (h.lt k e).1)
section
variable {P : Program} (w : World)
/-- One integer more. -/
theorem wpList_app {ops : Array Oper} {rest : List Oper} {o : Oper} {a : Act} {Q : Exit → Act → World → Prop} (hgd : o.guard = none) (s x : Operand) (t : TypeId)
    (ho : o.op = .call { callee := .builtin .append, args := #[s, x], argTypes := #[t, t] })
    (base : Nat) (e : TypeId) (k : IntKind) (ht : P.underlying t = some (.slice e)) (hi : (P.info? e).map (fun i => (i.zero, i.size, i.bytes)) = some (some (.int k 0), 1, 8))
    (v : Value) (n : Nat) (L : List Int) (hs : a.eval s = v) (hown : w.ownsRow base e 1 v n (L.map (Value.int k)))
    (g : Nat) (y : Int) (hx : a.eval x = .slice (some ⟨g, 0, none⟩) 1 1) (hc : w.cell? ⟨g, 0, none⟩ = some (.int k y)) (hn : n ≤ 8796093022208) (hbase : base ≤ w.heap.size)
    (h : ∀ v' w', w'.ownsRow base e 1 v' (n + 1) ((L ++ [y]).map (Value.int k)) → w.grownBy w' v.ownBlock → wpList P ops Q rest (a.put o.dst v') w') : wpList P ops Q (o :: rest) a w := by
  obtain ⟨i0, h1, h2, h3, h4⟩ := info_parts hi
  refine wpList_append_own w hgd s x t ho base e i0 (.int k 0) 1 8 ht h1 h2 h3 h4 rfl (by decide) v n _ hs hown ⟨g, 0, none⟩ 1 1 [.int k y] hx rfl ?_ ?_ ?_ ?_ hbase (fun v' w' a b _ => h v' w' (by simpa using a) b)
  · intro j u hj
    match j, hj with
    | 0, hj => simp at hj; subst hj; simpa [Addr.add] using hc
  · intro u hu; simp at hu; subst hu; rfl
  · unfold maxLen; omega
  · omega
end
section
variable {P : Program} (w : World)
theorem run_app_nil (base : Nat) (t ty e : TypeId) (i : TypeInfo) (size : Nat) (ht : P.underlying t = some (.slice e)) (hi : P.info? e = some i)
    (v : Value) (n : Nat) (xs : List Value) (hown : w.ownsRow base e size v n xs) (c : Nat) : (Builtin.append_ #[t, t] ty #[v, .slice none 0 c]).run P w = .ok v w := by
  rcases hown.2 with ⟨rfl, rfl⟩ | ⟨g, cap, cur, rfl, _, _, hnc, _⟩
  · simp [Builtin.append_, run_underlying ht, sizeOf, typeInfo, hi, Builtin.lenOf, Builtin.firstCells]
  · simp [Builtin.append_, run_underlying ht, sizeOf, typeInfo, hi, Builtin.lenOf, Builtin.firstCells, hnc, storeCells]
/-- All of a slice more, nil or not. -/
theorem wpList_cat {ops : Array Oper} {rest : List Oper} {o : Oper} {a : Act} {Q : Exit → Act → World → Prop} (hgd : o.guard = none) (s x : Operand) (t : TypeId)
    (ho : o.op = .call { callee := .builtin .append, args := #[s, x], argTypes := #[t, t] })
    (base : Nat) (e : TypeId) (k : IntKind) (ht : P.underlying t = some (.slice e)) (hi : (P.info? e).map (fun i => (i.zero, i.size, i.bytes)) = some (some (.int k 0), 1, 8))
    (v : Value) (n : Nat) (L : List Int) (hs : a.eval s = v) (hown : w.ownsRow base e 1 v n (L.map (Value.int k)))
    (A : Option Addr) (m c : Nat) (xs : List Int) (hx : a.eval x = .slice A m c) (hr : Rd k w A m xs) (hn : n + m ≤ 8796093022208) (hbase : base ≤ w.heap.size)
    (h : ∀ v' w', w'.ownsRow base e 1 v' (n + m) ((L ++ xs).map (Value.int k)) → w.grownBy w' v.ownBlock → wpList P ops Q rest (a.put o.dst v') w') : wpList P ops Q (o :: rest) a w := by
  obtain ⟨i0, h1, h2, h3, h4⟩ := info_parts hi
  cases A with
  | none =>
    have hm : m = 0 := by
      rcases Nat.eq_zero_or_pos m with g | g
      · exact g
      · obtain ⟨b, off, e, _⟩ := hr.cells g; cases e
    subst hm
    obtain rfl : xs = [] := List.eq_nil_of_length_eq_zero hr.len
    have hrun := run_app_nil (P := P) w base t o.type e i0 1 ht h1 v n _ hown c
    refine wpList_plain hgd fun K hK => ?_
    have hh := h v w (by simpa using hown) (World.grownBy.refl w _)
    unfold Oper.wp execOp
    simp only [ho, resolve, invoke, builtin, Sem.run_bind, Sem.run_pure, Result.andThen_ok, List.map_toArray, List.map_cons, List.map_nil, hs, hx, hrun]
    exact hK _ _ hh
  | some ad =>
    refine wpList_append_own w hgd s x t ho base e i0 (.int k 0) 1 8 ht h1 h2 h3 h4 rfl (by decide) v n _ hs hown ad m c (xs.map (Value.int k)) hx (by simp [hr.len]) ?_ (ints_oneCell _ _) ?_ ?_ hbase (fun v' w' a b _ => h v' w' (by simpa using a) b)
    · intro j u hj
      rw [List.getElem?_map] at hj
      cases hxj : xs[j]? with
      | none => rw [hxj] at hj; cases hj
      | some x' =>
        rw [hxj] at hj
        injection hj with hj
        subst hj
        have hm : 0 < m := by
          rcases Nat.eq_zero_or_pos m with g | g
          · subst g
            rw [List.eq_nil_of_length_eq_zero hr.len] at hxj; simp at hxj
          · exact g
        obtain ⟨b, off, e, hb, hc⟩ := hr.cells hm
        injection e with e
        subst e
        have e2 : (⟨b, off, none⟩ : Addr).add j = ⟨b, off + j, none⟩ := by
          unfold Addr.add; split
          · rename_i h0; subst h0; rfl
          · rfl
        rw [e2]
        exact hc j x' hxj
    · unfold maxLen; omega
    · omega
end
end Go.Proofs.Ytcnekfpgoceblaa
/-
  Slices that the call itself makes and appends to; the types of this program.
-/
namespace Go.Proofs.Ytcnekfpgoceblaa
open Go.RowKit
set_option linter.unusedVariables false
theorem info62u : (Try.prog.info? 41).map (fun i => (i.zero, i.size, i.bytes)) = some (some (.int .u64 0), 1, 8) := by kernel_rfl
end Go.Proofs.Ytcnekfpgoceblaa
/-
  What treenailref01.Limbs answers.
-/
namespace Go.Proofs.Ytcnekfpgoceblaa
open Go.RowKit
set_option linter.unusedVariables false
/-- treenailref01.Limbs. -/
theorem Limbs_any (A : Option Addr) (n c : Nat) (xs : List Int) (w : World) (h : Rd .u64 w A n xs) (hd : Dig W xs) (hnc : n ≤ c) (hc : n ≤ 17592186044416) :
    Calls Try.prog 49 #[.slice A n c] w fun e w' => e = .returned (.int .i64 (nl xs : Nat)) ∧ w = w' := by
  go_enter Try.func49, Try.ntmps49
  go_wp2
  go_loop [3] (fun t => LimR xs n t) (fun t => (intOf t).toNat)
  case atStart => exact ⟨n, Nat.le_refl _, fun j h1 h2 => by omega, rfl⟩
  case round =>
    obtain ⟨k, hk, hz, rfl⟩ := hrel
    have HZ := Lib.hid hz
    clear hz
    rcases Nat.eq_zero_or_pos k with h0 | h0
    · subst h0
      go_wp2
      go_ret
      exact ⟨by rw [← limbs_end h hd hk HZ.out (fun h => absurd h (by omega))]; rfl, rfl⟩
    · obtain ⟨m, rfl⟩ : ∃ m, k = m + 1 := ⟨k - 1, by omega⟩
      obtain ⟨b, off, x, rfl, hb, hx, hcell⟩ := h.at_ (j := m) (by omega)
      have HX := Lib.hid hx
      clear hx
      by_cases hx0 : x = 0
      · subst hx0
        go_wp2
        go_round
        case rel =>
          refine ⟨m, by omega, fun j h1 h2 => ?_, by go_num⟩
          rcases Nat.lt_or_ge m j with h3 | h3
          · exact HZ.out j (by omega) h2
          · obtain rfl : j = m := by omega
            rw [List.getD_eq_getElem?_getD, HX.out]; rfl
        case measure => simp [intOf]
      · have hx1 : ((x : Int) == 0) = false := by simpa using hx0
        go_wp2
        go_ret
        exact ⟨by rw [← limbs_end h hd hk HZ.out (fun _ => by rw [Nat.add_sub_cancel, List.getD_eq_getElem?_getD, HX.out]; exact hx0)]; rfl, rfl⟩
theorem Limbs_nm {A : Option Addr} {n c : Nat} {N : Int} {w : World} (h : Nm w A n c N) :
    Calls Try.prog 49 #[.slice A n c] w fun e w' => e = .returned (.int .i64 (dl N : Nat)) ∧ w = w' := by
  obtain ⟨⟨xs, h1, h2, h3⟩, h4, h5, h6⟩ := h
  refine (Limbs_any A n c xs w h1 h2 h4 h5).mono fun e w' ⟨he, hw⟩ => ⟨?_, hw⟩
  subst h3
  exact he
end Go.Proofs.Ytcnekfpgoceblaa
