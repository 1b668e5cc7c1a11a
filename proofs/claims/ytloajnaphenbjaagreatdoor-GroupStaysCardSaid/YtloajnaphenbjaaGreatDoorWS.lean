/-
  Several texts in one: Cnv, Gpq, Gmu, Kep, WGroupStays.
-/
import Derived.Test.YtloajnaphenbjaaGreatDoorKit0
import Derived.Test.YtloajnaphenbjaaGreatDoorGro
import Derived.Test.YtloajnaphenbjaaGreatDoorOwn
import Derived.Test.YtloajnaphenbjaaGreatDoorNorm
import Derived.Test.YtloajnaphenbjaaGreatDoorModul
import Derived.Test.YtloajnaphenbjaaGreatDoorGru
import Derived.Test.YtloajnaphenbjaaGreatDoorDor
import Derived.Test.YtloajnaphenbjaaGreatDoorArg
/-
  Bytes as a string; strings that are the same.
-/
namespace Go.Proofs.YtloajnaphenbjaaGreatDoor
open Go.RowKit
set_option linter.unusedVariables false
/-- string(b), whatever slice of bytes b is. -/
theorem conv_any {w : World} {A : Option Addr} {n c : Nat} {bs : List Int} (h : Rd .u8 w A n bs) : (convert 51 9 (.slice A n c)).run Tryz.prog w = .ok (.string (strOfNums bs)) w := by
  rcases Nat.eq_zero_or_pos n with g | g
  · subst g
    obtain rfl : bs = [] := List.eq_nil_of_length_eq_zero h.len
    cases A with
    | none => exact run_convert_bytes_nil (P := Tryz.prog) w 51 5 Tryz.underlying51 Tryz.underlying5 0 c 9 Tryz.underlying9
    | some ad =>
      rw [run_convert_bytes_string w 51 9 5 _ 0 c Tryz.underlying51 Tryz.underlying5 Tryz.underlying9]
      have hl : (loadCells ad 0).run Tryz.prog w = .ok (([] : List Int).map (Value.int .u8)).toArray w := by
        have := run_loadCells_list (P := Tryz.prog) w ad [] (fun j v hj => by simp at hj)
        simpa using this
      rw [run_bytesToString w ad 0 c [] hl]
      rfl
  · obtain ⟨b, off, rfl, hb, hc⟩ := h.cells g
    exact run_convert_bytes_arg w 51 5 Tryz.underlying51 Tryz.underlying5 b off n c bs h.len (fun i hi => hc i _ (by rw [List.getD_eq_getElem?_getD, getElem?_dig (by rw [h.len]; exact hi)]; rfl)) 9 Tryz.underlying9
theorem str_neq (s : ByteArray) : (s.toList != s.toList) = false := by simp
theorem str_eql (s : ByteArray) : (s.toList == s.toList) = true := by simp
theorem rowAll {w : World} {g : Nat} {t : TypeId} {k : IntKind} {bs : List Int} {n : Nat} (h : Row w g t k bs) (hl : bs.length = n) : Rd k w (some ⟨g, 0, none⟩) n bs := h.rd hl (fun j x hx => by rwa [Nat.zero_add])
end Go.Proofs.YtloajnaphenbjaaGreatDoor
/-
  What P and Q answer.
-/
namespace Go.Proofs.YtloajnaphenbjaaGreatDoor
open Go.RowKit
set_option linter.unusedVariables false
section
variable {w w' : World} {b : Nat} {d : Gd}
theorem gp_any (h : Gr0 w b d) : Calls Tryz.prog 12 #[.pointer (some ⟨b, 0, none⟩)] w (Ans1 d.P w) := by
  have q0 := h.c0
  go_enter Tryz.func12, Tryz.ntmps12
  go_wp2_with fail
  refine (modulus_any h.md).mono ?_
  rintro e w1 ⟨B1, m1, d1, rfl, k1, b1, hn1⟩
  go_wp2
  go_ret
  exact ⟨_, _, _, rfl, k1, b1, hn1⟩
theorem gq_any (h : Gr0 w b d) : Calls Tryz.prog 14 #[.pointer (some ⟨b, 0, none⟩)] w (Ans1 d.Q w) := by
  have q0 := h.c1
  go_enter Tryz.func14, Tryz.ntmps14
  go_wp2_with fail
  refine (norm_any h.q.nm).mono ?_
  rintro e w1 ⟨B1, m1, d1, rfl, k1, b1, hn1⟩
  go_wp2
  go_ret
  exact ⟨_, _, _, rfl, k1, b1, hn1⟩
end
end Go.Proofs.YtloajnaphenbjaaGreatDoor
/-
  What Mul answers.
-/
namespace Go.Proofs.YtloajnaphenbjaaGreatDoor
open Go.RowKit
set_option linter.unusedVariables false
section
variable {w w' : World} {b : Nat} {d : Gd} {A A' : Option Addr} {n c n' c' : Nat} {X Y : Int}
set_option maxHeartbeats 1000000 in
theorem gmul_any (h : Gr0 w b d) (ha : Nm w A n c X) (ha' : Nm w A' n' c' Y) (hx : El d.P d.Q X) (hy : El d.P d.Q Y) :
    Calls Tryz.prog 21 #[.pointer (some ⟨b, 0, none⟩), .slice A n c, .slice A' n' c'] w (Ans (X * Y % d.P) w) := by
  have lx := h.la (by have := hx.1; omega) hx.2.1
  have ly := h.la (by have := hy.1; omega) hy.2.1
  have HX := Lib.hid hx
  have HY := Lib.hid hy
  clear hx hy
  go_enter Tryz.func21, Tryz.ntmps21
  go_wp2_with fail
  refine (gis_yes h ha HX.out).mono ?_
  rintro e w1 ⟨rfl, b1⟩
  go_wp2_with fail
  refine (gis_yes (h.below b1) (ha'.below b1) HY.out).mono ?_
  rintro e w2 ⟨rfl, b2⟩
  have b12 := b1.trans (b2.mono b1.size)
  have h2 := h.below b12
  have q0 := h2.c0
  clear b1 b2
  go_wp2_with fail
  refine (mmul_any h2.md (ha.below b12) (ha'.below b12) lx ly).mono ?_
  rintro e w3 ⟨B3, m3, d3, rfl, k3, b3, hn3⟩
  have b13 := b12.trans (b3.mono b12.size)
  have HN : ∀ a, B3 = some a → w.heap.size ≤ a.block := fun a ha => by have := hn3 a ha; have := b12.size; omega
  have G := Lib.hid b13
  have HN3 := Lib.hid HN
  clear b13 b12 b3 q0 h2 hn3 HN
  go_wp2
  go_ret2
  exact ⟨_, _, _, rfl, k3, G.out, HN3.out⟩
end
end Go.Proofs.YtloajnaphenbjaaGreatDoor
/-
  Memory that stays: what lies outside of some blocks. Slices of the call's own, of any kind of integers, that are turned cell by cell. A number in a block of its own (Norm, Modulus, P, Q).
-/
namespace Go.Proofs.YtloajnaphenbjaaGreatDoor
open Go.RowKit
set_option linter.unusedVariables false
/-- All blocks outside of X are as they were. -/
structure Kept (X : Nat → Prop) (w0 w : World) : Prop where
  size : w0.heap.size ≤ w.heap.size
  block : ∀ b, b < w0.heap.size → ¬ X b → w.heap[b]? = w0.heap[b]?
/-- A slice lies outside of X. -/
def Free (X : Nat → Prop) (A : Option Addr) : Prop := ∀ a, A = some a → ¬ X a.block
section
variable {X : Nat → Prop} {w0 w1 w : World}
theorem Kept.refl (X : Nat → Prop) (w : World) : Kept X w w := ⟨Nat.le_refl _, fun _ _ _ => rfl⟩
theorem Kept.trans (h : Kept X w0 w1) (h' : Kept X w1 w) : Kept X w0 w := ⟨Nat.le_trans h.size h'.size, fun b hb hx => (h'.block b (Nat.lt_of_lt_of_le hb h.size) hx).trans (h.block b hb hx)⟩
theorem Kept.of_below (h : Below w0.heap.size w0 w) : Kept X w0 w := ⟨h.size, fun b hb _ => h.block b hb⟩
theorem Kept.cell (h : Kept X w0 w) {p : Addr} (hp : p.block < w0.heap.size) (hx : ¬ X p.block) : w.cell? p = w0.cell? p := World.cell?_of_block (h.block _ hp hx)
theorem Kept.rd {k : IntKind} {A : Option Addr} {n : Nat} {xs : List Int} (h : Kept X w0 w) (hr : Rd k w0 A n xs) (hx : ∀ a, A = some a → a.block < w0.heap.size → ¬ X a.block) : Rd k w A n xs :=
  ⟨hr.len, fun hn => by
    obtain ⟨b, off, e, hb, hc⟩ := hr.cells hn
    exact ⟨b, off, e, Nat.lt_of_lt_of_le hb h.size, fun j x hj => (h.cell (p := ⟨b, off + j, none⟩) hb (hx ⟨b, off, none⟩ e hb)).trans (hc j x hj)⟩⟩
theorem Kept.cn {A : Option Addr} {n c : Nat} {N : Int} (h : Kept X w0 w) (hr : Cn w0 A n c N) (hx : ∀ a, A = some a → a.block < w0.heap.size → ¬ X a.block) : Cn w A n c N := ⟨h.rd hr.rd hx, hr.nc, hr.c60, hr.pos⟩
theorem Kept.nm {A : Option Addr} {n c : Nat} {N : Int} (h : Kept X w0 w) (hr : Nm w0 A n c N) (hx : ∀ a, A = some a → a.block < w0.heap.size → ¬ X a.block) : Nm w A n c N := by
  obtain ⟨⟨xs, h1, h2, h3⟩, h4, h5, h6⟩ := hr
  exact ⟨⟨xs, h.rd h1 hx, h2, h3⟩, h4, h5, h6⟩
theorem Kept.md {b : Nat} {m : Int} {n : Nat} {A : Option Addr} {c : Nat} {low : Int} {B : Option Addr} {cB : Nat} {S : Option Addr} {cS : Nat} (h : Kept X w0 w) (md : Md w0 b m n A c low B cB S cS)
    (h0 : ¬ X b) (h1 : ∀ a, A = some a → a.block < w0.heap.size → ¬ X a.block) (h2 : ∀ a, B = some a → a.block < w0.heap.size → ¬ X a.block) (h3 : ∀ a, S = some a → a.block < w0.heap.size → ¬ X a.block) : Md w b m n A c low B cB S cS :=
  ⟨Nat.lt_of_lt_of_le md.lt h.size, (h.cell (p := ⟨b, 0, none⟩) md.lt h0).trans md.c0, (h.cell (p := ⟨b, 1, none⟩) md.lt h0).trans md.c1, (h.cell (p := ⟨b, 2, none⟩) md.lt h0).trans md.c2, (h.cell (p := ⟨b, 3, none⟩) md.lt h0).trans md.c3,
    h.cn md.lim h1, md.low0, md.low1, md.lowm, h.nm md.one h2, h.nm md.shift h3, md.odd, md.m3, md.l32⟩
/-- A group stays where all of its memory is new since lo, and nothing from there on that was there is in X. -/
theorem Kept.gr {b : Nat} {d : Gd} {lo : Nat} (h : Kept X w0 w) (g : Gr w0 b d) (hb : lo ≤ b) (hd : d.New lo) (hx : ∀ q, lo ≤ q → q < w0.heap.size → ¬ X q) : Gr w b d :=
  ⟨⟨Nat.lt_of_lt_of_le g.lt h.size, (h.cell (p := ⟨b, 0, none⟩) g.lt (hx _ hb g.lt)).trans g.c0, (h.cell (p := ⟨b, 1, none⟩) g.lt (hx _ hb g.lt)).trans g.c1, (h.cell (p := ⟨b, 2, none⟩) g.lt (hx _ hb g.lt)).trans g.c2,
    h.md g.md (hx _ hd.bm g.md.lt) (fun a ha hl => hx _ (hd.A a ha) hl) (fun a ha hl => hx _ (hd.B a ha) hl) (fun a ha hl => hx _ (hd.S a ha) hl),
    h.cn g.q (fun a ha hl => hx _ (hd.q a ha) hl), h.cn g.g (fun a ha hl => hx _ (hd.g a ha) hl), g.safe⟩, g.el, g.g1, g.big⟩
end
/-- A slice of the call's own, from base on, that may be stored into. -/
structure Mn (t : TypeId) (k : IntKind) (w : World) (base : Nat) (A : Option Addr) (n c : Nat) (xs : List Int) : Prop where
  len : xs.length = n
  nc : n ≤ c
  new : ∀ a, A = some a → base ≤ a.block
  lt : ∀ a, A = some a → a.block < w.heap.size
  row : 0 < n → ∃ (g : Nat) (cur : Array Value), A = some ⟨g, 0, none⟩ ∧ w.heap[g]? = some (.cells cur t (0, 0)) ∧ ∀ (j : Nat) (x : Int), xs[j]? = some x → cur[j]? = some (Value.int k x)
section
variable {t : TypeId} {k : IntKind} {w w' : World} {base : Nat} {A : Option Addr} {n c : Nat} {xs : List Int}
theorem Mn.kept {X : Nat → Prop} (h : Mn t k w base A n c xs) (hk : Kept X w w') (hx : ∀ a, A = some a → ¬ X a.block) : Mn t k w' base A n c xs :=
  ⟨h.len, h.nc, h.new, fun a ha => Nat.lt_of_lt_of_le (h.lt a ha) hk.size, fun hn => by
    obtain ⟨g, cur, e, hg, hc⟩ := h.row hn
    exact ⟨g, cur, e, (hk.block g (Array.getElem?_eq_some_iff.1 hg).1 (hx _ e)).trans hg, hc⟩⟩
theorem Mn.below (h : Mn t k w base A n c xs) (hb : Below w.heap.size w w') : Mn t k w' base A n c xs := h.kept (X := fun _ => False) (Kept.of_below hb) (fun _ _ h => h)
theorem Mn.rd (h : Mn t k w base A n c xs) : Rd k w A n xs :=
  ⟨h.len, fun hn => by
    obtain ⟨g, cur, e, hg, hc⟩ := h.row hn
    exact ⟨g, 0, e, (Array.getElem?_eq_some_iff.1 hg).1, fun j x hx => by rw [Nat.zero_add, cell_of_row w g j cur _ _ hg]; exact hc j x hx⟩⟩
theorem mn_own {v : Value} (h : w.ownsRow base t 1 v n (xs.map (Value.int k))) : ∃ A c, v = .slice A n c ∧ Mn t k w base A n c xs := by
  have hl : xs.length = n := by have := h.1; simpa using this
  rcases h.2 with ⟨rfl, rfl⟩ | ⟨g, cap, cur, rfl, hb, hg, hnc, hm, hs, ht⟩
  · exact ⟨none, 0, rfl, hl, Nat.le_refl _, fun a ha => (by cases ha), fun a ha => (by cases ha), fun h => absurd h (by omega)⟩
  · refine ⟨_, cap, rfl, hl, hnc, fun a ha => by injection ha with ha; subst ha; exact hb, fun a ha => by injection ha with ha; subst ha; exact (Array.getElem?_eq_some_iff.1 hg).1, fun hn => ⟨g, cur, rfl, hg, fun j x hx => ?_⟩⟩
    have hj : j < n := by
      rcases Nat.lt_or_ge j n with q | q
      · exact q
      · rw [List.getElem?_eq_none (by omega)] at hx; cases hx
    have h1 : (cur.toList.take (n * 1))[j]? = some (.int k x) := by rw [ht, List.getElem?_map, hx]; rfl
    rw [List.getElem?_take_of_lt (by omega)] at h1
    simpa using h1
theorem mn_row {g : Nat} (h : Row w g t k xs) (hl : xs.length = n) (hnc : n ≤ c) (hb : base ≤ g) : Mn t k w base (some ⟨g, 0, none⟩) n c xs :=
  ⟨hl, hnc, fun a ha => by injection ha with ha; subst ha; exact hb, fun a ha => by injection ha with ha; subst ha; exact h.lt, fun _ => ⟨g, _, rfl, h, fun j x hx => by simp [hx]⟩⟩
end
/-- Only what the slice A has may have turned. -/
structure Trd (t : TypeId) (k : IntKind) (A : Option Addr) (n : Nat) (w0 w : World) : Prop where
  zero : n = 0 → w = w0
  row : 0 < n → ∃ (g : Nat) (cur : Array Value), A = some ⟨g, 0, none⟩ ∧ w.heap[g]? = some (.cells cur t (0, 0)) ∧ (∀ j, j < n → ∃ x : Int, cur[j]? = some (Value.int k x)) ∧ w0.grownBy w (some g)
section
variable {t : TypeId} {k : IntKind} {A : Option Addr} {n c : Nat} {w0 w a : World}
theorem Trd.start {base : Nat} {xs : List Int} (h : Mn t k w base A n c xs) : Trd t k A n w w :=
  ⟨fun _ => rfl, fun hn => by
    obtain ⟨g, cur, e, hg, hc⟩ := h.row hn
    exact ⟨g, cur, e, hg, fun j hj => ⟨_, hc j _ (getElem?_dig (by have := h.len; omega))⟩, World.grownBy.refl w _⟩⟩
theorem Trd.below {B : Nat} (h : Trd t k A n w0 w) (hb : Below B a w0) (hB : B ≤ w0.heap.size) (hg : ∀ x, A = some x → B ≤ x.block) : Below B a w := by
  rcases Nat.eq_zero_or_pos n with g | g
  · rw [h.zero g]; exact hb
  · obtain ⟨g, cur, e, -, -, gr⟩ := h.row g
    exact below_grown hb gr hB (hg _ e)
theorem Trd.kept {X : Nat → Prop} (h : Trd t k A n w0 w) (hx : ∀ a, A = some a → X a.block) : Kept X w0 w := by
  rcases Nat.eq_zero_or_pos n with g | g
  · rw [h.zero g]; exact Kept.refl _ _
  · obtain ⟨g, cur, e, -, -, gr⟩ := h.row g
    exact ⟨gr.size, fun b hb hn => gr.block b hb (fun he => hn (by injection he with he; rw [he]; exact hx _ e))⟩
/-- One cell more. -/
theorem Trd.step {j g : Nat} {cur : Array Value} {x : Int} (hA : A = some ⟨g, 0, none⟩) (hk : j < n) (hg : w.heap[g]? = some (.cells cur t (0, 0))) (hc : ∀ j, j < n → ∃ x : Int, cur[j]? = some (Value.int k x)) (gr : w0.grownBy w (some g)) :
    Trd t k A n w0 (w.setCell ⟨g, j, none⟩ (.int k x)) := by
  refine ⟨fun h => by omega, fun _ => ⟨g, cur.setIfInBounds j (.int k x), hA, ?_, fun i hi => ?_, grown_setCell gr j _⟩⟩
  · rw [setCell_eq_setRow w g j cur _ _ _ hg]; exact setRow_heap w g cur _ _ _ hg
  · rw [Array.getElem?_setIfInBounds]
    split
    · rename_i h
      subst h
      obtain ⟨y, hy⟩ := hc j hk
      have := (Array.getElem?_eq_some_iff.1 hy).1
      rw [if_pos this]
      exact ⟨x, rfl⟩
    · exact hc i hi
end
def TrdR (t : TypeId) (k : IntKind) (A : Option Addr) (n : Nat) (w0 : World) (i : Value) (wr : World) : Prop := ∃ q : Nat, q ≤ n ∧ i = .int .i64 q ∧ Trd t k A n w0 wr
set_option maxHeartbeats 1000000 in
/-- turn: other digits in the same place. -/
theorem turn_any {w : World} {base : Nat} {A : Option Addr} {n c : Nat} {xs : List Int} (h : Mn 38 .u64 w base A n c xs) (hn : n ≤ 1000) :
    Calls Tryz.prog 23 #[.slice A n c] w fun e w' => e = .returned (.tuple #[]) ∧ Trd 38 .u64 A n w w' := by
  have BS := Lib.hid (Trd.start h)
  clear h
  go_enter Tryz.func23, Tryz.ntmps23
  go_wp2_with fail
  go_loopw [2] (fun i wr => TrdR 38 .u64 A n w i wr) (fun i _ => n - (intOf i).toNat)
  case atStart => exact ⟨0, Nat.zero_le _, rfl, BS.out⟩
  case round =>
    clear BS
    obtain ⟨kk, hkk, rfl, hbp⟩ := hrel
    rcases Nat.lt_or_ge kk n with hlt | hge
    · obtain ⟨g, cur, hA, hg, hc, gr⟩ := hbp.row (by omega)
      obtain ⟨x, hx⟩ := hc kk hlt
      have HST : ∀ y : Int, Trd 38 .u64 A n w (wr.setCell ⟨g, kk, none⟩ (.int .u64 y)) := fun y => Trd.step hA hlt hg hc gr
      have HS := Lib.hid HST
      have hcell := (cell_of_row wr g kk cur _ _ hg).trans hx
      have hfz := frozen_of_row wr g kk cur _ hg
      clear HST hg hc gr hx hbp
      subst hA
      go_wp2
      go_roundw
      case rel => exact ⟨kk + 1, by omega, by go_num, HS.out _⟩
      case measure => simp [intOf]; omega
    · obtain rfl : n = kk := by omega
      go_wp2
      go_end0
      exact ⟨rfl, hbp⟩
section
variable {P : Program} (w : World)
/-- All of a slice more, nil or not. -/
theorem wpList_cat8 {ops : Array Oper} {rest : List Oper} {o : Oper} {a : Act} {Q : Exit → Act → World → Prop} (hgd : o.guard = none) (s x : Operand) (t : TypeId)
    (ho : o.op = .call { callee := .builtin .append, args := #[s, x], argTypes := #[t, t] })
    (base : Nat) (e : TypeId) (k : IntKind) (ht : P.underlying t = some (.slice e)) (hi : (P.info? e).map (fun i => (i.zero, i.size, i.bytes)) = some (some (.int k 0), 1, 1))
    (v : Value) (n : Nat) (L : List Int) (hs : a.eval s = v) (hown : w.ownsRow base e 1 v n (L.map (Value.int k)))
    (A : Option Addr) (m c : Nat) (xs : List Int) (hx : a.eval x = .slice A m c) (hr : Rd k w A m xs) (hn : n + m ≤ 8796093022208) (hbase : base ≤ w.heap.size)
    (h : ∀ v' w', w'.ownsRow base e 1 v' (n + m) ((L ++ xs).map (Value.int k)) → w.grownBy w' v.ownBlock → wpList P ops Q rest (a.put o.dst v') w') : wpList P ops Q (o :: rest) a w := by
  obtain ⟨i0, h1, h2, h3, h4⟩ := info_parts hi
  cases A with
  | none =>
    have hm : m = 0 := by
      rcases Nat.eq_zero_or_pos m with g | g
      · exact g
      · obtain ⟨b, off, e, _⟩ := hr.cells g; cases e
    subst hm
    obtain rfl : xs = [] := List.eq_nil_of_length_eq_zero hr.len
    have hrun := run_app_nil (P := P) w base t o.type e i0 1 ht h1 v n _ hown c
    refine wpList_plain hgd fun K hK => ?_
    have hh := h v w (by simpa using hown) (World.grownBy.refl w _)
    unfold Oper.wp execOp
    simp only [ho, resolve, invoke, builtin, Sem.run_bind, Sem.run_pure, Result.andThen_ok, List.map_toArray, List.map_cons, List.map_nil, hs, hx, hrun]
    exact hK _ _ hh
  | some ad =>
    refine wpList_append_own w hgd s x t ho base e i0 (.int k 0) 1 1 ht h1 h2 h3 h4 rfl (by decide) v n _ hs hown ad m c (xs.map (Value.int k)) hx (by simp [hr.len]) ?_ (ints_oneCell _ _) ?_ ?_ hbase (fun v' w' a b _ => h v' w' (by simpa using a) b)
    · intro j u hj
      rw [List.getElem?_map] at hj
      cases hxj : xs[j]? with
      | none => rw [hxj] at hj; cases hj
      | some x' =>
        rw [hxj] at hj
        injection hj with hj
        subst hj
        have hm : 0 < m := by
          rcases Nat.eq_zero_or_pos m with g | g
          · subst g
            rw [List.eq_nil_of_length_eq_zero hr.len] at hxj; simp at hxj
          · exact g
        obtain ⟨b, off, e, hb, hc⟩ := hr.cells hm
        injection e with e
        subst e
        have e2 : (⟨b, off, none⟩ : Addr).add j = ⟨b, off + j, none⟩ := by
          unfold Addr.add; split
          · rename_i h0; subst h0; rfl
          · rfl
        rw [e2]
        exact hc j x' hxj
    · unfold maxLen; omega
    · omega
end
theorem info8u : (Tryz.prog.info? 5).map (fun i => (i.zero, i.size, i.bytes)) = some (some (.int .u8 0), 1, 1) := by kernel_rfl
/-! ### Norm and Modulus: the answer has a block of its own -/
def AnsR (N : Int) (w : World) (e : Ending) (w' : World) : Prop :=
  e = .returned (.slice (some ⟨w.heap.size, 0, none⟩) (dl N) (dl N)) ∧ Row w' w.heap.size 38 .u64 (dg W N) ∧ Below w.heap.size w w'
set_option maxHeartbeats 1000000 in
theorem norm_row {A : Option Addr} {n c : Nat} {N : Int} {w : World} (h : Nm w A n c N) :
    Calls Tryz.prog 32 #[.slice A n c] w (AnsR N w) := by
  have hx := h.lim
  have hle : dl N ≤ 17592186044416 := by have := hx.nc; have := hx.c60; omega
  have hmk := fun W => run_make64 (dl N) (C := (dl N : Int)) rfl (by omega) W
  obtain ⟨Z, hZ⟩ : ∃ Z : List Int, Z = List.replicate (dl N) 0 := ⟨_, rfl⟩
  rw [← hZ] at hmk
  have HZ := Lib.hid hZ
  clear hZ
  obtain ⟨X, hX⟩ : ∃ X : List Int, X = dg W N := ⟨_, rfl⟩
  have hxr := hx.rd
  rw [← hX] at hxr
  have HX := Lib.hid hX
  clear hX
  go_enter Tryz.func32, Tryz.ntmps32
  go_wp2_with fail
  refine (limbs_nm h).mono ?_
  rintro e w1 ⟨rfl, rfl⟩
  go_wp2_with (with_reducible refine wpList_copy_splice rfl (.tmp 10) (.tmp 11) 23 23 rfl 38 Tryz.underlying23 (by kernel_rfl) _ _ _ _ _ _ rfl rfl w.heap.size 0 (Z.map (Value.int .u64)) 38 ?hg (X.map (Value.int .u64)) ?hn ?hpos ?hfit ?h1 w.heap.size w ?hb (Nat.le_refl _) ?_)
  case hg => exact Row.new _ _ _ _
  case hn => rw [List.length_map, hxr.len]; simp
  case hpos => exact rd_pos hxr
  case hfit => rw [List.length_map, List.length_map, hxr.len, HZ.out]; simp
  case h1 => exact ints_oneCell _ _
  case hb => exact (Below.refl _ _).alloc (Nat.le_refl _) _
  intro w2 hrow hb
  clear hmk
  go_wp2
  go_ret
  have hr := hrow.out
  rw [splice_all (by rw [List.length_map, List.length_map, hxr.len, HZ.out]; simp)] at hr
  have hr2 : Row w2 w.heap.size 38 .u64 X := hr
  rw [HX.out] at hr2
  exact ⟨rfl, hr2, hb⟩
theorem modulus_row {w : World} {b : Nat} {m : Int} {n : Nat} {A : Option Addr} {c : Nat} {low : Int} {B : Option Addr} {cB : Nat} {S : Option Addr} {cS : Nat} (md : Md w b m n A c low B cB S cS) :
    Calls Tryz.prog 18 #[.pointer (some ⟨b, 0, none⟩)] w (AnsR m w) := by
  have q0 := md.c0
  go_enter Tryz.func18, Tryz.ntmps18
  go_wp2_with fail
  refine (norm_row md.lim.nm).mono ?_
  rintro e w1 ⟨rfl, k1, b1⟩
  go_wp2
  go_ret
  exact ⟨rfl, k1, b1⟩
section
variable {w : World} {b : Nat} {d : Gd}
theorem gp_row (h : Gr0 w b d) : Calls Tryz.prog 12 #[.pointer (some ⟨b, 0, none⟩)] w (AnsR d.P w) := by
  have q0 := h.c0
  go_enter Tryz.func12, Tryz.ntmps12
  go_wp2_with fail
  refine (modulus_row h.md).mono ?_
  rintro e w1 ⟨rfl, k1, b1⟩
  go_wp2
  go_ret
  exact ⟨rfl, k1, b1⟩
theorem gq_row (h : Gr0 w b d) : Calls Tryz.prog 14 #[.pointer (some ⟨b, 0, none⟩)] w (AnsR d.Q w) := by
  have q0 := h.c1
  go_enter Tryz.func14, Tryz.ntmps14
  go_wp2_with fail
  refine (norm_row h.q.nm).mono ?_
  rintro e w1 ⟨rfl, k1, b1⟩
  go_wp2
  go_ret
  exact ⟨rfl, k1, b1⟩
end
end Go.Proofs.YtloajnaphenbjaaGreatDoor
/-
  GroupStays: walked through.
-/
namespace Go.Proofs.YtloajnaphenbjaaGreatDoor
open Go.RowKit
set_option linter.unusedVariables false
theorem gg2_any {w : World} {b : Nat} {d : Gd} (h : Gr0 w b d) : Calls Tryz.prog 15 #[.pointer (some ⟨b, 0, none⟩)] w (Ans1 d.G w) := by
  have q0 := h.c2
  go_enter Tryz.func15, Tryz.ntmps15
  go_wp2_with fail
  refine (norm_any h.g.nm).mono ?_
  rintro e w1 ⟨B1, m1, d1, rfl, k1, b1, hn1⟩
  go_wp2
  go_ret
  exact ⟨_, _, _, rfl, k1, b1, hn1⟩
/-- What Encode answers, however it ends. -/
def EncU (v : Value) (E : Int) (w : World) (e : Ending) (w' : World) : Prop :=
  ∃ B m cap, e = .returned (.tuple #[.slice B m cap, v]) ∧ Cn w' B m cap E ∧ Below w.heap.size w w' ∧ ∀ a, B = some a → w.heap.size ≤ a.block
theorem Cn.lt_ {w : World} {A : Option Addr} {n c : Nat} {N : Int} (h : Cn w A n c N) (hN : 0 < N) : 0 < n := by
  have h1 := h.len_
  have h2 : dl N ≠ 0 := fun e => by have := (dl_zero h.pos).1 e; omega
  omega
section
variable {w : World} {sA : Option Addr} {ns cs : Nat} {bA : Option Addr} {nB cB : Nat} {bs : List Int}
set_option maxHeartbeats 8000000 in
set_option maxRecDepth 100000 in
theorem groupStays_over (i : Int) (hi : -9223372036854775808 ≤ i ∧ i ≤ 9223372036854775807) (n60 : ns ≤ 17592186044416) (b60 : nB ≤ 140737488351232) (hl : 60 < ns ∨ 1000 < nB) :
    Calls Tryz.prog 4 #[.int .i64 i, .slice sA ns cs, .slice bA nB cB] w fun e w' => e = .returned (.bool true) ∧ Below w.heap.size w w' := by
  have HI := Lib.hid hi
  clear hi
  rcases Nat.lt_or_ge 60 ns with l1 | l1
  · have t1 : decide ((60 : Int) < (ns : Int)) = true := by simp; omega
    go_enter Tryz.func4, Tryz.ntmps4
    go_wp2_with fail
    refine (up_any w).mono ?_
    rintro e w1 ⟨rfl, b1⟩
    go_wp2_with fail
    refine (known_any i HI.out w1).mono ?_
    rintro e w2 ⟨A, n, c, A', n', c', rfl, kg, b2⟩
    have g2 := b1.trans (b2.mono b1.size)
    have bl := below_al w2 (.cells #[.slice A n c, .slice A' n' c'] 26)
    have KG2 := Lib.hid (kg.below bl)
    have g2b := g2.trans (bl.mono g2.size)
    clear b1 b2 g2 bl kg
    go_wp2_with fail
    refine (kg_new (kix_lt i) KG2.out).mono ?_
    rintro e w3 ⟨b, d, rfl, gr, -, -, -, b3, -, -⟩
    have G := Lib.hid (g2b.trans (b3.mono g2b.size))
    clear g2b b3 gr
    go_wp2
    go_ret
    exact ⟨rfl, G.out⟩
  · have t1 : decide ((60 : Int) < (ns : Int)) = false := by simp; omega
    have t2 : decide ((1000 : Int) < (nB : Int)) = true := by simp; omega
    go_enter Tryz.func4, Tryz.ntmps4
    go_wp2_with fail
    refine (up_any w).mono ?_
    rintro e w1 ⟨rfl, b1⟩
    go_wp2_with fail
    refine (known_any i HI.out w1).mono ?_
    rintro e w2 ⟨A, n, c, A', n', c', rfl, kg, b2⟩
    have g2 := b1.trans (b2.mono b1.size)
    have bl := below_al w2 (.cells #[.slice A n c, .slice A' n' c'] 26)
    have KG2 := Lib.hid (kg.below bl)
    have g2b := g2.trans (bl.mono g2.size)
    clear b1 b2 g2 bl kg
    go_wp2_with fail
    refine (kg_new (kix_lt i) KG2.out).mono ?_
    rintro e w3 ⟨b, d, rfl, gr, -, -, -, b3, -, -⟩
    have G := Lib.hid (g2b.trans (b3.mono g2b.size))
    clear g2b b3 gr
    go_wp2
    go_ret
    exact ⟨rfl, G.out⟩
set_option maxHeartbeats 32000000 in
set_option maxRecDepth 100000 in
theorem groupStays_ok (i : Int) (hi : -9223372036854775808 ≤ i ∧ i ≤ 9223372036854775807) {X : Int} (hs : Nm w sA ns cs X) (ls : ns ≤ 60) (hB : Rd .u8 w bA nB bs) (lb : nB ≤ 1000) (et : Et w) {v : Value} {E : Int}
    (HE : Hid (∀ W b d (B : Option Addr) (cb : Nat), Gr W b d → d.P = kP (kix i) → d.Q = kQ (kix i) → Rd .u8 W B nB bs → Calls Tryz.prog 22 #[.pointer (some ⟨b, 0, none⟩), .slice B nB cb] W (EncU v E W)))
    (HS : Hid (∀ W, Et W → Calls Tryz.prog 24 #[v, v] W (AnsV (.bool true) W))) :
    Calls Tryz.prog 4 #[.int .i64 i, .slice sA ns cs, .slice bA nB cB] w fun e w' => e = .returned (.bool true) ∧ Below w.heap.size w w' := by
  have t1 : decide ((60 : Int) < (ns : Int)) = false := by simp; omega
  have t2 : decide ((1000 : Int) < (nB : Int)) = false := by simp; omega
  have dx : dl X ≤ 64 := by have := hs.dl_le; omega
  have HI := Lib.hid hi
  have HB0 := Lib.hid hB
  have HS0 := Lib.hid hs
  have ET0 := Lib.hid et
  clear hi hB hs et
  go_enter Tryz.func4, Tryz.ntmps4
  go_wp2_with fail
  refine (up_any w).mono ?_
  rintro e w1 ⟨rfl, b1⟩
  go_wp2_with fail
  refine (known_any i HI.out w1).mono ?_
  rintro e w2 ⟨A, n, c, A', n', c', rfl, kg, b2⟩
  have g2 := b1.trans (b2.mono b1.size)
  have bl := below_al w2 (.cells #[.slice A n c, .slice A' n' c'] 26)
  have bx := Bx.new w2 A n c A' n' c'
  have KG2 := Lib.hid (kg.below bl)
  have g2b := g2.trans (bl.mono g2.size)
  have s2b : w2.heap.size + 1 ≤ (w2.alloc (.cells #[.slice A n c, .slice A' n' c'] 26)).heap.size := by simp
  have SZ2 := Lib.hid (And.intro b1.size (And.intro b2.size s2b))
  have KGC := Lib.hid kg.1
  have BL := Lib.hid bl
  have BX := Lib.hid bx
  have G2B := Lib.hid g2b
  clear b1 b2 g2 bl kg bx g2b s2b
  go_wp2_with fail
  refine (kg_new (kix_lt i) KG2.out).mono ?_
  rintro e w3 ⟨b, d, rfl, gr, hP, hQ, hG, b3, hb, hn⟩
  have HPQ := Lib.hid (And.intro hP (And.intro hQ hG))
  have GR3 := Lib.hid gr
  have HBN := Lib.hid (And.intro hb hn)
  have g3 := G2B.out.trans (b3.mono G2B.out.size)
  have SZ3 := Lib.hid b3.size
  have B23 := Lib.hid b3
  have lP := gr.lp
  have lQ := gr.lq
  clear hP hQ hG hb hn b3 KG2 G2B
  go_wp2_with fail
  refine (gp_row gr.toGr0).mono ?_
  rintro e w4 ⟨rfl, rP, b4⟩
  have gr := gr.below b4
  have g4 := g3.trans (b4.mono g3.size)
  have B34 := Lib.hid b4
  have RP := Lib.hid rP
  clear g3 b4 rP
  go_wp2_with fail
  refine (gq_row gr.toGr0).mono ?_
  rintro e w5 ⟨rfl, rQ, b5⟩
  have gr := gr.below b5
  have g5 := g4.trans (b5.mono g4.size)
  have B45 := Lib.hid b5
  have RQ := Lib.hid rQ
  clear g4 b5 rQ
  go_wp2_with fail
  refine (gbase_any gr (HS0.out.below g5) dx).mono ?_
  rintro e w6 ⟨Ba, na, ca, rfl, k6, b6, new6⟩
  have el6 := gr.el.pow gr.safe.p2 gr.safe.q1 X.toNat
  obtain ⟨N, hN⟩ : ∃ N, d.G ^ X.toNat % d.P = N := ⟨_, rfl⟩
  rw [hN] at k6 el6
  have gr := gr.below b6
  have g6 := g5.trans (b6.mono g5.size)
  have B56 := Lib.hid b6
  have K6 := Lib.hid k6
  have NEW6 := Lib.hid new6
  have EL6 := Lib.hid el6
  have na64 : na ≤ 64 := by have := k6.len_; have := gr.la (by have := el6.1; omega) el6.2.1; omega
  have hrd := (k6.rd).alloc (.cells #[] 38)
  have hown : (w6.alloc (.cells #[] 38)).ownsRow w6.heap.size 38 1 (.slice (some ⟨w6.heap.size, 0, none⟩) 0 0) 0 (([] : List Int).map (Value.int .u64)) := World.ownsRow_lit w6 #[] 0 (Nat.le_refl _) (by unfold maxLen; omega) rfl
  clear g5 b6 hN new6 el6 k6
  go_wp2_with (at_builtin; refine wpList_cat _ rfl _ _ 23 rfl w6.heap.size 38 .u64 Tryz.underlying23 info62u _ _ [] rfl hown _ _ _ (dg W N) rfl hrd (by omega) ?hb6 ?_)
  case hb6 => simp
  intro v' w7 hown' hgrow
  have b7 : Below w6.heap.size w6 w7 := own_below ((Below.refl _ _).alloc (Nat.le_refl _) _) hown hgrow (by simp) (Nat.le_refl _)
  have hown2 : w7.ownsRow w6.heap.size 38 1 v' na ((dg W N).map (Value.int .u64)) := by simpa using hown'
  obtain ⟨Ao, co, rfl, own⟩ := mn_own hown2
  clear hown hgrow hown' hown2 hrd
  have gr := gr.below b7
  have g7 := g6.trans (b7.mono g6.size)
  have B67 := Lib.hid b7
  have cno : Cn w7 Ao na co N := ⟨own.rd, own.nc, K6.out.c60, K6.out.pos⟩
  have OWN := Lib.hid own
  clear g6 b7 own
  go_wp2_with fail
  refine (gmul_any gr.toGr0 cno.nm cno.nm EL6.out EL6.out).mono ?_
  rintro e w8 ⟨Bm, nm, cm, rfl, k8, b8, new8⟩
  have gr := gr.below b8
  have g8 := g7.trans (b8.mono g7.size)
  have B78 := Lib.hid b8
  have K8 := Lib.hid k8
  have NEW8 := Lib.hid new8
  have hrd := (HB0.out.below g8).alloc (.cells #[] 5)
  have hown : (w8.alloc (.cells #[] 5)).ownsRow w8.heap.size 5 1 (.slice (some ⟨w8.heap.size, 0, none⟩) 0 0) 0 (([] : List Int).map (Value.int .u8)) := World.ownsRow_lit w8 #[] 0 (Nat.le_refl _) (by unfold maxLen; omega) rfl
  clear g7 b8 k8 new8 cno
  go_wp2_with (at_builtin; refine wpList_cat8 _ rfl _ _ 51 rfl w8.heap.size 5 .u8 Tryz.underlying51 info8u _ _ [] rfl hown _ _ _ bs rfl hrd (by omega) ?hb8 ?_)
  case hb8 => simp
  intro v' w9 hown' hgrow
  have b9 : Below w8.heap.size w8 w9 := own_below ((Below.refl _ _).alloc (Nat.le_refl _) _) hown hgrow (by simp) (Nat.le_refl _)
  have hown2 : w9.ownsRow w8.heap.size 5 1 v' nB (bs.map (Value.int .u8)) := by simpa using hown'
  obtain ⟨Ab, cb, rfl, byt⟩ := mn_own hown2
  clear hown hgrow hown' hown2 hrd
  have gr := gr.below b9
  have g9 := g8.trans (b9.mono g8.size)
  have B89 := Lib.hid b9
  have BYT := Lib.hid byt
  clear g8 b9 byt
  go_wp2_with fail
  refine (HE.out w9 b d Ab cb gr HPQ.out.1 HPQ.out.2.1 BYT.out.rd).mono ?_
  rintro e w10 ⟨Bc, nc, cc, rfl, k10, b10, new10⟩
  have g10 := g9.trans (b10.mono g9.size)
  have B910 := Lib.hid b10
  have K10 := Lib.hid k10
  have NEW10 := Lib.hid new10
  have b6a := (B67.out.trans (B78.out.mono B67.out.size))
  have b6b := b6a.trans (B89.out.mono b6a.size)
  have b6c := b6b.trans (b10.mono b6b.size)
  have b7a := (B78.out.trans (B89.out.mono B78.out.size))
  have b7b := b7a.trans (b10.mono b7a.size)
  have own10 := OWN.out.below b7b
  have cno : Cn w10 Ao na co N := ⟨own10.rd, own10.nc, K6.out.c60, K6.out.pos⟩
  have ka := K6.out.below b6c
  clear g9 b10 k10 new10 b6a b6b b7a b7b gr own10
  go_wp2_with fail
  refine (same_cn cno ka).mono ?_
  rintro e w11 ⟨rfl, b11⟩
  have g11 := g10.trans (b11.mono g10.size)
  have cv1 := conv_any (c := cb) ((BYT.out.rd.below B910.out).below b11)
  have cv2 := conv_any (c := cB) (HB0.out.below g11)
  have st1 := str_eql (strOfNums bs)
  have B1011 := Lib.hid b11
  have G11 := Lib.hid g11
  -- sizes
  have SZ : Hid (w.heap.size ≤ w1.heap.size ∧ w1.heap.size ≤ w2.heap.size ∧ w2.heap.size + 1 ≤ (w2.alloc (.cells #[.slice A n c, .slice A' n' c'] 26)).heap.size ∧ (w2.alloc (.cells #[.slice A n c, .slice A' n' c'] 26)).heap.size ≤ w3.heap.size ∧ w3.heap.size ≤ w4.heap.size ∧ w4.heap.size ≤ w5.heap.size ∧ w5.heap.size ≤ w6.heap.size ∧ w6.heap.size ≤ w7.heap.size ∧ w7.heap.size ≤ w8.heap.size ∧ w8.heap.size ≤ w9.heap.size ∧ w9.heap.size ≤ w10.heap.size ∧ w10.heap.size ≤ w11.heap.size) :=
    Lib.hid ⟨SZ2.out.1, SZ2.out.2.1, SZ2.out.2.2, SZ3.out, B34.out.size, B45.out.size, B56.out.size, B67.out.size, B78.out.size, B89.out.size, B910.out.size, b11.size⟩
  -- from each world on
  have b9z := B910.out.trans (b11.mono B910.out.size)
  have b8z := B89.out.trans (b9z.mono B89.out.size)
  have b7z := B78.out.trans (b8z.mono B78.out.size)
  have b6z := B67.out.trans (b7z.mono B67.out.size)
  have b5z := B56.out.trans (b6z.mono B56.out.size)
  have b4z := B45.out.trans (b5z.mono B45.out.size)
  have b3z := B34.out.trans (b4z.mono B34.out.size)
  have b2z := B23.out.trans (b3z.mono B23.out.size)
  have b2y := BL.out.trans (b2z.mono BL.out.size)
  have BZ := Lib.hid (And.intro b2y (And.intro b2z (And.intro b3z (And.intro b4z (And.intro b5z (And.intro b6z (And.intro b7z (And.intro b8z b9z))))))))
  obtain ⟨gG, hA, hgG, hn1, hc1, rG⟩ := KGC.out
  subst hA hn1 hc1
  have mG := mn_row (base := w1.heap.size) (c := 1) (rG.below b2y rG.lt) rfl (Nat.le_refl _) (Nat.le_of_lt hgG)
  have mP := mn_row (base := w3.heap.size) (c := dl d.P) (RP.out.below b4z RP.out.lt) rfl (Nat.le_refl _) (Nat.le_refl _)
  have mQ := mn_row (base := w4.heap.size) (c := dl d.Q) (RQ.out.below b5z RQ.out.lt) rfl (Nat.le_refl _) (Nat.le_refl _)
  have gGlt := rG.lt
  have MG := Lib.hid mG
  have MP := Lib.hid mP
  have MQ := Lib.hid mQ
  have PLT := Lib.hid (And.intro gGlt (And.intro hgG (And.intro RP.out.lt RQ.out.lt)))
  have own11 := OWN.out.below b7z
  have byt11 := BYT.out.below b9z
  have BYT11 := Lib.hid byt11
  have OLT := Lib.hid OWN.out.lt
  have ONEW := Lib.hid OWN.out.new
  have BLT := Lib.hid BYT.out.lt
  have BNEW := Lib.hid BYT.out.new
  clear b9z b8z b7z b6z b5z b4z b3z b2z b2y mG mP mQ rG hgG gGlt byt11 g10 b11 ka cno KGC
  go_wp2_with fail
  refine (turn_any own11 (by omega)).mono ?_
  rintro e w12 ⟨rfl, T1⟩
  have k12 : Kept (fun q => w6.heap.size ≤ q ∧ q < w7.heap.size) w11 w12 := T1.kept fun a ha => ⟨ONEW.out a ha, OLT.out a ha⟩
  have g12 := T1.below G11.out (by have := SZ.out; omega) (fun x hx => by have := ONEW.out x hx; have := SZ.out; omega)
  have bx11 := BX.out.below BZ.out.2.1
  have x0 := (k12.cell (p := ⟨w2.heap.size, 0, none⟩) bx11.lt (by have := SZ.out; show ¬ (w6.heap.size ≤ w2.heap.size ∧ _); omega)).trans bx11.c0
  have mG12 := MG.out.kept k12 (fun a ha => by injection ha with ha; subst ha; have := PLT.out; have := SZ.out; show ¬ (w6.heap.size ≤ gG ∧ _); omega)
  have K12 := Lib.hid k12
  have G12 := Lib.hid g12
  clear cv1 cv2 st1 own11 T1 k12 g12 g11 G11 bx11
  go_wp2_with fail
  refine (turn_any mG12 (by decide)).mono ?_
  rintro e w13 ⟨rfl, T2⟩
  have k13 : Kept (fun q => q < w2.heap.size) w12 w13 := T2.kept fun a ha => by injection ha with ha; subst ha; exact PLT.out.1
  have g13 := T2.below G12.out (by have := SZ.out; have := K12.out.size; omega) (fun x hx => by injection hx with hx; subst hx; have := PLT.out; have := SZ.out; show _ ≤ gG; omega)
  have mP13 := (MP.out.kept K12.out (fun a ha => by injection ha with ha; subst ha; have := PLT.out; have := SZ.out; show ¬ (w6.heap.size ≤ w3.heap.size ∧ w3.heap.size < w7.heap.size); omega)).kept k13 (fun a ha => by injection ha with ha; subst ha; have := SZ.out; show ¬ (w3.heap.size < w2.heap.size); omega)
  have K13 := Lib.hid k13
  have G13 := Lib.hid g13
  have dlP : dl d.P ≤ 1000 := by omega
  clear T2 k13 g13 G12 mG12 x0
  go_wp2_with fail
  refine (turn_any mP13 dlP).mono ?_
  rintro e w14 ⟨rfl, T3⟩
  have k14 : Kept (fun q => w3.heap.size ≤ q ∧ q < w4.heap.size) w13 w14 := T3.kept fun a ha => by injection ha with ha; subst ha; have := PLT.out; show w3.heap.size ≤ w3.heap.size ∧ w3.heap.size < w4.heap.size; omega
  have g14 := T3.below G13.out (by have := SZ.out; have := K12.out.size; have := K13.out.size; omega) (fun x hx => by injection hx with hx; subst hx; have := SZ.out; show _ ≤ w3.heap.size; omega)
  have mQ14 := ((MQ.out.kept K12.out (fun a ha => by injection ha with ha; subst ha; have := PLT.out; have := SZ.out; show ¬ (w6.heap.size ≤ w4.heap.size ∧ w4.heap.size < w7.heap.size); omega)).kept K13.out (fun a ha => by injection ha with ha; subst ha; have := SZ.out; show ¬ (w4.heap.size < w2.heap.size); omega)).kept k14 (fun a ha => by injection ha with ha; subst ha; have := SZ.out; show ¬ (w3.heap.size ≤ w4.heap.size ∧ w4.heap.size < w4.heap.size); omega)
  have K14 := Lib.hid k14
  have G14 := Lib.hid g14
  have dlQ : dl d.Q ≤ 1000 := by omega
  clear T3 k14 g14 G13 mP13
  go_wp2_with fail
  refine (turn_any mQ14 dlQ).mono ?_
  rintro e w15 ⟨rfl, T4⟩
  have k15 : Kept (fun q => w4.heap.size ≤ q ∧ q < w5.heap.size) w14 w15 := T4.kept fun a ha => by injection ha with ha; subst ha; have := PLT.out; show w4.heap.size ≤ w4.heap.size ∧ w4.heap.size < w5.heap.size; omega
  have g15 := T4.below G14.out (by have := SZ.out; have := K12.out.size; have := K13.out.size; have := K14.out.size; omega) (fun x hx => by injection hx with hx; subst hx; have := SZ.out; show _ ≤ w4.heap.size; omega)
  have byt15 := (((BYT11.out.kept K12.out (fun a ha => by have := BNEW.out a ha; have := BLT.out a ha; have := SZ.out; show ¬ (w6.heap.size ≤ a.block ∧ a.block < w7.heap.size); omega)).kept K13.out (fun a ha => by have := BNEW.out a ha; have := SZ.out; show ¬ (a.block < w2.heap.size); omega)).kept K14.out (fun a ha => by have := BNEW.out a ha; have := SZ.out; show ¬ (w3.heap.size ≤ a.block ∧ a.block < w4.heap.size); omega)).kept k15 (fun a ha => by have := BNEW.out a ha; have := SZ.out; show ¬ (w4.heap.size ≤ a.block ∧ a.block < w5.heap.size); omega)
  have BS := Lib.hid (Trd.start byt15)
  have K15 := Lib.hid k15
  have G15 := Lib.hid g15
  clear T4 k15 g15 G14 mQ14 byt15
  go_wp2_with fail
  go_loopw [22] (fun i wr => TrdR 5 .u8 Ab nB w15 i wr) (fun i _ => nB - (intOf i).toNat)
  case atStart => exact ⟨0, Nat.zero_le _, rfl, BS.out⟩
  case round =>
    clear BS
    obtain ⟨kk, hkk, rfl, hbp⟩ := hrel
    rcases Nat.lt_or_ge kk nB with hlt | hge
    · obtain ⟨g, cur, hA, hg, hc, grw⟩ := hbp.row (by omega)
      obtain ⟨x, hx⟩ := hc kk hlt
      have HST : ∀ y : Int, Trd 5 .u8 Ab nB w15 (wr.setCell ⟨g, kk, none⟩ (.int .u8 y)) := fun y => Trd.step hA hlt hg hc grw
      have HSx := Lib.hid HST
      have hcell := (cell_of_row wr g kk cur _ _ hg).trans hx
      have hfz := frozen_of_row wr g kk cur _ hg
      clear HST hg hc grw hx hbp
      subst hA
      go_wp2
      go_roundw
      case rel => exact ⟨kk + 1, by omega, by go_num, HSx.out _⟩
      case measure => simp [intOf]; omega
    · obtain rfl : nB = kk := by omega
      clear hge hkk
      obtain ⟨w16, hw⟩ : ∃ x, x = wr := ⟨_, rfl⟩
      subst hw
      have k16 : Kept (fun q => w8.heap.size ≤ q ∧ q < w9.heap.size) w15 w16 := hbp.kept fun a ha => ⟨BNEW.out a ha, BLT.out a ha⟩
      have g16 := hbp.below G15.out (by have := SZ.out; have := K12.out.size; have := K13.out.size; have := K14.out.size; have := K15.out.size; omega) (fun x hx => by have := BNEW.out x hx; have := SZ.out; omega)
      -- all that was turned
      obtain ⟨Y, hY⟩ : ∃ Y : Nat → Prop, Y = fun q => (w6.heap.size ≤ q ∧ q < w7.heap.size) ∨ q < w2.heap.size ∨ (w3.heap.size ≤ q ∧ q < w4.heap.size) ∨ (w4.heap.size ≤ q ∧ q < w5.heap.size) ∨ (w8.heap.size ≤ q ∧ q < w9.heap.size) := ⟨_, rfl⟩
      have y12 : Kept Y w11 w12 := ⟨K12.out.size, fun q hq hy => K12.out.block q hq (fun h => hy (by rw [hY]; exact .inl h))⟩
      have y13 : Kept Y w12 w13 := ⟨K13.out.size, fun q hq hy => K13.out.block q hq (fun h => hy (by rw [hY]; exact .inr (.inl h)))⟩
      have y14 : Kept Y w13 w14 := ⟨K14.out.size, fun q hq hy => K14.out.block q hq (fun h => hy (by rw [hY]; exact .inr (.inr (.inl h))))⟩
      have y15 : Kept Y w14 w15 := ⟨K15.out.size, fun q hq hy => K15.out.block q hq (fun h => hy (by rw [hY]; exact .inr (.inr (.inr (.inl h)))))⟩
      have y16 : Kept Y w15 w16 := ⟨k16.size, fun q hq hy => k16.block q hq (fun h => hy (by rw [hY]; exact .inr (.inr (.inr (.inr h)))))⟩
      have ya := (((y12.trans y13).trans y14).trans y15).trans y16
      have HYn : ∀ q, Y q → (w6.heap.size ≤ q ∧ q < w7.heap.size) ∨ q < w2.heap.size ∨ (w3.heap.size ≤ q ∧ q < w4.heap.size) ∨ (w4.heap.size ≤ q ∧ q < w5.heap.size) ∨ (w8.heap.size ≤ q ∧ q < w9.heap.size) := fun q h => by rw [hY] at h; exact h
      have gr16 : Gr w16 b d := ((Kept.of_below BZ.out.2.2.1).trans ya).gr (lo := w2.heap.size + 1) GR3.out (by have := HBN.out.1; have := SZ.out; omega)
        ⟨by have := HBN.out.2.bm; have := SZ.out; omega, fun a ha => by have := HBN.out.2.A a ha; have := SZ.out; omega, fun a ha => by have := HBN.out.2.B a ha; have := SZ.out; omega, fun a ha => by have := HBN.out.2.S a ha; have := SZ.out; omega, fun a ha => by have := HBN.out.2.q a ha; have := SZ.out; omega, fun a ha => by have := HBN.out.2.g a ha; have := SZ.out; omega⟩
        (fun q h1 h2 hy => by have := HYn q hy; have := SZ.out; omega)
      have ka : Cn w16 Ba na ca N := ((Kept.of_below BZ.out.2.2.2.2.2.1).trans ya).cn K6.out (fun a ha hl hy => by have := HYn _ hy; have := NEW6.out a ha; have := SZ.out; omega)
      have km : Cn w16 Bm nm cm (N * N % d.P) := ((Kept.of_below BZ.out.2.2.2.2.2.2.2.1).trans ya).cn K8.out (fun a ha hl hy => by have := HYn _ hy; have := NEW8.out a ha; have := SZ.out; omega)
      have kc : Cn w16 Bc nc cc E := ((Kept.of_below B1011.out).trans ya).cn K10.out (fun a ha hl hy => by have := HYn _ hy; have := NEW10.out a ha; have := SZ.out; omega)
      have KM := Lib.hid km
      have KC := Lib.hid kc
      clear k16 y12 y13 y14 y15 y16 ya HYn hY hbp km kc
      go_wp2_with fail
      refine (gmul_any gr16.toGr0 ka.nm ka.nm EL6.out EL6.out).mono ?_
      rintro e w17 ⟨B17, n17, c17, rfl, k17, b17, -⟩
      have gr17 := gr16.below b17
      have g17 := g16.trans (b17.mono g16.size)
      have KM17 := Lib.hid (KM.out.below b17)
      have KC17 := Lib.hid (KC.out.below b17)
      clear gr16 g16 b17 ka KM KC
      go_wp2_with fail
      refine (HE.out w17 b d bA cB gr17 HPQ.out.1 HPQ.out.2.1 (HB0.out.below g17)).mono ?_
      rintro e w18 ⟨B18, n18, c18, rfl, k18, b18, -⟩
      have gr18 := gr17.below b18
      have g18 := g17.trans (b18.mono g17.size)
      have km18 := KM17.out.below b18
      have k17 := k17.below b18
      have KC18 := Lib.hid (KC17.out.below b18)
      clear gr17 g17 b18 KM17 KC17
      go_wp2_with fail
      refine (same_cn km18 k17).mono ?_
      rintro e w19 ⟨rfl, b19⟩
      have gr19 := gr18.below b19
      have g19 := g18.trans (b19.mono g18.size)
      have kc19 := KC18.out.below b19
      have k18 := k18.below b19
      clear gr18 g18 b19 km18 k17 KC18
      go_wp2_with fail
      refine (same_cn kc19 k18).mono ?_
      rintro e w20 ⟨rfl, b20⟩
      have gr20 := gr19.below b20
      have g20 := g19.trans (b20.mono g19.size)
      clear gr19 g19 b20 kc19 k18
      go_wp2_with fail
      refine (known_any i HI.out w20).mono ?_
      rintro e w21 ⟨Ay, ny, cy, Ay', ny', cy', rfl, kgy, b21⟩
      have gr21 := gr20.below b21
      have g21 := g20.trans (b21.mono g20.size)
      clear gr20 g20 b21
      go_wp2_with fail
      refine (kg_new (kix_lt i) kgy).mono ?_
      rintro e w22 ⟨by', dy, rfl, gry, hPy, hQy, hGy, b22, -, -⟩
      have gr22 := gr21.below b22
      have g22 := g21.trans (b22.mono g21.size)
      have eP : dy.P = d.P := hPy.trans HPQ.out.1.symm
      have eQ : dy.Q = d.Q := hQy.trans HPQ.out.2.1.symm
      have eG : dy.G = d.G := hGy.trans HPQ.out.2.2.symm
      have EQS := Lib.hid (And.intro eP (And.intro eQ eG))
      clear gr21 g21 b22 kgy hPy hQy hGy eP eQ eG
      go_wp2_with fail
      refine (gp_any gr22.toGr0).mono ?_
      rintro e w23 ⟨B23', n23, c23, rfl, k23, b23, -⟩
      have gr23 := gr22.below b23
      have gry := gry.below b23
      have g23 := g22.trans (b23.mono g22.size)
      clear gr22 g22 b23
      go_wp2_with fail
      refine (gp_any gry.toGr0).mono ?_
      rintro e w24 ⟨B24, n24, c24, rfl, k24, b24, -⟩
      rw [EQS.out.1] at k24
      have gr24 := gr23.below b24
      have gry := gry.below b24
      have g24 := g23.trans (b24.mono g23.size)
      have k23 := k23.below b24
      clear gr23 g23 b24
      go_wp2_with fail
      refine (same_cn k23 k24).mono ?_
      rintro e w25 ⟨rfl, b25⟩
      have gr25 := gr24.below b25
      have gry := gry.below b25
      have g25 := g24.trans (b25.mono g24.size)
      clear gr24 g24 b25 k23 k24
      go_wp2_with fail
      refine (gq_any gr25.toGr0).mono ?_
      rintro e w26 ⟨B26, n26, c26, rfl, k26, b26, -⟩
      have gr26 := gr25.below b26
      have gry := gry.below b26
      have g26 := g25.trans (b26.mono g25.size)
      clear gr25 g25 b26
      go_wp2_with fail
      refine (gq_any gry.toGr0).mono ?_
      rintro e w27 ⟨B27, n27, c27, rfl, k27, b27, -⟩
      rw [EQS.out.2.1] at k27
      have gr27 := gr26.below b27
      have gry := gry.below b27
      have g27 := g26.trans (b27.mono g26.size)
      have k26 := k26.below b27
      clear gr26 g26 b27
      go_wp2_with fail
      refine (same_cn k26 k27).mono ?_
      rintro e w28 ⟨rfl, b28⟩
      have gr28 := gr27.below b28
      have gry := gry.below b28
      have g28 := g27.trans (b28.mono g27.size)
      clear gr27 g27 b28 k26 k27
      go_wp2_with fail
      refine (gg2_any gr28.toGr0).mono ?_
      rintro e w29 ⟨B29, n29, c29, rfl, k29, b29, -⟩
      have gry := gry.below b29
      have g29 := g28.trans (b29.mono g28.size)
      clear gr28 g28 b29
      go_wp2_with fail
      refine (gg2_any gry.toGr0).mono ?_
      rintro e w30 ⟨B30, n30, c30, rfl, k30, b30, -⟩
      rw [EQS.out.2.2] at k30
      have g30 := g29.trans (b30.mono g29.size)
      have k29 := k29.below b30
      clear g29 b30 gry
      go_wp2_with fail
      refine (same_cn k29 k30).mono ?_
      rintro e w31 ⟨rfl, b31⟩
      have g31 := g30.trans (b31.mono g30.size)
      have et31 := ET0.out.below g31
      clear g30 b31 k29 k30
      go_wp2_with fail
      refine (HS.out w31 et31).mono ?_
      rintro e w32 ⟨rfl, b32⟩
      have GG := Lib.hid (g31.trans (b32.mono g31.size))
      clear g31 b32 et31
      go_wp2
      go_ret
      exact ⟨rfl, GG.out⟩
theorem groupStays_walk (i : Int) (hi : -9223372036854775808 ≤ i ∧ i ≤ 9223372036854775807) {zs : List Int} (hs : Told w sA ns cs zs) {zb : List Int} (hB : IsRow .u8 1 w bA nB cB zb) (et : Et w) :
    Calls Tryz.prog 4 #[.int .i64 i, .slice sA ns cs, .slice bA nB cB] w fun e w' => e = .returned (.bool true) ∧ Below w.heap.size w w' := by
  by_cases hl : 60 < ns ∨ 1000 < nB
  · exact groupStays_over i hi hs.c60 (by have := hB.nc; omega) hl
  · have hd : Dig 256 (zb.take nB) := fun x hx => by have := bounds_u8 (hB.wf x hx); omega
    by_cases hq : nB = sz (kQ (kix i))
    · exact groupStays_ok i hi hs.nm (by omega) hB.rd (by omega) et (v := .nilIface) (E := encN (kP (kix i)) (kQ (kix i)) (low (zb.take nB) nB nB))
        (Lib.hid fun W b d B cb gr hP hQ hr => by
          have := enc_any (cb := cb) gr.toGr0 hr hd (by rw [hQ]; exact hq)
          rw [hP, hQ] at this
          exact this)
        (Lib.hid fun W _ => same_nil W)
    · exact groupStays_ok i hi hs.nm (by omega) hB.rd (by omega) et (v := .iface 39 (.int .i64 1)) (E := 0)
        (Lib.hid fun W b d B cb gr hP hQ hr => (enc_arg (B := B) (cb := cb) gr.toGr0 (by rw [hQ]; exact hq) (by omega)).mono fun e w' ⟨he, hb⟩ => ⟨none, 0, 0, he, Cn.nil _, hb, fun a ha => by cases ha⟩)
        (Lib.hid fun W hE => same_code 1 (by decide) (by decide) W hE)
end
end Go.Proofs.YtloajnaphenbjaaGreatDoor
