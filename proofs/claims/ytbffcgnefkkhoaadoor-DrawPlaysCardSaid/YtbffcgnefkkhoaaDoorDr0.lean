/-
  The document's row of draws in memory: what New and Bytes answer.
-/
import Derived.Test.YtbffcgnefkkhoaaDoorDrn
import Derived.Test.YtbffcgnefkkhoaaDoorRst
import Derived.Test.YtbffcgnefkkhoaaDoorMn
namespace Go.Proofs.YtbffcgnefkkhoaaDoor
open Go.RowKit
set_option linter.unusedVariables false
/-- Nothing that was there has turned but block b. -/
structure Bx (b : Nat) (w w' : World) : Prop where
  os : w'.os = w.os
  tape : w'.tape = w.tape
  output : w'.output = w.output
  size : w.heap.size ≤ w'.heap.size
  block : ∀ k, k < w.heap.size → k ≠ b → w'.heap[k]? = w.heap[k]?
theorem Bx.refl (b : Nat) (w : World) : Bx b w w := ⟨rfl, rfl, rfl, Nat.le_refl _, fun _ _ _ => rfl⟩
theorem Bx.trans {b : Nat} {w w1 w2 : World} (h : Bx b w w1) (k : Bx b w1 w2) : Bx b w w2 :=
  ⟨k.os.trans h.os, k.tape.trans h.tape, k.output.trans h.output, Nat.le_trans h.size k.size, fun i hi hb => (k.block i (Nat.lt_of_lt_of_le hi h.size) hb).trans (h.block i hi hb)⟩
theorem Bw.bx {w w' : World} (h : Bw w w') (b : Nat) : Bx b w w' := ⟨Below.os h, Below.tape h, Below.output h, Below.size h, fun k hk _ => Below.block h k hk⟩
theorem Bx.set (b i : Nat) (w : World) (v : Value) : Bx b w (w.setCell ⟨b, i, none⟩ v) := ⟨rfl, rfl, rfl, by simp, fun k hk hb => heap_setCell_other w _ k v hb⟩
theorem Bx.drew (b : Nat) (w : World) : Bx b w w.drew := (Bw.drew w).bx b
theorem Bx.kept {b : Nat} {w w' : World} (h : Bx b w w') : Kept (fun k => k = b) w w' := ⟨h.size, fun k hk hb => h.block k hk hb⟩
/-- What was there ahead of a time stays where the block is newer. -/
theorem Bx.below {b : Nat} {w0 w w' : World} (h : Bx b w w') (h0 : Bw w0 w) (hb : w0.heap.size ≤ b) : Bw w0 w' :=
  ⟨h.os.trans (Below.os h0), h.tape.trans (Below.tape h0), h.output.trans (Below.output h0), Nat.le_trans (Below.size h0) h.size, fun k hk => (h.block k (Nat.lt_of_lt_of_le hk (Below.size h0)) (by omega)).trans (Below.block h0 k hk)⟩
theorem Bx.set_new {b : Nat} {w w' : World} (h : Bx b w w') {g : Nat} (hg : w.heap.size ≤ g) (i : Nat) (v : Value) : Bx b w (w'.setCell ⟨g, i, none⟩ v) :=
  ⟨h.os, h.tape, h.output, by simpa using h.size, fun k hk hb => (heap_setCell_other w' _ k v (by show k ≠ g; omega)).trans (h.block k hk hb)⟩
/-- A slice lies in the blocks from lo to hi, outside of block b. -/
def Inn (lo hi b : Nat) (A : Option Addr) : Prop := ∀ a, A = some a → lo ≤ a.block ∧ a.block < hi ∧ a.block ≠ b
theorem Rd.bx {kd : IntKind} {x : Nat} {w w' : World} {A : Option Addr} {n : Nat} {xs : List Int} (h : Rd kd w A n xs) (hb : Bx x w w') (hx : ∀ a, A = some a → a.block ≠ x) : Rd kd w' A n xs :=
  hb.kept.rd h fun a ha _ => hx a ha
theorem Bs.bx {x : Nat} {w w' : World} {A : Option Addr} {n c : Nat} {xs : List Int} (h : Bs w A n c xs) (hb : Bx x w w') (hx : ∀ a, A = some a → a.block ≠ x) : Bs w' A n c xs :=
  ⟨h.rd.bx hb hx, h.dig_, h.nc, h.c47, h.none_, h.plain⟩
/-- Where the parts of the document's row of draws lie. -/
structure DrD where
  AS : Option Addr
  nS : Nat
  cS : Nat
  AK : Option Addr
  cK : Nat
  AH : Option Addr
  cH : Nat
def DrD.box (d : DrD) (k : Nat) : Array Value := #[.slice d.AS d.nS d.cS, .int .i64 (k : Int), .slice d.AK 64 d.cK, .slice d.AH 8 d.cH]
/-- The document's row of draws, in block b, all of it in the blocks from lo to hi: its seed, its count. -/
structure Dr (w : World) (lo hi b : Nat) (d : DrD) (seed : List Int) (k : Nat) : Prop where
  blo : lo ≤ b
  bhi : b < hi
  top : hi ≤ w.heap.size
  row : w.heap[b]? = some (.cells (d.box k) 39 (0, 0))
  s : Bs w d.AS d.nS d.cS seed
  K : Rd .u32 w d.AK 64 KT
  H : Rd .u32 w d.AH 8 H0.l
  iS : Inn lo hi b d.AS
  iK : Inn lo hi b d.AK
  iH : Inn lo hi b d.AH
section
variable {w w' : World} {lo hi b k : Nat} {d : DrD} {seed : List Int}
theorem Dr.bx {x : Nat} (h : Dr w lo hi b d seed k) (hb : Bx x w w') (hx : x < lo ∨ hi ≤ x) : Dr w' lo hi b d seed k :=
  ⟨h.blo, h.bhi, Nat.le_trans h.top hb.size, (hb.block b (Nat.lt_of_lt_of_le h.bhi h.top) (by have := h.blo; have := h.bhi; omega)).trans h.row,
    h.s.bx hb (fun a ha => by have := h.iS a ha; omega), h.K.bx hb (fun a ha => by have := h.iK a ha; omega), h.H.bx hb (fun a ha => by have := h.iH a ha; omega), h.iS, h.iK, h.iH⟩
theorem Dr.bw (h : Dr w lo hi b d seed k) (hb : Bw w w') : Dr w' lo hi b d seed k :=
  h.bx (hb.bx hi) (.inr (Nat.le_refl _))
theorem Dr.next (h : Dr w lo hi b d seed k) : Dr (w.setCell ⟨b, 1, none⟩ (.int .i64 ((k + 1 : Nat) : Int))) lo hi b d seed (k + 1) :=
  ⟨h.blo, h.bhi, by simpa using h.top, by rw [heap_setCell_same w b 1 _ _ _ h.row]; rfl,
    h.s.bx (Bx.set _ _ _ _) (fun a ha => (h.iS a ha).2.2), h.K.bx (Bx.set _ _ _ _) (fun a ha => (h.iK a ha).2.2), h.H.bx (Bx.set _ _ _ _) (fun a ha => (h.iH a ha).2.2), h.iS, h.iK, h.iH⟩
theorem Dr.lt (h : Dr w lo hi b d seed k) : b < w.heap.size := Nat.lt_of_lt_of_le h.bhi h.top
theorem Dr.cell (h : Dr w lo hi b d seed k) {i : Nat} {v : Value} (hi : (d.box k)[i]? = some v) : w.cell? ⟨b, i, none⟩ = some v := (cell_of_row w b i _ _ _ h.row).trans hi
theorem Dr.frozen (h : Dr w lo hi b d seed k) (i : Nat) : w.frozen? ⟨b, i, none⟩ = false := frozen_of_row w b i _ _ h.row
end
/-! ### Bytes -/
theorem pts_three {w : World} {A1 A2 A3 : Option Addr} {n1 c1 n2 c2 n3 c3 : Nat} {xs ys zs : List Int} (h1 : Bz w A1 n1 xs) (h2 : Bz w A2 n2 ys) (h3 : Bz w A3 n3 zs) :
    Pts (w.alloc (.cells #[.slice A1 n1 c1, .slice A2 n2 c2, .slice A3 n3 c3] 22)) (some ⟨w.heap.size, 0, none⟩) 3 3 [xs, ys, zs] := by
  obtain rfl := h1.rd.len
  obtain rfl := h2.rd.len
  obtain rfl := h3.rd.len
  refine ⟨rfl, Nat.le_refl _, fun _ => ⟨w.heap.size, 0, rfl, by simp, fun j hj => ?_⟩⟩
  rcases (show j = 0 ∨ j = 1 ∨ j = 2 by omega) with rfl | rfl | rfl
  · exact ⟨A1, c1, xs, rfl, by simp [World.cell?_alloc_at], h1.alloc _⟩
  · exact ⟨A2, c2, ys, rfl, by simp [World.cell?_alloc_at], h2.alloc _⟩
  · exact ⟨A3, c3, zs, rfl, by simp [World.cell?_alloc_at], h3.alloc _⟩
theorem drwB_dig : Dig 256 drwB := by unfold Dig drwB; decide
/-- The digest that a draw is made of. -/
def drk (seed : List Int) (k : Nat) : List Int := parts [drwB, seed, be8 (k : Int)]
theorem rparts_b3 {W : World} {AK AH : Option Addr} {cK cH : Nat} {A1 A2 A3 : Option Addr} {n2 c1 c2 c3 : Nat} {seed R : List Int} {k : Nat} (hR : drk seed k = R) (hK : Rd .u32 W AK 64 KT) (hH : Rd .u32 W AH 8 H0.l) (h1 : Bz W A1 4 drwB) (h2 : Bz W A2 n2 seed) (h3 : Bz W A3 8 (be8 (k : Int))) (hn2 : n2 ≤ 1000) {g : Nat} (hg : W.heap.size = g) :
    Calls Tryd.prog 37 #[.agg #[.slice AK 64 cK, .slice AH 8 cH], .slice (some ⟨g, 0, none⟩) 3 3] (W.alloc (.cells #[.slice A1 4 c1, .slice A2 n2 c2, .slice A3 8 c3] 22)) (AnsBy R 32 W) := by
  subst hg hR
  have hlen : (fr [drwB, seed, be8 (k : Int)]).length ≤ 1000000 := by
    rw [show ([drwB, seed, be8 (k : Int)] : List (List Int)) = [drwB] ++ ([seed] ++ [be8 (k : Int)]) from rfl, fr_append, fr_append, fr_one, fr_one, fr_one]
    simp only [List.length_append, be8_len, h1.rd.len, h2.rd.len, h3.rd.len]
    omega
  have hdig : ∀ xs ∈ [drwB, seed, be8 (k : Int)], Dig 256 xs := fun xs hx => by
    rcases List.mem_cons.1 hx with rfl | hx
    · exact drwB_dig
    · rcases List.mem_cons.1 hx with rfl | hx
      · exact h2.dig_
      · obtain rfl := List.mem_singleton.1 hx
        exact h3.dig_
  refine (rparts_any (hK.alloc _) (hH.alloc _) (pts_three h1 h2 h3) hlen (by omega) hdig).mono fun e W' hh => ?_
  obtain ⟨A, c, e, hb, ho, hw⟩ := hh.b (parts_len _) (parts_dig _) (by omega)
  exact ⟨A, c, e, hb, ho.base (by simp), (Bw.alloc W _).trans hw⟩
/-! ### New -/
set_option maxHeartbeats 4000000 in
set_option maxRecDepth 100000 in
theorem r6new_any {A : Option Addr} {n c : Nat} {seed : List Int} {w : World} (hb : Bs w A n c seed) (hn : n ≤ 1000) :
    Calls Tryd.prog 8 #[.slice A n c] w fun e w' => ∃ b d, e = .returned (.pointer (some ⟨b, 0, none⟩)) ∧ Dr w' w.heap.size w'.heap.size b d seed 0 ∧ d.nS = n ∧ Bw w w' := by
  obtain ⟨s, hs⟩ : ∃ s, w.heap.size = s := ⟨_, rfl⟩
  have HS := Lib.hid hs
  have HL := Lib.hid hb.rd.len
  have HDG := Lib.hid hb.dig_
  have HO0 := Lib.hid (own_none_at w 5 .u8 (base := s) hs (Nat.le_refl _))
  have HR0 := Lib.hid (hb.rd.alloc (.cells #[] 5))
  clear hb hs
  go_enter Tryd.func8, Tryd.ntmps8
  go_wp2_with (at_builtin; refine wpList_cat8 _ rfl (.tmp 3) (.tmp 4) 22 rfl s 5 .u8 Tryd.underlying22 info8u _ 0 [] rfl (by rw [HS.out]; exact HO0.out) A n c seed rfl HR0.out (by omega) (by simp; have := HS.out; omega) ?_)
  rintro v1 w1 h1 g1
  have b1 := own_below ((Below.refl s w).alloc (by have := HS.out; omega) _) (by rw [HS.out]; exact HO0.out) g1 (by simp; have := HS.out; omega) (Nat.le_refl _)
  have o1 : Own8 w1 s v1 seed := Own8.app (xs := []) rfl HL.out (by simpa using h1)
  obtain ⟨A1, c1, rfl, bs1⟩ := o1.bs HDG.out (by rw [HL.out]; omega)
  have hnew : ∀ a, A1 = some a → s ≤ a.block ∧ a.block < w1.heap.size := fun a ha => by
    obtain ⟨b0, o0, rfl⟩ := bs1.plain a ha
    subst ha
    exact o1.lt b0 rfl
  rw [HL.out] at bs1 ⊢
  have BS1 := Lib.hid bs1
  have B1 := Lib.hid b1
  have HN := Lib.hid hnew
  have s1 := b1.size
  clear h1 g1 b1 o1 bs1 HO0 HR0 hnew
  go_wp2_with fail
  refine (made_new _).mono ?_
  rintro e w2 ⟨AK, cK, AH, cH, rfl, hK, hH, b2, nK, nH⟩
  have HK := Lib.hid hK
  have HH := Lib.hid hH
  have B2 := Lib.hid b2
  have NK := Lib.hid nK
  have NH := Lib.hid nH
  clear hK hH b2 nK nH
  go_wp2_with fail
  go_ret
  have hS := HS.out
  have s2 := B2.out.size
  obtain ⟨bK, oK, eK, ltK, -⟩ := HK.out.cells (by omega)
  obtain ⟨bH, oH, eH, ltH, -⟩ := HH.out.cells (by omega)
  have b23 : Bw w2 _ := Bw.alloc w2 (.cells #[.slice A1 n c1, .int .i64 0, .slice AK 64 cK, .slice AH 8 cH] 39)
  have hB : Bw w1 w2 := B2.out
  refine ⟨w2.heap.size, ⟨A1, n, c1, AK, cK, AH, cH⟩, rfl, ⟨by omega, by simp, Nat.le_refl _, heap_alloc_new w2 _, (BS1.out.bw hB).bw b23, HK.out.below b23, HH.out.below b23, fun a ha => ?_, fun a ha => ?_, fun a ha => ?_⟩, rfl, ?_⟩
  · have := HN.out a ha; simp; omega
  · have := NK.out a ha
    rw [eK] at ha; injection ha with ha; subst ha
    simp at this ⊢; omega
  · have := NH.out a ha
    rw [eH] at ha; injection ha with ha; subst ha
    simp at this ⊢; omega
  · have h1 := B1.out
    rw [← hS] at h1
    exact (Bw.trans h1 hB).trans b23
end Go.Proofs.YtbffcgnefkkhoaaDoor
