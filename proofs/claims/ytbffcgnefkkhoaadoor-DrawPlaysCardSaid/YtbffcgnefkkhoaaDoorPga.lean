/-
  The program's row of draws in memory, and what New, Count, draw and Bytes answer.
-/
import Derived.Test.YtbffcgnefkkhoaaDoorDr1
import Derived.Test.YtbffcgnefkkhoaaDoorPgl
import Derived.Test.YtbffcgnefkkhoaaDoorPkg
import Derived.Test.YtbffcgnefkkhoaaDoorTab
namespace Go.Proofs.YtbffcgnefkkhoaaDoor
open Go.RowKit
set_option linter.unusedVariables false
/-- Where the parts of the program's row of draws lie. -/
structure PgD where
  AS : Option Addr
  nS : Nat
  cS : Nat
def PgD.box (d : PgD) (k : Nat) : Array Value := #[.slice d.AS d.nS d.cS, .int .u64 (k : Int)]
/-- The program's row of draws, in block b, all of it in the blocks from lo to hi: its seed, its count. -/
structure Pg (w : World) (lo hi b : Nat) (d : PgD) (seed : List Int) (k : Nat) : Prop where
  blo : lo ≤ b
  bhi : b < hi
  top : hi ≤ w.heap.size
  row : w.heap[b]? = some (.cells (d.box k) 66 (0, 0))
  s : Bs w d.AS d.nS d.cS seed
  iS : Inn lo hi b d.AS
  sS : d.nS ≤ 1000
  gl : 0 < lo ∧ 1 < lo
section
variable {w w' : World} {lo hi b k : Nat} {d : PgD} {seed : List Int}
theorem Pg.bx {x : Nat} (h : Pg w lo hi b d seed k) (hb : Bx x w w') (hx : x < lo ∨ hi ≤ x) : Pg w' lo hi b d seed k :=
  ⟨h.blo, h.bhi, Nat.le_trans h.top hb.size, (hb.block b (Nat.lt_of_lt_of_le h.bhi h.top) (by have := h.blo; have := h.bhi; omega)).trans h.row,
    h.s.bx hb (fun a ha => by have := h.iS a ha; omega), h.iS, h.sS, h.gl⟩
theorem Pg.bw (h : Pg w lo hi b d seed k) (hb : Bw w w') : Pg w' lo hi b d seed k := h.bx (hb.bx hi) (.inr (Nat.le_refl _))
theorem Pg.lt (h : Pg w lo hi b d seed k) : b < w.heap.size := Nat.lt_of_lt_of_le h.bhi h.top
theorem Pg.next (h : Pg w lo hi b d seed k) : Pg (w.setCell ⟨b, 1, none⟩ (.int .u64 ((k + 1 : Nat) : Int))) lo hi b d seed (k + 1) :=
  ⟨h.blo, h.bhi, by simpa using h.top, by rw [heap_setCell_same w b 1 _ _ _ h.row]; rfl,
    h.s.bx (Bx.set _ _ _ _) (fun a ha => (h.iS a ha).2.2), h.iS, h.sS, h.gl⟩
theorem Pg.tabs (h : Pg w lo hi b d seed k) (hT : Tabs w) (hb : Bx b w w') : Tabs w' := by
  obtain ⟨⟨t, h1⟩, ⟨u, h2⟩⟩ := hT
  have hl := h.blo
  have hg := h.gl
  exact ⟨⟨t, (hb.block _ (Array.getElem?_eq_some_iff.1 h1).1 (by omega)).trans h1⟩, ⟨u, (hb.block _ (Array.getElem?_eq_some_iff.1 h2).1 (by omega)).trans h2⟩⟩
theorem Pg.cell (h : Pg w lo hi b d seed k) {i : Nat} {v : Value} (hi : (d.box k)[i]? = some v) : w.cell? ⟨b, i, none⟩ = some v := (cell_of_row w b i _ _ _ h.row).trans hi
theorem Pg.frozen (h : Pg w lo hi b d seed k) (i : Nat) : w.frozen? ⟨b, i, none⟩ = false := frozen_of_row w b i _ _ h.row
end
theorem be8_bytes (k : Nat) : be8 (k : Int) = bytesL (k : Int) 8 := rfl
theorem pparts_b3 {W : World} {A1 A2 A3 : Option Addr} {n2 c1 c2 c3 : Nat} {seed R : List Int} {k : Nat} (hR : drk seed k = R) (hT : Tabs W) (h1 : Bz W A1 4 drwB) (h2 : Bz W A2 n2 seed) (h3 : Bz W A3 8 (be8 (k : Int))) (hn2 : n2 ≤ 1000) {g : Nat} (hg : W.heap.size = g) :
    Calls Tryd.prog 49 #[.slice (some ⟨g, 0, none⟩) 3 3] (W.alloc (.cells #[.slice A1 4 c1, .slice A2 n2 c2, .slice A3 8 c3] 22)) (AnsBy R 32 W) := by
  subst hg hR
  have hlen : (fr [drwB, seed, be8 (k : Int)]).length ≤ 1000000 := by
    rw [show ([drwB, seed, be8 (k : Int)] : List (List Int)) = [drwB] ++ ([seed] ++ [be8 (k : Int)]) from rfl, fr_append, fr_append, fr_one, fr_one, fr_one]
    simp only [List.length_append, be8_len, h1.rd.len, h2.rd.len, h3.rd.len]
    omega
  have hdig : ∀ xs ∈ [drwB, seed, be8 (k : Int)], Dig 256 xs := fun xs hx => by
    rcases List.mem_cons.1 hx with rfl | hx
    · exact drwB_dig
    · rcases List.mem_cons.1 hx with rfl | hx
      · exact h2.dig_
      · obtain rfl := List.mem_singleton.1 hx
        exact h3.dig_
  refine (parts_any (hT.bw (Bw.alloc _ _)) (pts_three h1 h2 h3) (by omega) (by omega) hdig).mono fun e W' hh => ?_
  obtain ⟨A, c, e, hb, ho, hw⟩ := AnsOb.b (parts_len _) (parts_dig _) (by omega) hh
  exact ⟨A, c, e, hb, own_base ho (by simp), (Bw.alloc W _).trans hw⟩
/-- What Stream answers. -/
def StmP (bs : List Int) (n : Nat) (W : World) (e : Ending) (W' : World) : Prop := ∃ A c, e = .returned (.tuple #[.slice A n c, .nilIface]) ∧ Bs W' A n c bs ∧ (∀ a, A = some a → W.heap.size ≤ a.block) ∧ Bw W W'
theorem pstream_b {W : World} {A : Option Addr} {c n : Nat} {key R : List Int} (hR : stream key n = R) (hT : Tabs W) (hk : Bs W A 32 c key) (hn : n ≤ 10000) :
    Calls Tryd.prog 48 #[.slice A 32 c, .int .i64 n] W (StmP R n W) := by
  subst hR
  refine (stream_any hT hk n (by omega) (by omega)).mono fun e W' hh => ?_
  obtain ⟨v, rfl, ho, hw⟩ := hh
  obtain ⟨A1, c1, rfl, hbs⟩ := ho.bs (fun x hx => strm_dig _ _ x (List.mem_of_mem_take hx)) (by rw [stream_len]; omega)
  rw [stream_len] at hbs ⊢
  exact ⟨A1, c1, rfl, hbs, fun a ha => by
    obtain ⟨b0, o0, rfl⟩ := hbs.plain a ha
    subst ha
    exact (ho.lt b0 rfl).1, hw⟩
section
variable {w : World} {lo hi b k : Nat} {d : PgD} {seed : List Int} {A : Option Addr} {n c : Nat}
/-! ### New -/
set_option maxHeartbeats 4000000 in
theorem p6new (hT : Tabs w) (hb : Bs w A n c seed) (hn : n ≤ 1000) :
    Calls Tryd.prog 7 #[.slice A n c] w fun e w' => ∃ b d, e = .returned (.pointer (some ⟨b, 0, none⟩)) ∧ Pg w' w.heap.size w'.heap.size b d seed 0 ∧ Bw w w' := by
  have HB := Lib.hid hb
  have hgl : 0 < w.heap.size ∧ 1 < w.heap.size := by
    obtain ⟨t, h1⟩ := hT.start
    exact ⟨(Array.getElem?_eq_some_iff.1 h1).1, hT.lt⟩
  clear hb
  go_enter Tryd.func7, Tryd.ntmps7
  go_wp2_with fail
  refine (clone_any HB.out).mono ?_
  rintro e w1 ⟨A1, c1, rfl, hm, hbs, hbw⟩
  have HM := Lib.hid hm
  have HS := Lib.hid hbs
  have HW := Lib.hid hbw
  clear hm hbs hbw
  go_wp2_with fail
  go_ret
  have hs := Below.size (show Below w.heap.size w w1 from HW.out)
  have b12 : Bw w1 _ := Bw.alloc w1 (.cells #[.slice A1 n c1, .int .u64 0] 66)
  refine ⟨w1.heap.size, ⟨A1, n, c1⟩, rfl, ⟨hs, by simp, Nat.le_refl _, heap_alloc_new w1 _, HS.out.bw b12, fun a ha => ?_, hn, hgl⟩, HW.out.trans b12⟩
  have h1 := HM.out.new a ha
  have h2 := HM.out.lt a ha
  simp; omega
/-! ### Count -/
theorem p6count (h : Pg w lo hi b d seed k) (hk : k ≤ 1000000000 := by omega) :
    Calls Tryd.prog 10 #[.pointer (some ⟨b, 0, none⟩)] w fun e w' => e = .returned (.int .i64 (k : Int)) ∧ w = w' := by
  have hbl := h.lt
  have hc1 : w.cell? ⟨b, 1, none⟩ = some (.int .u64 (k : Int)) := h.cell rfl
  have e1 : IntKind.i64.wrap (k : Int) = (k : Int) := IntWalk.i64_in _ (by omega)
  clear h
  go_enter Tryd.func10, Tryd.ntmps10
  go_wp2_with fail
  go_ret
  exact ⟨rfl, rfl⟩
/-! ### A draw -/
theorem one_nm (w : World) {x : Int} (h0 : 0 ≤ x) (h1 : x < W) : Nm (w.alloc (.cells #[.int .u64 x] 61)) (some ⟨w.heap.size, 0, none⟩) 1 1 x :=
  Nm.one (Row.new w 61 .u64 [x]) h0 h1 (by omega) (by omega)
theorem nb_64 {k : Nat} (h : k ≤ 1000000000) : nb (k : Int) ≤ 8 * 8 :=
  dg_len_le (b := 2) (k := 64) (by decide) (by omega) (by have : (2 : Int) ^ 64 = 18446744073709551616 := by decide
                                                          omega)
/-- The counter as a slice of bytes. -/
theorem count_bytes (w : World) {k : Nat} (hk : k ≤ 1000000000) :
    Calls Tryd.prog 47 #[.slice (some ⟨w.heap.size, 0, none⟩) 1 1, .int .i64 8] (w.alloc (.cells #[.int .u64 (k : Int)] 61)) fun e w' => ∃ A c, e = .returned (.tuple #[.slice A 8 c, .nilIface]) ∧ Bz w' A 8 (be8 (k : Int)) ∧ Bw w w' := by
  refine (bytes_any (one_nm w (x := (k : Int)) (by omega) (by unfold W; omega)) 8 (by omega) (nb_64 hk)).mono fun e w' hh => ?_
  obtain ⟨rfl, hrow, hb⟩ := hh
  exact ⟨_, _, rfl, ⟨hrow.rd (be8_len _) (fun j y hy => by rwa [Nat.zero_add]), be8_dig _⟩, (Bw.alloc w _).trans hb⟩
/-- What a draw answers. -/
def DrwP (lo hi b : Nat) (d : PgD) (seed : List Int) (k m : Nat) (w : World) (e : Ending) (w' : World) : Prop := ∃ A c, e = .returned (.slice A m c) ∧ Bs w' A m c (drw seed k m) ∧ (∀ a, A = some a → w.heap.size ≤ a.block) ∧ Pg w' lo hi b d seed (k + 1) ∧ Bx b w w'
set_option maxHeartbeats 8000000 in
set_option maxRecDepth 100000 in
theorem draw_any (hT : Tabs w) (h : Pg w lo hi b d seed k) (hk : k ≤ 1000000000) (m : Nat) (hm : m ≤ 4096) :
    Calls Tryd.prog 32 #[.pointer (some ⟨b, 0, none⟩), .int .i64 m] w (DrwP lo hi b d seed k m w) := by
  have HD := Lib.hid h
  have HT := Lib.hid hT
  have hbl := h.lt
  have hc1 : w.cell? ⟨b, 1, none⟩ = some (.int .u64 (k : Int)) := h.cell rfl
  have hc0 : w.cell? ⟨b, 0, none⟩ = some (.slice d.AS d.nS d.cS) := h.cell rfl
  clear h hT
  go_enter Tryd.func32, Tryd.ntmps32
  go_wp2_with fail
  refine (count_bytes w hk).mono ?_
  rintro e w1 ⟨AC, cC, rfl, hcz, hb1⟩
  have HC := Lib.hid hcz
  have HB1 := Lib.hid hb1
  have HD1 := Lib.hid (HD.out.bw hb1)
  have HT1 := Lib.hid (HT.out.bw hb1)
  clear hcz hb1
  have hWl : Bw w1 (w1.alloc (.cells #[.int .u8 100, .int .u8 114, .int .u8 97, .int .u8 119] 5 (4, 5))) := Bw.alloc _ _
  have cv : (convert 22 22 (.slice (some ⟨w1.heap.size, 0, none⟩) 4 4)).run Tryd.prog (w1.alloc (.cells #[.int .u8 100, .int .u8 114, .int .u8 97, .int .u8 119] 5)) = .ok (.slice (some ⟨w1.heap.size, 0, none⟩) 4 4) (w1.alloc (.cells #[.int .u8 100, .int .u8 114, .int .u8 97, .int .u8 119] 5 (4, 5))) :=
    Joins.run_convert_bytes_const_at w1 _ _ _ 4 4 w1.heap.size rfl Tryd.underlying22 Tryd.underlying5
  have hl0 := Lib.hid (bz_draw w1)
  have hgl : (w1.alloc (.cells #[.int .u8 100, .int .u8 114, .int .u8 97, .int .u8 119] 5 (4, 5))).heap.size = w1.heap.size + 1 := by simp
  have kD : (w1.alloc (.cells #[.int .u8 100, .int .u8 114, .int .u8 97, .int .u8 119] 5 (4, 5))).cell? ⟨b, 0, none⟩ = some (.slice d.AS d.nS d.cS) := (HD1.out.bw hWl).cell rfl
  have hDl := Lib.hid (HD1.out.bw hWl)
  have hTl := Lib.hid (HT1.out.bw hWl)
  have hCl := Lib.hid (HC.out.bw_ hWl)
  have hbl1 := HD1.out.lt
  obtain ⟨W, hW⟩ : ∃ W, w1.alloc (.cells #[.int .u8 100, .int .u8 114, .int .u8 97, .int .u8 119] 5 (4, 5)) = W := ⟨_, rfl⟩
  rw [hW] at hWl cv hl0 hgl kD hDl hTl hCl
  have HGL := Lib.hid hgl
  have HWL := Lib.hid hWl
  clear hW hgl hWl hc0 hc1
  obtain ⟨R, hR⟩ : ∃ R, drk seed k = R := ⟨_, rfl⟩
  have HR := Lib.hid hR
  have HST := Lib.hid (show stream R m = drw seed k m by rw [← hR]; rfl)
  clear hR
  go_wp2_with fail
  refine (pparts_b3 HR.out hTl.out hl0.out hDl.out.s.bz hCl.out hDl.out.sS rfl).mono ?_
  rintro e w2 ⟨A2, c2, rfl, hb2, -, hw2⟩
  have HB2 := Lib.hid hb2
  have HW2 := Lib.hid hw2
  have HD2 := Lib.hid (hDl.out.bw hw2)
  have HT2 := Lib.hid (hTl.out.bw hw2)
  clear hb2 hw2 cv kD
  go_wp2_with fail
  refine (pstream_b HST.out HT2.out HB2.out (by omega)).mono ?_
  rintro e w3 ⟨A3, c3, rfl, hb3, hn3, hw3⟩
  have hd3 := HD2.out.bw hw3
  have hc3 : w3.cell? ⟨b, 1, none⟩ = some (.int .u64 (k : Int)) := hd3.cell rfl
  have hf3 := hd3.frozen 1
  have hs3 := Below.size (show Below w.heap.size w w3 from ((HB1.out.trans HWL.out).trans HW2.out).trans hw3)
  have hs2 := Below.size (show Below w.heap.size w w2 from (HB1.out.trans HWL.out).trans HW2.out)
  have e1 : IntKind.u64.wrap ((k : Int) + 1) = ((k + 1 : Nat) : Int) := by rw [IntKind.wrap_u64]; omega
  have HD3 := Lib.hid hd3
  have HB3 := Lib.hid hb3
  have HN3 := Lib.hid hn3
  have HW3 := Lib.hid (((HB1.out.trans HWL.out).trans HW2.out).trans hw3)
  clear hd3 hb3 hn3 hw3
  go_wp2_with fail
  go_ret
  have hx : Bx b w3 _ := Bx.set b 1 w3 (.int .u64 ((k + 1 : Nat) : Int))
  refine ⟨A3, c3, rfl, HB3.out.bx hx (fun a ha => ?_), fun a ha => ?_, HD3.out.next, (HW3.out.bx b).trans hx⟩
  · have := HN3.out a ha; omega
  · have := HN3.out a ha; omega
end
end Go.Proofs.YtbffcgnefkkhoaaDoor
