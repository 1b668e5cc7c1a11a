/-
  The document's way of writing: what Message answers.
-/
import Derived.Test.YtcnekfpgoceblaaPck
import Derived.Test.YtcnekfpgoceblaaMxx
import Derived.Deep.RegionLaw
namespace Go.Proofs.Ytcnekfpgoceblaa
open Go.RowKit
set_option linter.unusedVariables false
/-- What Message answers. -/
def OmP (s : OuS) (w : World) (e : Ending) (w' : World) : Prop :=
  (s.bad = 0 ∧ ∃ v, e = .returned (.tuple #[v, .int .i64 0]) ∧ Own8 w' w.heap.size v s.b ∧ Below w.heap.size w w') ∨ (s.bad ≠ 0 ∧ e = .returned (.tuple #[.slice none 0 0, .int .i64 s.bad]) ∧ Below w.heap.size w w')
def ObR (s : OuS) (B : Nat → Lsl) (n o : Nat) (w : World) (i wr2 : Value) (wr : World) : Prop := ∃ (j : Nat) (v : Value), i = .int .i64 j ∧ j ≤ n ∧ Ot wr o v (batO s B j) ∧ Below o w wr
def OlR (s : OuS) (S : Nat → Stp) (n o : Nat) (w : World) (i : Value) (wr : World) : Prop := ∃ (j : Nat) (v : Value), i = .int .i64 j ∧ j ≤ n ∧ Ot wr o v (letO s S j) ∧ Below o w wr
def OpR (s : OuS) (B : Nat → Psl) (n o : Nat) (w : World) (i wr2 : Value) (wr : World) : Prop := ∃ (j : Nat) (v : Value), i = .int .i64 j ∧ j ≤ n ∧ Ot wr o v (pbaO s B j) ∧ Below o w wr
def OqR (s : OuS) (S : Nat → Pf2) (n o : Nat) (w : World) (i : Value) (wr : World) : Prop := ∃ (j : Nat) (v : Value), i = .int .i64 j ∧ j ≤ n ∧ Ot wr o v (pflO s S j) ∧ Below o w wr
def OxT (s : OuS) (T : Nat → Txt) (n o : Nat) (w : World) (i : Value) (wr : World) : Prop := ∃ (j : Nat) (v : Value), i = .int .i64 j ∧ j ≤ n ∧ Ot wr o v (txtO s T j) ∧ Below o w wr
/-- A slice more, where nothing was made ahead. -/
theorem Ot.app2 {w w2 : World} {o : Nat} {v v' : Value} {s : OuS} {l : List Int} {m : Nat} (h : Ot w o v s) (hm : s.b.length + l.length = m) (h2 : w2.ownsRow (o + 1) 5 1 v' m ((s.b ++ l).map (Value.int .u8))) (hg : w.drew.grownBy w2 v.ownBlock) :
    w2.cell? ⟨o, 0, none⟩ = some v ∧ w2.frozen? ⟨o, 0, none⟩ = false ∧ w2.heap[o]? = some (.cells #[v, .int .i64 s.bad] 69 (0, 0)) ∧ Below o w (w2.setCell ⟨o, 0, none⟩ v') ∧ Ot (w2.setCell ⟨o, 0, none⟩ v') o v' (s.put l) := by
  have hlt := h.lt
  have hne : some o ≠ v.ownBlock := fun e => by
    have := (h.own.lt o e.symm).1
    omega
  have hr : w2.heap[o]? = some (.cells #[v, .int .i64 s.bad] 69 (0, 0)) := (hg.block o hlt hne).trans h.row
  refine ⟨cell_of_row w2 o 0 _ _ _ hr, frozen_of_row w2 o 0 _ _ hr, hr, ?_, heap_setCell_same w2 o 0 _ _ _ hr, ?_⟩
  · refine Below.setCell ?_ (Nat.le_refl o) _
    exact own_below (base := o + 1) (w := w.drew) (Below.refl _ _).drew h.own hg (Nat.le_of_lt hlt) (Nat.le_succ o)
  · show World.ownsRow _ (o + 1) 5 1 v' (s.b ++ l).length _
    rw [List.length_append, hm]
    exact ownsRow_setCell_below h2 (Nat.lt_succ_self o) _
theorem Nm.blkO {w : World} {A : Option Addr} {n c : Nat} {N : Int} (h : Nm w A n c N) (hn : 0 < n) : ∀ a, A = some a → a.block < w.heap.size := fun a ha => by
  obtain ⟨xs, h1, -, -⟩ := h.ex
  obtain ⟨b, off, e, hb, -⟩ := h1.cells hn
  rw [e] at ha; injection ha with ha; subst ha; exact hb
theorem box12 (w : World) (x0 x1 x2 x3 x4 x5 x6 x7 x8 x9 x10 x11 : Value) (t : TypeId) (i : Nat) (y : Value) (h : (#[x0, x1, x2, x3, x4, x5, x6, x7, x8, x9, x10, x11] : Array Value)[i]? = some y) : (w.alloc (.cells #[x0, x1, x2, x3, x4, x5, x6, x7, x8, x9, x10, x11] t)).cell? ⟨w.heap.size, i, none⟩ = some y := by
  rw [World.cell?_alloc_at _ _ _ _ rfl]
  exact h
set_option maxHeartbeats 32000000 in
set_option maxRecDepth 100000 in
theorem romsg_any {w : World} {m : Mgd} (hM : Mg w m) (hb : m.nb ≤ 1000) (hB : ∀ i, i < m.nb → (m.B i).n ≤ 3000) (hp : m.np ≤ 1000) (hP : ∀ i, i < m.np → (m.P i).n ≤ 3000) (ht : m.nt ≤ 1000) (hT : ∀ i, i < m.nt → (m.T i).xs.length ≤ 1073741824) :
    Calls Try.prog 12 #[.agg #[.int .i64 m.k, .int .i64 m.g, .int .i64 m.l, .int .i64 m.p, .int .i64 m.s, .int .i64 m.u, .bool m.ok, .slice m.Ab m.nb m.cb, .slice m.Ap m.np m.cp, .slice m.At m.nt m.ct, .int .i64 m.i, .slice m.Av m.nv m.cv]] w (OmP ((msgO m).done 1048576) w) := by
  have HB := Lib.hid hB
  have HP := Lib.hid hP
  have HT := Lib.hid hT
  have LM0 := Lib.hid (msg0_len m)
  obtain ⟨w0, hw0⟩ : ∃ w0, w.alloc (.cells #[.int .i64 m.k, .int .i64 m.g, .int .i64 m.l, .int .i64 m.p, .int .i64 m.s, .int .i64 m.u, .bool m.ok, .slice m.Ab m.nb m.cb, .slice m.Ap m.np m.cp, .slice m.At m.nt m.ct, .int .i64 m.i, .slice m.Av m.nv m.cv] 30) = w0 := ⟨_, rfl⟩
  have s0 : w.heap.size < w0.heap.size := by rw [← hw0]; simp
  have bx := fun i y h => box12 w (.int .i64 m.k) (.int .i64 m.g) (.int .i64 m.l) (.int .i64 m.p) (.int .i64 m.s) (.int .i64 m.u) (.bool m.ok) (.slice m.Ab m.nb m.cb) (.slice m.Ap m.np m.cp) (.slice m.At m.nt m.ct) (.int .i64 m.i) (.slice m.Av m.nv m.cv) 30 i y h
  have b0 : Below w.heap.size w w0 := by rw [← hw0]; exact (Below.refl _ _).alloc (Nat.le_refl _) _
  rw [hw0] at bx
  obtain ⟨w1, hw1⟩ : ∃ w1, w0.alloc (.cells #[.slice none 0 0, .int .i64 0] 69) = w1 := ⟨_, rfl⟩
  have b1 : Below w0.heap.size w0 w1 := by rw [← hw1]; exact (Below.refl _ _).alloc (Nat.le_refl _) _
  have OT0 := Lib.hid (show Ot w1 w0.heap.size (.slice none 0 0) ⟨[], 0⟩ from ⟨by rw [← hw1]; exact heap_alloc_new w0 _, ⟨rfl, .inl ⟨rfl, rfl⟩⟩⟩)
  have HO := Lib.hid (show w.heap.size < w0.heap.size by omega)
  have KX := Lib.hid (show ∀ W, Below w0.heap.size w1 W → ∀ i y, (#[.int .i64 m.k, .int .i64 m.g, .int .i64 m.l, .int .i64 m.p, .int .i64 m.s, .int .i64 m.u, .bool m.ok, .slice m.Ab m.nb m.cb, .slice m.Ap m.np m.cp, .slice m.At m.nt m.ct, .int .i64 m.i, .slice m.Av m.nv m.cv] : Array Value)[i]? = some y → W.cell? ⟨w.heap.size, i, none⟩ = some y from fun W hW i y h =>
    (World.cell?_of_block ((hW.block _ (by show w.heap.size < w0.heap.size; omega)).trans (b1.block _ (by omega)))).trans (bx i y h))
  have KM := Lib.hid (show ∀ W, Below w0.heap.size w1 W → Mg W m from fun W hW => hM.below (b0.trans ((b1.mono (Nat.le_of_lt s0)).trans (hW.mono (by omega)))))
  have KB := Lib.hid (show ∀ W, Below w0.heap.size w1 W → Below w.heap.size w W from fun W hW => b0.trans ((b1.mono (Nat.le_of_lt s0)).trans (hW.mono (by omega))))
  have MG := Lib.hid hM
  have y0 := KX.out w1 (Below.refl _ _) 0 _ rfl
  have HBL0 := Lib.hid (Below.refl w0.heap.size w1)
  have L0 := Lib.hid (show (⟨[], 0⟩ : OuS).b.length ≤ 0 from Nat.le_refl 0)
  clear hB hP hT bx b0 b1 hM
  go_enter Try.func12, Try.ntmps12
  go_wp2_with fail
  clear hw0 hw1
  refine (ocnt_any OT0.out (Nat.le_trans L0.out (by decide)) m.k).mono ?_
  rintro e u1 ⟨rfl, ⟨v1, ot⟩, bb⟩
  have OT1 := Lib.hid ot
  have HBL1 := Lib.hid (HBL0.out.trans bb)
  have L1 := Lib.hid (show (((⟨[], 0⟩ : OuS)).cnt m.k).b.length ≤ 9 by have h := OuS.cnt_len ((⟨[], 0⟩ : OuS)) m.k; have h0 : (⟨[], 0⟩ : OuS).b.length = 0 := rfl; omega)
  have y1 := KX.out u1 HBL1.out 1 _ rfl
  clear ot bb y0 OT0
  go_wp2_with fail
  refine (ocnt_any OT1.out (Nat.le_trans L1.out (by decide)) m.g).mono ?_
  rintro e u2 ⟨rfl, ⟨v2, ot⟩, bb⟩
  have OT2 := Lib.hid ot
  have HBL2 := Lib.hid (HBL1.out.trans bb)
  have L2 := Lib.hid (show ((((⟨[], 0⟩ : OuS)).cnt m.k).cnt m.g).b.length ≤ 18 by have h := OuS.cnt_len (((⟨[], 0⟩ : OuS)).cnt m.k) m.g; have h0 := L1.out; omega)
  have y2 := KX.out u2 HBL2.out 2 _ rfl
  clear ot bb y1 OT1
  go_wp2_with fail
  refine (ocnt_any OT2.out (Nat.le_trans L2.out (by decide)) m.l).mono ?_
  rintro e u3 ⟨rfl, ⟨v3, ot⟩, bb⟩
  have OT3 := Lib.hid ot
  have HBL3 := Lib.hid (HBL2.out.trans bb)
  have L3 := Lib.hid (show (((((⟨[], 0⟩ : OuS)).cnt m.k).cnt m.g).cnt m.l).b.length ≤ 27 by have h := OuS.cnt_len ((((⟨[], 0⟩ : OuS)).cnt m.k).cnt m.g) m.l; have h0 := L2.out; omega)
  have y3 := KX.out u3 HBL3.out 3 _ rfl
  clear ot bb y2 OT2
  go_wp2_with fail
  refine (ocnt_any OT3.out (Nat.le_trans L3.out (by decide)) m.p).mono ?_
  rintro e u4 ⟨rfl, ⟨v4, ot⟩, bb⟩
  have OT4 := Lib.hid ot
  have HBL4 := Lib.hid (HBL3.out.trans bb)
  have L4 := Lib.hid (show ((((((⟨[], 0⟩ : OuS)).cnt m.k).cnt m.g).cnt m.l).cnt m.p).b.length ≤ 36 by have h := OuS.cnt_len (((((⟨[], 0⟩ : OuS)).cnt m.k).cnt m.g).cnt m.l) m.p; have h0 := L3.out; omega)
  have y4 := KX.out u4 HBL4.out 4 _ rfl
  clear ot bb y3 OT3
  go_wp2_with fail
  refine (ocnt_any OT4.out (Nat.le_trans L4.out (by decide)) m.s).mono ?_
  rintro e u5 ⟨rfl, ⟨v5, ot⟩, bb⟩
  have OT5 := Lib.hid ot
  have HBL5 := Lib.hid (HBL4.out.trans bb)
  have L5 := Lib.hid (show (((((((⟨[], 0⟩ : OuS)).cnt m.k).cnt m.g).cnt m.l).cnt m.p).cnt m.s).b.length ≤ 45 by have h := OuS.cnt_len ((((((⟨[], 0⟩ : OuS)).cnt m.k).cnt m.g).cnt m.l).cnt m.p) m.s; have h0 := L4.out; omega)
  have y5 := KX.out u5 HBL5.out 5 _ rfl
  clear ot bb y4 OT4
  go_wp2_with fail
  refine (ocnt_any OT5.out (Nat.le_trans L5.out (by decide)) m.u).mono ?_
  rintro e u6 ⟨rfl, ⟨v6, ot⟩, bb⟩
  have OT6 := Lib.hid ot
  have HBL6 := Lib.hid (HBL5.out.trans bb)
  have L6 := Lib.hid (show ((((((((⟨[], 0⟩ : OuS)).cnt m.k).cnt m.g).cnt m.l).cnt m.p).cnt m.s).cnt m.u).b.length ≤ 54 by have h := OuS.cnt_len (((((((⟨[], 0⟩ : OuS)).cnt m.k).cnt m.g).cnt m.l).cnt m.p).cnt m.s) m.u; have h0 := L5.out; omega)
  have y6 := KX.out u6 HBL6.out 6 _ rfl
  clear ot bb y5 OT5
  go_wp2_with fail
  refine (otruth_any OT6.out (Nat.le_trans L6.out (by decide)) m.ok).mono ?_
  rintro e u7 ⟨rfl, ⟨v7, ot⟩, bb⟩
  have OT7 := Lib.hid ot
  have HBL7 := Lib.hid (HBL6.out.trans bb)
  have L7 := Lib.hid (show (((((((((⟨[], 0⟩ : OuS)).cnt m.k).cnt m.g).cnt m.l).cnt m.p).cnt m.s).cnt m.u).tru m.ok).b.length ≤ 55 by rw [tru_len]; have h0 := L6.out; omega)
  have y7 := KX.out u7 HBL7.out 7 _ rfl
  clear ot bb y6 OT6
  go_wp2_with fail
  refine (ocnt_any OT7.out (Nat.le_trans L7.out (by decide)) (m.nb : Int)).mono ?_
  rintro e u8 ⟨rfl, ⟨v8, ot⟩, bb⟩
  have OT8 := Lib.hid (show Ot u8 w0.heap.size v8 (msg0 m) from ot)
  have HBL8 := Lib.hid (HBL7.out.trans bb)
  clear ot bb y7 OT7
  go_wp2_with fail

  go_loopw [5, 6] (fun i kk wr => ObR (msg0 m) m.B m.nb w0.heap.size w1 i kk wr) (fun i _ _ => m.nb - (intOf i).toNat)
  case atStart => exact ⟨0, v8, rfl, Nat.zero_le _, OT8.out, HBL8.out⟩
  case round =>
    obtain ⟨j, u, rfl, hj, hot, hbl⟩ := hrel
    have OTJ := Lib.hid hot
    have HBJ := Lib.hid hbl
    have x7 := KX.out wr hbl 7 _ rfl
    clear hot hbl
    rcases Nat.lt_or_ge j m.nb with hlt | hge
    · have hji : (j : Int) < (m.nb : Int) := by omega
      have LJ := Lib.hid (show (batO (msg0 m) m.B j).b.length ≤ 4689009100 from by have h1 := batO_len (msg0 m) m.B j (fun i hi => HB.out i (by omega)); have h2 := LM0.out; omega)
      have hbt := MG.out.b
      obtain ⟨bb, ob, eA, hbb, hcb⟩ := hbt.ex (by omega)
      have K7 := Lib.hid (show ∀ W, Below w0.heap.size w1 W → W.cell? ⟨w.heap.size, 7, none⟩ = some (.slice (some ⟨bb, ob, none⟩) m.nb m.cb) from fun W hW => by rw [← eA]; exact KX.out W hW 7 _ rfl)
      obtain ⟨lj, hlj⟩ : ∃ l, m.B j = l := ⟨_, rfl⟩
      have hcj := hcb j hlt
      have hch := hbt.at_ j hlt
      have hnn := HB.out j hlt
      rw [hlj] at hcj hch hnn
      obtain ⟨A, n, c, S⟩ := lj
      simp only at hcj hch hnn
      have HLJ := Lib.hid hlj
      have KC := Lib.hid (show ∀ W, Below w0.heap.size w1 W → W.cell? ⟨bb, ob + j, none⟩ = some (.slice A n c) from fun W hW => ((KB.out W hW).cell (p := ⟨bb, ob + j, none⟩) hbb).trans hcj)
      have HCH := Lib.hid hch
      have n60 := hch.c60
      clear x7 hbt hcb hcj hch hlj eA
      have x7 := K7.out wr HBJ.out
      have cB := KC.out wr HBJ.out
      obtain ⟨wl, hwl⟩ : ∃ wl, wl = wr := ⟨_, rfl⟩
      subst hwl
      go_wp2_with fail
      refine (ocnt_any OTJ.out (Nat.le_trans LJ.out (by decide)) (n : Int)).mono ?_
      rintro e W2 ⟨rfl, ⟨v2, ot⟩, b2⟩
      have OT2 := Lib.hid ot
      have HB2 := Lib.hid (HBJ.out.trans b2)
      have L2 := Lib.hid (show ((batO (msg0 m) m.B j).cnt (n : Int)).b.length ≤ 4689009100 + 9 from by have h1 := OuS.cnt_len (batO (msg0 m) m.B j) (n : Int); have h2 := LJ.out; omega)
      clear ot b2 x7 cB
      go_wp2_with fail
      go_loopw [6] (fun i wr => OlR ((batO (msg0 m) m.B j).cnt (n : Int)) S n w0.heap.size w1 i wr) (fun i _ => n - (intOf i).toNat)
      case atStart => exact ⟨0, v2, rfl, Nat.zero_le _, OT2.out, HB2.out⟩
      case round =>
        obtain ⟨q, u2, rfl, hq, hot2, hbl2⟩ := hrel
        have OTQ := Lib.hid hot2
        have HBQ := Lib.hid hbl2
        have x7 := K7.out wr hbl2
        have cB := KC.out wr hbl2
        clear hot2 hbl2
        rcases Nat.lt_or_ge q n with hlq | hgq
        · have hqi : (q : Int) < (n : Int) := by omega
          have LQ := Lib.hid (show (letO ((batO (msg0 m) m.B j).cnt (n : Int)) S q).b.length ≤ 4689009100 + 5000000 from by have h1 := letO_len ((batO (msg0 m) m.B j).cnt (n : Int)) S q; have h2 := L2.out; omega)
          obtain ⟨bq, oq, rfl, hbq, hcq⟩ := HCH.out.ex (by omega)
          have hsq := hcq q hlq
          have hat := HCH.out.at_ q hlq
          obtain ⟨sq, hsqe⟩ : ∃ s, S q = s := ⟨_, rfl⟩
          have HSQ := Lib.hid hsqe
          rw [hsqe] at hsq hat
          clear hcq hsqe
          obtain ⟨A1, n1, c1, A2, n2, c2, A3, n3, c3, N1, N2, N3⟩ := sq
          obtain ⟨d1, d2, d3⟩ := hsq
          obtain ⟨e1, e2, e3⟩ := hat
          simp only at d1 d2 d3 e1 e2 e3
          have KD1 := Lib.hid (show ∀ W, Below w0.heap.size w1 W → W.cell? ⟨bq, oq + q * 3, none⟩ = some (.slice A1 n1 c1) from fun W hW => ((KB.out W hW).cell (p := ⟨bq, oq + q * 3, none⟩) hbq).trans d1)
          have KE1 := Lib.hid (show ∀ W, Below w0.heap.size w1 W → Nm W A1 n1 c1 N1 from fun W hW => e1.below (KB.out W hW))
          have KA1 := Lib.hid (show ∀ a, A1 = some a → 0 < n1 → a.block < w0.heap.size from fun a ha h0 => Nat.lt_trans (e1.blkO h0 a ha) HO.out)
          have KD2 := Lib.hid (show ∀ W, Below w0.heap.size w1 W → W.cell? ⟨bq, oq + q * 3 + 1, none⟩ = some (.slice A2 n2 c2) from fun W hW => ((KB.out W hW).cell (p := ⟨bq, oq + q * 3 + 1, none⟩) hbq).trans d2)
          have KE2 := Lib.hid (show ∀ W, Below w0.heap.size w1 W → Nm W A2 n2 c2 N2 from fun W hW => e2.below (KB.out W hW))
          have KA2 := Lib.hid (show ∀ a, A2 = some a → 0 < n2 → a.block < w0.heap.size from fun a ha h0 => Nat.lt_trans (e2.blkO h0 a ha) HO.out)
          have KD3 := Lib.hid (show ∀ W, Below w0.heap.size w1 W → W.cell? ⟨bq, oq + q * 3 + 2, none⟩ = some (.slice A3 n3 c3) from fun W hW => ((KB.out W hW).cell (p := ⟨bq, oq + q * 3 + 2, none⟩) hbq).trans d3)
          have KE3 := Lib.hid (show ∀ W, Below w0.heap.size w1 W → Nm W A3 n3 c3 N3 from fun W hW => e3.below (KB.out W hW))
          have KA3 := Lib.hid (show ∀ a, A3 = some a → 0 < n3 → a.block < w0.heap.size from fun a ha h0 => Nat.lt_trans (e3.blkO h0 a ha) HO.out)
          clear d1 e1 d2 e2 d3 e3
          have dd := KD1.out wr HBQ.out
          go_wp2_with fail
          refine (onum_any OTQ.out (Nat.le_trans LQ.out (by decide)) (KE1.out wr HBQ.out) KA1.out).mono ?_
          rintro e X1 ⟨rfl, ⟨z1, ot⟩, bt⟩
          have OX1 := Lib.hid ot
          have HX1 := Lib.hid (HBQ.out.trans bt)
          have LX1 := Lib.hid (show ((letO ((batO (msg0 m) m.B j).cnt (n : Int)) S q).num N1).b.length ≤ 4689009100 + 5000521 from by have h1 := OuS.num_len (letO ((batO (msg0 m) m.B j).cnt (n : Int)) S q) N1; have h2 := LQ.out; omega)
          clear ot bt x7 cB dd
          have x7 := K7.out X1 HX1.out
          have cB := KC.out X1 HX1.out
          have dd := KD2.out X1 HX1.out
          go_wp2_with fail
          refine (onum_any OX1.out (Nat.le_trans LX1.out (by decide)) (KE2.out X1 HX1.out) KA2.out).mono ?_
          rintro e X2 ⟨rfl, ⟨z2, ot⟩, bt⟩
          have OX2 := Lib.hid ot
          have HX2 := Lib.hid (HX1.out.trans bt)
          have LX2 := Lib.hid (show (((letO ((batO (msg0 m) m.B j).cnt (n : Int)) S q).num N1).num N2).b.length ≤ 4689009100 + 5001042 from by have h1 := OuS.num_len ((letO ((batO (msg0 m) m.B j).cnt (n : Int)) S q).num N1) N2; have h2 := LX1.out; omega)
          clear ot bt x7 cB dd
          have x7 := K7.out X2 HX2.out
          have cB := KC.out X2 HX2.out
          have dd := KD3.out X2 HX2.out
          go_wp2_with fail
          refine (onum_any OX2.out (Nat.le_trans LX2.out (by decide)) (KE3.out X2 HX2.out) KA3.out).mono ?_
          rintro e X3 ⟨rfl, ⟨z3, ot⟩, bt⟩
          have OX3 := Lib.hid ot
          have HX3 := Lib.hid (HX2.out.trans bt)
          have LX3 := Lib.hid (show ((((letO ((batO (msg0 m) m.B j).cnt (n : Int)) S q).num N1).num N2).num N3).b.length ≤ 4689009100 + 5001563 from by have h1 := OuS.num_len (((letO ((batO (msg0 m) m.B j).cnt (n : Int)) S q).num N1).num N2) N3; have h2 := LX2.out; omega)
          clear ot bt x7 cB dd
          go_wp2_with fail
          go_roundw
          case rel =>
            refine ⟨q + 1, z3, by go_num, by omega, ?_, HX3.out⟩
            rw [letO_succ, HSQ.out]
            exact OX3.out
          case measure => simp [intOf]; omega
        · obtain rfl : q = n := by omega
          have hqi : decide ((q : Int) < (q : Int)) = false := by simp
          go_wp2_with fail
          go_roundw
          case rel =>
            refine ⟨j + 1, u2, by go_num, by omega, ?_, HBQ.out⟩
            rw [batO_succ, HLJ.out]
            exact OTQ.out
          case measure => simp [intOf]; omega
    · obtain rfl : j = m.nb := by omega
      have hji : decide ((m.nb : Int) < (m.nb : Int)) = false := by simp
      have LE1 := Lib.hid (show (batO (msg0 m) m.B m.nb).b.length ≤ 4689009100 from by have h1 := batO_len (msg0 m) m.B m.nb (fun i hi => HB.out i hi); have h2 := LM0.out; omega)
      have x8 := KX.out wr HBJ.out 8 _ rfl
      go_wp2_with fail
      clear hji
      refine (ocnt_any OTJ.out (Nat.le_trans LE1.out (by decide)) (m.np : Int)).mono ?_
      rintro e V1 ⟨rfl, ⟨vv1, ot⟩, bt⟩
      have OTV1 := Lib.hid (show Ot V1 w0.heap.size vv1 (msg1 m) from ot)
      have HBV1 := Lib.hid (HBJ.out.trans bt)
      have LM1 := Lib.hid (show (msg1 m).b.length ≤ 4689009100 + 9 from by have h1 := OuS.cnt_len (batO (msg0 m) m.B m.nb) (m.np : Int); have h2 := LE1.out; exact Nat.le_trans h1 (by omega))
      clear ot bt x7 x8 OTJ HBJ
      go_wp2_with fail
      go_loopw [7, 8] (fun i kk wr => OpR (msg1 m) m.P m.np w0.heap.size w1 i kk wr) (fun i _ _ => m.np - (intOf i).toNat)
      case atStart => exact ⟨0, vv1, rfl, Nat.zero_le _, OTV1.out, HBV1.out⟩
      case round =>
        obtain ⟨j, u, rfl, hj, hot, hbl⟩ := hrel
        have OTJ := Lib.hid hot
        have HBJ := Lib.hid hbl
        have x7 := KX.out wr hbl 8 _ rfl
        clear hot hbl
        rcases Nat.lt_or_ge j m.np with hlt | hge
        · have hji : (j : Int) < (m.np : Int) := by omega
          have LJ := Lib.hid (show (pbaO (msg1 m) m.P j).b.length ≤ 7815018200 from by have h1 := pbaO_len (msg1 m) m.P j (fun i hi => HP.out i (by omega)); have h2 := LM1.out; omega)
          have hbt := MG.out.p
          obtain ⟨bb, ob, eA, hbb, hcb⟩ := hbt.ex (by omega)
          have K7 := Lib.hid (show ∀ W, Below w0.heap.size w1 W → W.cell? ⟨w.heap.size, 8, none⟩ = some (.slice (some ⟨bb, ob, none⟩) m.np m.cp) from fun W hW => by rw [← eA]; exact KX.out W hW 8 _ rfl)
          obtain ⟨lj, hlj⟩ : ∃ l, m.P j = l := ⟨_, rfl⟩
          have hcj := hcb j hlt
          have hch := hbt.at_ j hlt
          have hnn := HP.out j hlt
          rw [hlj] at hcj hch hnn
          obtain ⟨A, n, c, S⟩ := lj
          simp only at hcj hch hnn
          have HLJ := Lib.hid hlj
          have KC := Lib.hid (show ∀ W, Below w0.heap.size w1 W → W.cell? ⟨bb, ob + j, none⟩ = some (.slice A n c) from fun W hW => ((KB.out W hW).cell (p := ⟨bb, ob + j, none⟩) hbb).trans hcj)
          have HCH := Lib.hid hch
          have n60 := hch.c60
          clear x7 hbt hcb hcj hch hlj eA
          have x7 := K7.out wr HBJ.out
          have cB := KC.out wr HBJ.out
          obtain ⟨wl, hwl⟩ : ∃ wl, wl = wr := ⟨_, rfl⟩
          subst hwl
          go_wp2_with fail
          refine (ocnt_any OTJ.out (Nat.le_trans LJ.out (by decide)) (n : Int)).mono ?_
          rintro e W2 ⟨rfl, ⟨v2, ot⟩, b2⟩
          have OT2 := Lib.hid ot
          have HB2 := Lib.hid (HBJ.out.trans b2)
          have L2 := Lib.hid (show ((pbaO (msg1 m) m.P j).cnt (n : Int)).b.length ≤ 7815018200 + 9 from by have h1 := OuS.cnt_len (pbaO (msg1 m) m.P j) (n : Int); have h2 := LJ.out; omega)
          clear ot b2 x7 cB
          go_wp2_with fail
          go_loopw [8] (fun i wr => OqR ((pbaO (msg1 m) m.P j).cnt (n : Int)) S n w0.heap.size w1 i wr) (fun i _ => n - (intOf i).toNat)
          case atStart => exact ⟨0, v2, rfl, Nat.zero_le _, OT2.out, HB2.out⟩
          case round =>
            obtain ⟨q, u2, rfl, hq, hot2, hbl2⟩ := hrel
            have OTQ := Lib.hid hot2
            have HBQ := Lib.hid hbl2
            have x7 := K7.out wr hbl2
            have cB := KC.out wr hbl2
            clear hot2 hbl2
            rcases Nat.lt_or_ge q n with hlq | hgq
            · have hqi : (q : Int) < (n : Int) := by omega
              have LQ := Lib.hid (show (pflO ((pbaO (msg1 m) m.P j).cnt (n : Int)) S q).b.length ≤ 7815018200 + 5000000 from by have h1 := pflO_len ((pbaO (msg1 m) m.P j).cnt (n : Int)) S q; have h2 := L2.out; omega)
              obtain ⟨bq, oq, rfl, hbq, hcq⟩ := HCH.out.ex (by omega)
              have hsq := hcq q hlq
              have hat := HCH.out.at_ q hlq
              obtain ⟨sq, hsqe⟩ : ∃ s, S q = s := ⟨_, rfl⟩
              have HSQ := Lib.hid hsqe
              rw [hsqe] at hsq hat
              clear hcq hsqe
              obtain ⟨A1, n1, c1, N1, A2, n2, c2, N2⟩ := sq
              obtain ⟨d1, d2⟩ := hsq
              obtain ⟨e1, e2⟩ := hat
              simp only at d1 d2 e1 e2
              have KD1 := Lib.hid (show ∀ W, Below w0.heap.size w1 W → W.cell? ⟨bq, oq + q * 2, none⟩ = some (.slice A1 n1 c1) from fun W hW => ((KB.out W hW).cell (p := ⟨bq, oq + q * 2, none⟩) hbq).trans d1)
              have KE1 := Lib.hid (show ∀ W, Below w0.heap.size w1 W → Nm W A1 n1 c1 N1 from fun W hW => e1.below (KB.out W hW))
              have KA1 := Lib.hid (show ∀ a, A1 = some a → 0 < n1 → a.block < w0.heap.size from fun a ha h0 => Nat.lt_trans (e1.blkO h0 a ha) HO.out)
              have KD2 := Lib.hid (show ∀ W, Below w0.heap.size w1 W → W.cell? ⟨bq, oq + q * 2 + 1, none⟩ = some (.slice A2 n2 c2) from fun W hW => ((KB.out W hW).cell (p := ⟨bq, oq + q * 2 + 1, none⟩) hbq).trans d2)
              have KE2 := Lib.hid (show ∀ W, Below w0.heap.size w1 W → Nm W A2 n2 c2 N2 from fun W hW => e2.below (KB.out W hW))
              have KA2 := Lib.hid (show ∀ a, A2 = some a → 0 < n2 → a.block < w0.heap.size from fun a ha h0 => Nat.lt_trans (e2.blkO h0 a ha) HO.out)
              clear d1 e1 d2 e2
              have dd := KD1.out wr HBQ.out
              go_wp2_with fail
              refine (onum_any OTQ.out (Nat.le_trans LQ.out (by decide)) (KE1.out wr HBQ.out) KA1.out).mono ?_
              rintro e X1 ⟨rfl, ⟨z1, ot⟩, bt⟩
              have OX1 := Lib.hid ot
              have HX1 := Lib.hid (HBQ.out.trans bt)
              have LX1 := Lib.hid (show ((pflO ((pbaO (msg1 m) m.P j).cnt (n : Int)) S q).num N1).b.length ≤ 7815018200 + 5000521 from by have h1 := OuS.num_len (pflO ((pbaO (msg1 m) m.P j).cnt (n : Int)) S q) N1; have h2 := LQ.out; omega)
              clear ot bt x7 cB dd
              have x7 := K7.out X1 HX1.out
              have cB := KC.out X1 HX1.out
              have dd := KD2.out X1 HX1.out
              go_wp2_with fail
              refine (onum_any OX1.out (Nat.le_trans LX1.out (by decide)) (KE2.out X1 HX1.out) KA2.out).mono ?_
              rintro e X2 ⟨rfl, ⟨z2, ot⟩, bt⟩
              have OX2 := Lib.hid ot
              have HX2 := Lib.hid (HX1.out.trans bt)
              have LX2 := Lib.hid (show (((pflO ((pbaO (msg1 m) m.P j).cnt (n : Int)) S q).num N1).num N2).b.length ≤ 7815018200 + 5001042 from by have h1 := OuS.num_len ((pflO ((pbaO (msg1 m) m.P j).cnt (n : Int)) S q).num N1) N2; have h2 := LX1.out; omega)
              clear ot bt x7 cB dd
              go_wp2_with fail
              go_roundw
              case rel =>
                refine ⟨q + 1, z2, by go_num, by omega, ?_, HX2.out⟩
                rw [pflO_succ, HSQ.out]
                exact OX2.out
              case measure => simp [intOf]; omega
            · obtain rfl : q = n := by omega
              have hqi : decide ((q : Int) < (q : Int)) = false := by simp
              go_wp2_with fail
              go_roundw
              case rel =>
                refine ⟨j + 1, u2, by go_num, by omega, ?_, HBQ.out⟩
                rw [pbaO_succ, HLJ.out]
                exact OTQ.out
              case measure => simp [intOf]; omega
        · obtain rfl : j = m.np := by omega
          have hji : decide ((m.np : Int) < (m.np : Int)) = false := by simp
          have LE2 := Lib.hid (show (pbaO (msg1 m) m.P m.np).b.length ≤ 7815018200 from by have h1 := pbaO_len (msg1 m) m.P m.np (fun i hi => HP.out i hi); have h2 := LM1.out; omega)
          have x8 := KX.out wr HBJ.out 9 _ rfl
          go_wp2_with fail
          clear hji
          refine (ocnt_any OTJ.out (Nat.le_trans LE2.out (by decide)) (m.nt : Int)).mono ?_
          rintro e V2 ⟨rfl, ⟨vv2, ot⟩, bt⟩
          have OTV2 := Lib.hid (show Ot V2 w0.heap.size vv2 (msg2 m) from ot)
          have HBV2 := Lib.hid (HBJ.out.trans bt)
          have LM2 := Lib.hid (show (msg2 m).b.length ≤ 7815018200 + 9 from by have h1 := OuS.cnt_len (pbaO (msg1 m) m.P m.np) (m.nt : Int); have h2 := LE2.out; exact Nat.le_trans h1 (by omega))
          clear ot bt x7 x8 OTJ HBJ
          go_wp2_with fail
          go_loopw [9] (fun i wr => OxT (msg2 m) m.T m.nt w0.heap.size w1 i wr) (fun i _ => m.nt - (intOf i).toNat)
          case atStart => exact ⟨0, vv2, rfl, Nat.zero_le _, OTV2.out, HBV2.out⟩
          case round =>
            obtain ⟨j, u, rfl, hj, hot, hbl⟩ := hrel
            have OTJ := Lib.hid hot
            have HBJ := Lib.hid hbl
            have x9 := KX.out wr hbl 9 _ rfl
            clear hot hbl
            have LJ := Lib.hid (show (txtO (msg2 m) m.T j).b.length ≤ 1099511627776 from by have h1 := txtO_len (msg2 m) m.T j (fun i hi => HT.out i (by omega)); have h2 := LM2.out; omega)
            rcases Nat.lt_or_ge j m.nt with hlt | hge
            · have hji : (j : Int) < (m.nt : Int) := by omega
              have hbt := MG.out.t
              obtain ⟨bb, ob, eA, hbb, hcb⟩ := hbt.ex (by omega)
              have K7 := Lib.hid (show ∀ W, Below w0.heap.size w1 W → W.cell? ⟨w.heap.size, 9, none⟩ = some (.slice (some ⟨bb, ob, none⟩) m.nt m.ct) from fun W hW => by rw [← eA]; exact KX.out W hW 9 _ rfl)
              obtain ⟨lj, hlj⟩ : ∃ l, m.T j = l := ⟨_, rfl⟩
              have hcj := hcb j hlt
              have hch := (hbt.at_ j hlt).1
              have hnn := HT.out j hlt
              rw [hlj] at hcj hch hnn
              obtain ⟨A, c, xs⟩ := lj
              simp only at hcj hch hnn
              obtain ⟨n, hn⟩ : ∃ n, xs.length = n := ⟨_, rfl⟩
              rw [hn] at hcj hch hnn
              have HLJ := Lib.hid hlj
              have HNL := Lib.hid hn
              have KC := Lib.hid (show ∀ W, Below w0.heap.size w1 W → W.cell? ⟨bb, ob + j, none⟩ = some (.slice A n c) from fun W hW => ((KB.out W hW).cell (p := ⟨bb, ob + j, none⟩) hbb).trans hcj)
              have HCH := Lib.hid (show ∀ W, Below w0.heap.size w1 W → Rd .u8 W A n xs from fun W hW => hch.below (KB.out W hW))
              clear x9 hbt hcb hcj hch hlj eA hn
              have x9 := K7.out wr HBJ.out
              have cB := KC.out wr HBJ.out
              go_wp2_with fail
              refine (ocnt_any OTJ.out (Nat.le_trans LJ.out (by decide)) (n : Int)).mono ?_
              rintro e W2 ⟨rfl, ⟨v2, ot⟩, b2⟩
              have OT2 := Lib.hid ot
              have HB2 := Lib.hid (HBJ.out.trans b2)
              have L2 := Lib.hid (show ((txtO (msg2 m) m.T j).cnt (n : Int)).b.length ≤ 1099511627785 from by have h1 := OuS.cnt_len (txtO (msg2 m) m.T j) (n : Int); have h2 := LJ.out; omega)
              obtain ⟨S2, hS2⟩ : ∃ S2, (txtO (msg2 m) m.T j).cnt (n : Int) = S2 := ⟨_, rfl⟩
              have HS2 := Lib.hid hS2
              rw [hS2] at OT2 L2
              clear ot b2 x9 cB hS2
              have HBd := Lib.hid (show Below w0.heap.size w1 W2.drew from HB2.out.drew)
              have x9 := K7.out W2.drew HBd.out
              have cB := KC.out W2.drew HBd.out
              have c0 : W2.drew.cell? ⟨w0.heap.size, 0, none⟩ = some v2 := OT2.out.c0
              have OWd := Lib.hid (show W2.drew.ownsRow (w0.heap.size + 1) 5 1 v2 S2.b.length (S2.b.map (Value.int .u8)) from OT2.out.own)
              have sbd : w0.heap.size + 1 ≤ W2.drew.heap.size := by have := OT2.out.lt; show w0.heap.size + 1 ≤ W2.heap.size; omega
              have lnm : S2.b.length + n ≤ 8796093022208 := by have := L2.out; omega
              go_wp2_with fail
              go_region_law (first
                | (refine step_catK _ rfl (.tmp 179) (.tmp 184) 33 rfl (w0.heap.size + 1) 1 5 .u8 Try.underlying33 info8u (by omega) _ S2.b.length S2.b rfl OWd.out _ n _ xs rfl (HCH.out _ HBd.out) lnm sbd ?_; intro vn wn hn gn; have hown' : wn.ownsRow (w0.heap.size + 1) 5 1 vn (S2.b.length + n) ((S2.b ++ xs).map (Value.int .u8)) := (by simpa using hn); obtain ⟨Av, cv, rfl, -⟩ := own_rd hown'; obtain ⟨y0, f0, r0, hb3, ho3⟩ := OT2.out.app2 (l := xs) (m := S2.b.length + n) (by rw [HNL.out]) hown' gn; have HB3 := Lib.hid hb3; have HO3 := Lib.hid ho3; clear hn hown' gn hb3 ho3 c0 x9 cB))
              all_goals
                go_wp2_with fail
                go_roundw
                case rel =>
                  refine ⟨j + 1, .slice Av (S2.b.length + n) cv, by go_num, by omega, ?_, HB2.out.trans HB3.out⟩
                  rw [txtO_succ, HLJ.out]
                  show Ot _ _ _ (((txtO (msg2 m) m.T j).cnt (xs.length : Int)).put xs)
                  rw [HNL.out, HS2.out]
                  exact HO3.out
                case measure => simp [intOf]; omega
            · obtain rfl : j = m.nt := by omega
              have hji : decide ((m.nt : Int) < (m.nt : Int)) = false := by simp
              have x10 := KX.out wr HBJ.out 10 _ rfl
              go_wp2_with fail
              clear hji
              refine (ocnt_any OTJ.out (Nat.le_trans LJ.out (by decide)) m.i).mono ?_
              rintro e Y1 ⟨rfl, ⟨q1, ot⟩, bt⟩
              have OY1 := Lib.hid ot
              have HY1 := Lib.hid (HBJ.out.trans bt)
              have LY1 := Lib.hid (show ((txtO (msg2 m) m.T m.nt).cnt m.i).b.length ≤ 1099511627785 from by have h1 := OuS.cnt_len (txtO (msg2 m) m.T m.nt) m.i; have h2 := LJ.out; omega)
              clear ot bt x9 x10
              have x11 := KX.out Y1 HY1.out 11 _ rfl
              go_wp2_with fail
              refine (onum_any OY1.out (Nat.le_trans LY1.out (by decide)) (KM.out Y1 HY1.out).v (fun a ha h0 => Nat.lt_trans (MG.out.v.blkO h0 a ha) HO.out)).mono ?_
              rintro e Y2 ⟨rfl, ⟨q2, ot⟩, bt⟩
              have OY2 := Lib.hid (show Ot Y2 w0.heap.size q2 (msgO m) from ot)
              have HY2 := Lib.hid (HY1.out.trans bt)
              have LY2 := Lib.hid (show (msgO m).b.length ≤ 1099511628306 from by have h1 := OuS.num_len ((txtO (msg2 m) m.T m.nt).cnt m.i) m.V; have h2 := LY1.out; exact Nat.le_trans h1 (by omega))
              clear ot bt x11
              go_wp2_with fail
              refine (odone_any OY2.out (Nat.le_trans LY2.out (by decide)) 1048576 (by decide)).mono ?_
              rintro e Y3 (⟨hz, vz, rfl, hown, hb3⟩ | ⟨hz, rfl, hb3⟩)
              · have HZ := Lib.hid hz
                have HOW := Lib.hid hown
                have HB9 := Lib.hid (KB.out Y3 (HY2.out.trans hb3))
                clear hz hown hb3
                go_wp2_with fail
                go_ret2
                exact .inl ⟨HZ.out, vz, rfl, HOW.out.base (by have := HO.out; omega), HB9.out⟩
              · have HZ := Lib.hid hz
                have HB9 := Lib.hid (KB.out Y3 (HY2.out.trans hb3))
                clear hz hb3
                go_wp2_with fail
                go_ret2
                exact .inr ⟨HZ.out, rfl, HB9.out⟩
end Go.Proofs.Ytcnekfpgoceblaa
