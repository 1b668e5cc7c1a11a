/-
  One thing is drawn by both rows: step answers true.
-/
import Derived.Test.YtbffcgnefkkhoaaDoorUp6
import Derived.Test.YtbffcgnefkkhoaaDoorPkf
import Derived.Test.YtbffcgnefkkhoaaDoorStr
import Derived.Test.YtbffcgnefkkhoaaDoorPkb
import Derived.Test.YtbffcgnefkkhoaaDoorCodeE
import Derived.Deep.RegionHeld
namespace Go.Proofs.YtbffcgnefkkhoaaDoor
open Go.RowKit
set_option linter.unusedVariables false
/-- The thing to draw, in a block of its own. -/
structure OpB (w : World) (g : Nat) (wh nn : Int) (A : Option Addr) (n c : Nat) : Prop where
  row : w.heap[g]? = some (.cells #[.int .i64 wh, .int .i64 nn, .slice A n c] 32 (0, 0))
section
variable {w w' : World} {g : Nat} {wh nn : Int} {A : Option Addr} {n c : Nat}
theorem OpB.lt (h : OpB w g wh nn A n c) : g < w.heap.size := (Array.getElem?_eq_some_iff.1 h.row).1
theorem OpB.bx {x : Nat} (h : OpB w g wh nn A n c) (hb : Bx x w w') (hx : g ≠ x) : OpB w' g wh nn A n c := ⟨(hb.block g h.lt hx).trans h.row⟩
theorem OpB.bw (h : OpB w g wh nn A n c) (hb : Bw w w') : OpB w' g wh nn A n c := ⟨(Below.block hb g h.lt).trans h.row⟩
theorem OpB.c1 (h : OpB w g wh nn A n c) : w.cell? ⟨g, 1, none⟩ = some (.int .i64 nn) := (cell_of_row w g 1 _ _ _ h.row).trans rfl
theorem OpB.c2 (h : OpB w g wh nn A n c) : w.cell? ⟨g, 2, none⟩ = some (.slice A n c) := (cell_of_row w g 2 _ _ _ h.row).trans rfl
end
/-- What one step answers: true; both rows have drawn the same, and what was there at w0 stays. -/
def AnsS (la ta bp : Nat) (dp : PgD) (lb tb br : Nat) (dr : DrD) (seed : List Int) (k : Nat) (w0 : World) (e : Ending) (w' : World) : Prop :=
  e = .returned (.bool true) ∧ ∃ k', k ≤ k' ∧ k' ≤ k + 20000 ∧ Pg w' la ta bp dp seed k' ∧ Dr w' lb tb br dr seed k' ∧ Bw w0 w'
theorem r6bytes_r {w : World} {lo hi b k : Nat} {d : DrD} {seed S : List Int} {n : Nat} (hS : drw seed k n = S) (h : Dr w lo hi b d seed k) (hs : d.nS ≤ 1000) (hk : k ≤ 1000000000) (hn : n ≤ 10000) :
    Calls Tryd.prog 22 #[.pointer (some ⟨b, 0, none⟩), .int .i64 n] w fun e w' => ∃ A c, e = .returned (.slice A n c) ∧ Bs w' A n c S ∧ Dr w' lo hi b d seed (k + 1) ∧ Bx b w w' := by
  subst hS; exact r6bytes_any h hs hk n hn
section
variable {w0 w : World} {la ta bp lb tb br k : Nat} {dp : PgD} {dr : DrD} {seed : List Int} {wh nn N : Int} {A : Option Addr} {n c : Nat}
set_option maxHeartbeats 8000000 in
set_option maxRecDepth 100000 in
theorem step0 (hT : Tabs w0) (hB : Bw w0 w) (hw0 : w0.heap.size ≤ la) (hpr : ta ≤ lb) (hp : Pg w la ta bp dp seed k) (hd : Dr w lb tb br dr seed k) (hs : dr.nS ≤ 1000) (hk : k ≤ 40000000)
    (hwh : -9223372036854775808 ≤ wh ∧ wh ≤ 9223372036854775807) (hnn : -9223372036854775808 ≤ nn ∧ nn ≤ 9223372036854775807) (hN : nn ≤ 60 ∨ 4096 < nn) (hv : pk wh 4 = 0) :
    Calls Tryd.prog 9 #[.pointer (some ⟨bp, 0, none⟩), .pointer (some ⟨br, 0, none⟩), .agg #[.int .i64 wh, .int .i64 nn, .slice A n c]] w (AnsS la ta bp dp lb tb br dr seed k w0) := by
  have T0 := Lib.hid hT
  obtain ⟨g, hg⟩ : ∃ g, w.heap.size = g := ⟨_, rfl⟩
  obtain ⟨W1, hW1⟩ : ∃ W1, w.alloc (.cells #[.int .i64 wh, .int .i64 nn, .slice A n c] 32) = W1 := ⟨_, rfl⟩
  have ob : OpB W1 g wh nn A n c := by rw [← hW1, ← hg]; exact ⟨heap_alloc_new w _⟩
  have bw1 : Bw w W1 := by rw [← hW1]; exact Bw.alloc _ _
  have hgp : g ≠ bp := by have := hp.lt; omega
  have hgr : g ≠ br := by have := hd.lt; omega
  have hbp := hp.bhi
  have hbr := hd.blo
  have hlp := hp.blo
  have HB := Lib.hid (hB.trans bw1)
  have HP := Lib.hid (hp.bw bw1)
  have HD := Lib.hid (hd.bw bw1)
  have OB := Lib.hid ob
  have HW := Lib.hid hwh
  have k1 := ob.c1
  have e1 : W1.cell? ⟨g, 0, none⟩ = some (.int .i64 wh) := (cell_of_row W1 g 0 _ _ _ ob.row).trans rfl
  have HW1 := Lib.hid hW1
  have HG := Lib.hid hg
  clear hT hB hp hd ob bw1 hwh hW1 hg
  rcases Int.lt_or_le nn 0 with h1 | h1
  · --<A0
    have a1 : decide (0 ≤ nn) = false := by simp; omega
    go_enter Tryd.func9, Tryd.ntmps9
    go_wp2_with fail
    rw [HW1.out, HG.out]
    refine (pick_any wh 4 HW.out (by decide) _).mono ?_
    rw [hv]
    rintro e w2 ⟨rfl, rfl⟩
    go_wp2_with fail
    refine (p6bytes_arg (T0.out.bw HB.out) HP.out nn (.inl h1)).mono ?_
    rintro e w2 ⟨rfl, hp2, bx2⟩
    have q1 := eql_code 1 1
    have HP2 := Lib.hid hp2
    have HD2 := Lib.hid (HD.out.bx bx2 (.inl (by omega)))
    have HB2 := Lib.hid (bx2.below HB.out (by omega))
    clear hp2 bx2
    go_wp2_with fail
    go_ret
    exact ⟨rfl, k, by omega, by omega, HP2.out, HD2.out, HB2.out⟩
    --A0>
  · obtain ⟨m, rfl⟩ : ∃ m : Nat, nn = (m : Int) := ⟨nn.toNat, by omega⟩
    rcases Int.lt_or_le 4096 (m : Int) with h2 | h2
    · --<C
      have a2 : decide ((m : Int) ≤ 4096) = false := by simp; omega
      go_enter Tryd.func9, Tryd.ntmps9
      go_wp2_with fail
      rw [HW1.out, HG.out]
      refine (pick_any wh 4 HW.out (by decide) _).mono ?_
      rw [hv]
      rintro e w2 ⟨rfl, rfl⟩
      go_wp2_with fail
      refine (p6bytes_arg (T0.out.bw HB.out) HP.out (m : Int) (.inr h2)).mono ?_
      rintro e w2 ⟨rfl, hp2, bx2⟩
      have q1 := eql_code 1 1
      have HP2 := Lib.hid hp2
      have HD2 := Lib.hid (HD.out.bx bx2 (.inl (by omega)))
      have HB2 := Lib.hid (bx2.below HB.out (by omega))
      clear hp2 bx2
      go_wp2_with fail
      go_ret
      exact ⟨rfl, k, by omega, by omega, HP2.out, HD2.out, HB2.out⟩
      --C>
    · --<B
      have m60 : m ≤ 60 := by omega
      obtain ⟨S, hS⟩ : ∃ S, drw seed k m = S := ⟨_, rfl⟩
      have HS := Lib.hid hS
      go_enter Tryd.func9, Tryd.ntmps9
      go_wp2_with fail
      rw [HW1.out, HG.out]
      refine (pick_any wh 4 HW.out (by decide) _).mono ?_
      rw [hv]
      rintro e w2 ⟨rfl, rfl⟩
      go_wp2_with fail
      refine (p6bytes (T0.out.bw HB.out) HP.out (by omega) m (by omega)).mono ?_
      rw [hS]
      rintro e w2 ⟨A2, c2, rfl, bs2, nw2, hp2, bx2⟩
      have HP2 := Lib.hid hp2
      have HD2 := Lib.hid (HD.out.bx bx2 (.inl (by omega)))
      have HB2 := Lib.hid (bx2.below HB.out (by omega))
      have OB2 := Lib.hid (OB.out.bx bx2 hgp)
      have ne2 : ∀ a, A2 = some a → a.block ≠ br := fun a h => by have h1 := nw2 a h; have h2 := HD.out.lt; omega
      have NE2 := Lib.hid ne2
      have BS2 := Lib.hid bs2
      clear hp2 bx2 nw2 bs2 ne2 k1 e1 HP HD HB OB hS
      have d1 := OB2.out.c1
      have cv1 := fun W' (hb : Bx br w2 W') => conv_b (BS2.out.bx hb NE2.out)
      have cv0 := conv_b BS2.out
      have hW0 := Bw.drew w2
      have hW := Bx.drew br w2
      have kk : k ≤ 1000000000 := by omega
      have mm : m ≤ 10000 := by omega
      have sq := str_eql
      go_wp2_with fail
      go_region_with (first
        | (go_at_call 22; (with_reducible refine (r6bytes_r HS.out (HD2.out.bw hW0) hs kk mm).mono ?_); rintro e wN ⟨AN, cN, rfl, hbN, hdN, hN⟩; have hW := hW.trans hN; have HDN := Lib.hid hdN; have cN0 := conv_b hbN; clear hbN hdN hN))
      all_goals
        go_wp2_with fail
        go_ret
        exact ⟨rfl, k + 1, by omega, by omega, HP2.out.bx hW (.inr (by omega)), HDN.out, hW.below HB2.out (by omega)⟩
      --B>
set_option maxHeartbeats 8000000 in
set_option maxRecDepth 100000 in
theorem step1 (hT : Tabs w0) (hB : Bw w0 w) (hw0 : w0.heap.size ≤ la) (hpr : ta ≤ lb) (hp : Pg w la ta bp dp seed k) (hd : Dr w lb tb br dr seed k) (hs : dr.nS ≤ 1000) (hk : k ≤ 40000000) (hm : Nm w0 A n c N) (hn : n ≤ 40) (hA : ∀ a, A = some a → 0 < n → a.block < w0.heap.size)
    (hwh : -9223372036854775808 ≤ wh ∧ wh ≤ 9223372036854775807) (hnn : -9223372036854775808 ≤ nn ∧ nn ≤ 9223372036854775807) (hv : pk wh 4 = 1) :
    Calls Tryd.prog 9 #[.pointer (some ⟨bp, 0, none⟩), .pointer (some ⟨br, 0, none⟩), .agg #[.int .i64 wh, .int .i64 nn, .slice A n c]] w (AnsS la ta bp dp lb tb br dr seed k w0) := by
  have T0 := Lib.hid hT
  obtain ⟨g, hg⟩ : ∃ g, w.heap.size = g := ⟨_, rfl⟩
  obtain ⟨W1, hW1⟩ : ∃ W1, w.alloc (.cells #[.int .i64 wh, .int .i64 nn, .slice A n c] 32) = W1 := ⟨_, rfl⟩
  have ob : OpB W1 g wh nn A n c := by rw [← hW1, ← hg]; exact ⟨heap_alloc_new w _⟩
  have bw1 : Bw w W1 := by rw [← hW1]; exact Bw.alloc _ _
  have hgp : g ≠ bp := by have := hp.lt; omega
  have hgr : g ≠ br := by have := hd.lt; omega
  have hbp := hp.bhi
  have hbr := hd.blo
  have hlp := hp.blo
  have HB := Lib.hid (hB.trans bw1)
  have HP := Lib.hid (hp.bw bw1)
  have HD := Lib.hid (hd.bw bw1)
  have OB := Lib.hid ob
  have HM0 := Lib.hid hm
  have HAA := Lib.hid hA
  have HW := Lib.hid hwh
  have e1 : W1.cell? ⟨g, 0, none⟩ = some (.int .i64 wh) := (cell_of_row W1 g 0 _ _ _ ob.row).trans rfl
  have e2 := ob.c2
  have HW1 := Lib.hid hW1
  have HG := Lib.hid hg
  clear hT hB hp hd ob bw1 hwh hW1 hg hm hA
  go_enter Tryd.func9, Tryd.ntmps9
  go_upto_region 1 with fail
  rw [HW1.out, HG.out]
  have k1 := OB.out.c1
  go_cut [7] (fun v wx => (∃ q, v = .bool q) ∧ W1 = wx)
  case first =>
    --<M
    rcases Int.lt_or_le nn 0 with h1 | h1
    · have a1 : decide (0 ≤ nn) = false := by simp; omega
      go_wp2_with fail
      go_meet
      exact ⟨⟨_, rfl⟩, rfl⟩
    · obtain ⟨m, rfl⟩ : ∃ m : Nat, nn = (m : Int) := ⟨nn.toNat, by omega⟩
      go_wp2_with fail
      go_meet
      exact ⟨⟨_, rfl⟩, rfl⟩
    --M>
  case rest =>
    obtain ⟨⟨q, rfl⟩, rfl⟩ := hcut
    clear k1
    go_wp2_with fail
    refine (pick_any wh 4 HW.out (by decide) _).mono ?_
    rw [hv]
    rintro e w2 ⟨rfl, rfl⟩
    have HM1 := Lib.hid (HM0.out.bw HB.out)
    rcases Nat.eq_zero_or_pos (dl N) with h3 | h3
    · --<Z
      have hN0 : N = 0 := by
        have h0 := HM1.out.pos
        have h := val_dg W_two h0
        have e : dg W N = [] := List.eq_nil_of_length_eq_zero h3
        rw [e] at h
        simpa [val] using h.symm
      subst hN0
      have hbd : bdN 0 = 1 := by unfold bdN; rw [if_pos h3]
      go_wp2_with fail
      refine (p6below_arg (T0.out.bw HB.out) HP.out HM1.out).mono ?_
      rintro e w2 ⟨rfl, hp2, bx2⟩
      have HP2 := Lib.hid hp2
      have HD2 := Lib.hid (HD.out.bx bx2 (.inl (by omega)))
      have HB2 := Lib.hid (bx2.below HB.out (by omega))
      have d2 := (OB.out.bx bx2 hgp).c2
      have HM2 := Lib.hid (HM0.out.bw HB2.out)
      clear hp2 bx2 HP HD HB e1 e2
      go_wp2_with fail
      refine (bad_any HM2.out).mono ?_
      rw [hbd]
      rintro e w3 ⟨rfl, rfl⟩
      go_wp2_with fail
      refine (code_any 1 (by decide) (by decide) _).mono ?_
      rintro e w3 ⟨rfl, rfl⟩
      go_wp2_with fail
      go_ret
      exact ⟨rfl, k, by omega, by omega, HP2.out, HD2.out, HB2.out⟩
      --Z>
    · rcases Nat.lt_or_ge 32 (dl N) with h4 | h4
      · --<G
        have hbd : bdN N = 2 := by unfold bdN; rw [if_neg (by omega), if_pos h4]
        go_wp2_with fail
        refine (p6below_long (T0.out.bw HB.out) HP.out HM1.out h4).mono ?_
        rintro e w2 ⟨rfl, hp2, bx2⟩
        have HP2 := Lib.hid hp2
        have HD2 := Lib.hid (HD.out.bx bx2 (.inl (by omega)))
        have HB2 := Lib.hid (bx2.below HB.out (by omega))
        have d2 := (OB.out.bx bx2 hgp).c2
        have HM2 := Lib.hid (HM0.out.bw HB2.out)
        clear hp2 bx2 HP HD HB e1 e2
        go_wp2_with fail
        refine (bad_any HM2.out).mono ?_
        rw [hbd]
        rintro e w3 ⟨rfl, rfl⟩
        go_wp2_with fail
        refine (code_any 2 (by decide) (by decide) _).mono ?_
        rintro e w3 ⟨rfl, rfl⟩
        go_wp2_with fail
        go_ret
        exact ⟨rfl, k, by omega, by omega, HP2.out, HD2.out, HB2.out⟩
        --G>
      · --<O
        have hbd : bdN N = 0 := by unfold bdN; rw [if_neg (by omega), if_neg (by omega)]
        have hN0 : 0 < N := by
          have h0 := HM1.out.pos
          rcases Int.lt_or_le 0 N with g | g
          · exact g
          · obtain rfl : N = 0 := by omega
            unfold dl at h3
            rw [dg_zero] at h3
            simp at h3
        have hmb : mb N ≤ 2048 := by
          unfold mb
          have h1 := nb_le (N := N - 1) (by omega)
          have h2 := dl_mono (show 0 ≤ N - 1 by omega) (show N - 1 ≤ N by omega)
          omega
        obtain ⟨X, hX⟩ : ∃ X, blw seed N 256 k = X := ⟨_, rfl⟩
        have hXb := blw_bd seed hN0 256 k
        have hXc := blw_count seed N 256 k
        rw [hX] at hXb hXc
        obtain ⟨xv, xk⟩ := X
        simp only at hXb hXc
        go_wp2_with fail
        refine (p6below (T0.out.bw HB.out) HP.out (by omega) HM1.out (fun a h1 h2 => by have := HAA.out a h1 h2; omega) hN0 h4).mono ?_
        rw [hX]
        rintro e w2 ⟨B2, n2, c2, rfl, hc2, nw2, hp2, bx2⟩
        have HP2 := Lib.hid hp2
        have HD2 := Lib.hid (HD.out.bx bx2 (.inl (by omega)))
        have HB2 := Lib.hid (bx2.below HB.out (by omega))
        have ob2 := OB.out.bx bx2 hgp
        have d2 := ob2.c2
        have HM2 := Lib.hid (HM0.out.bw HB2.out)
        have ne2 : ∀ a, B2 = some a → a.block ≠ br := fun a h => by have h1 := nw2 a h; have h2 := HD.out.lt; omega
        have NE2 := Lib.hid ne2
        have HC2 := Lib.hid hc2
        clear hp2 bx2 ob2 nw2 ne2 hc2 HP HD HB e1 e2
        go_wp2_with fail
        refine (bad_any HM2.out).mono ?_
        rw [hbd]
        rintro e w3 ⟨rfl, rfl⟩
        go_wp2_with fail
        have hof : Calls Tryd.prog 17 #[.slice A n c] w2 (AnsNn N w2) := by
          obtain ⟨⟨ys, y1, y2, y3⟩, -, -, -⟩ := HM2.out
          have := of_new A n c ys w2 y1 y2 (by omega)
          rwa [y3] at this
        refine hof.mono ?_
        rintro e w4 ⟨B4, n4, c4, rfl, hr4, b4, nw4⟩
        have b4 : Bw w2 w4 := b4
        have HD4 := Lib.hid (HD2.out.bw b4)
        have l4 : n4 ≤ 128 := by have h1 := dr_le (Int.le_of_lt hN0) h4; rw [hr4.len_]; omega
        have ne4 : ∀ a, B4 = some a → a.block ≠ br := fun a h => by have h1 := nw4 a h; have h2 := HD2.out.lt; omega
        have HC4 := Lib.hid (HC2.out.bw b4)
        have HP4 := Lib.hid (HP2.out.bw b4)
        have HB4 := Lib.hid (HB2.out.trans b4)
        clear hof b4 nw4 HC2 HP2 HB2 HD2 HM2
        go_wp2_with fail
        refine (r6below_any HD4.out hs (by omega) hr4 (by omega) ne4 hN0 hmb).mono ?_
        rw [hX]
        rintro e w5 ⟨B5, n5, c5, rfl, hr5, hd5, bx5⟩
        have l5 : n5 ≤ 128 := by have h1 := dr_le (Int.le_of_lt hN0) h4; have h2 := dr_mono hXb.1 (Int.le_of_lt hXb.2); rw [hr5.len_]; simp only; omega
        have HD5 := Lib.hid hd5
        have HC5 := Lib.hid (HC4.out.bx bx5 NE2.out)
        have HP5 := Lib.hid (HP4.out.bx bx5 (.inr (by omega)))
        have HB5 := Lib.hid (bx5.below HB4.out (by omega))
        clear hr4 ne4 hd5 bx5 HC4 HP4 HB4 HD4 hX
        go_wp2_with fail
        refine (to_cn hr5 (by omega)).mono ?_
        rintro e w6 ⟨B6, n6, c6, rfl, hc6, b6⟩
        have b6 : Bw w5 w6 := b6
        have HC6 := Lib.hid hc6
        have HC6' := Lib.hid (HC5.out.bw b6)
        have HD6 := Lib.hid (HD5.out.bw b6)
        have HP6 := Lib.hid (HP5.out.bw b6)
        have HB6 := Lib.hid (HB5.out.trans b6)
        clear hr5 hc6 b6 HC5 HD5 HP5 HB5
        go_wp2_with fail
        refine (same_cn HC6'.out HC6.out).mono ?_
        rintro e w7 ⟨rfl, b7⟩
        have b7 : Bw w6 w7 := b7
        have HD7 := Lib.hid (HD6.out.bw b7)
        have HP7 := Lib.hid (HP6.out.bw b7)
        have HB7 := Lib.hid (HB6.out.trans b7)
        clear b7
        go_wp2_with fail
        go_ret
        exact ⟨rfl, xk, by omega, by omega, HP7.out, HD7.out, HB7.out⟩
        --O>
/-- The places compared so far. -/
def PqR (m : Nat) (w : World) (i : Value) (wr : World) : Prop := ∃ j : Nat, j ≤ m ∧ i = .int .i64 j ∧ ∃ q, wr = w.drewN q
set_option maxHeartbeats 8000000 in
set_option maxRecDepth 100000 in
theorem step3 (hT : Tabs w0) (hB : Bw w0 w) (hw0 : w0.heap.size ≤ la) (hpr : ta ≤ lb) (hp : Pg w la ta bp dp seed k) (hd : Dr w lb tb br dr seed k) (hs : dr.nS ≤ 1000) (hk : k ≤ 40000000)
    (hwh : -9223372036854775808 ≤ wh ∧ wh ≤ 9223372036854775807) (hnn : -9223372036854775808 ≤ nn ∧ nn ≤ 9223372036854775807) (hN : nn ≤ 60 ∨ 4096 < nn) (hv : pk wh 4 = 3) :
    Calls Tryd.prog 9 #[.pointer (some ⟨bp, 0, none⟩), .pointer (some ⟨br, 0, none⟩), .agg #[.int .i64 wh, .int .i64 nn, .slice A n c]] w (AnsS la ta bp dp lb tb br dr seed k w0) := by
  have T0 := Lib.hid hT
  obtain ⟨g, hg⟩ : ∃ g, w.heap.size = g := ⟨_, rfl⟩
  obtain ⟨W1, hW1⟩ : ∃ W1, w.alloc (.cells #[.int .i64 wh, .int .i64 nn, .slice A n c] 32) = W1 := ⟨_, rfl⟩
  have ob : OpB W1 g wh nn A n c := by rw [← hW1, ← hg]; exact ⟨heap_alloc_new w _⟩
  have bw1 : Bw w W1 := by rw [← hW1]; exact Bw.alloc _ _
  have hgp : g ≠ bp := by have := hp.lt; omega
  have hgr : g ≠ br := by have := hd.lt; omega
  have hbp := hp.bhi
  have hbr := hd.blo
  have hlp := hp.blo
  have HB := Lib.hid (hB.trans bw1)
  have HP := Lib.hid (hp.bw bw1)
  have HD := Lib.hid (hd.bw bw1)
  have OB := Lib.hid ob
  have HW := Lib.hid hwh
  have k1 := ob.c1
  have e2 := ob.c2
  have e1 : W1.cell? ⟨g, 0, none⟩ = some (.int .i64 wh) := (cell_of_row W1 g 0 _ _ _ ob.row).trans rfl
  have HW1 := Lib.hid hW1
  have HG := Lib.hid hg
  clear hT hB hp hd ob bw1 hwh hW1 hg
  rcases Int.lt_or_le nn 0 with h1 | h1
  · --<A3
    have a1 : decide (0 ≤ nn) = false := by simp; omega
    go_enter Tryd.func9, Tryd.ntmps9
    go_wp2_with fail
    rw [HW1.out, HG.out]
    refine (pick_any wh 4 HW.out (by decide) _).mono ?_
    rw [hv]
    rintro e w2 ⟨rfl, rfl⟩
    go_wp2_with fail
    refine (p6perm_arg (T0.out.bw HB.out) HP.out nn (.inl h1)).mono ?_
    rintro e w2 ⟨rfl, hp2, bx2⟩
    have q1 := eql_code 1 1
    have HP2 := Lib.hid hp2
    have HD2 := Lib.hid (HD.out.bx bx2 (.inl (by omega)))
    have HB2 := Lib.hid (bx2.below HB.out (by omega))
    clear hp2 bx2
    go_wp2_with fail
    go_ret
    exact ⟨rfl, k, by omega, by omega, HP2.out, HD2.out, HB2.out⟩
    --A3>
  · obtain ⟨m, rfl⟩ : ∃ m : Nat, nn = (m : Int) := ⟨nn.toNat, by omega⟩
    rcases Int.lt_or_le 4096 (m : Int) with h2 | h2
    · --<C3
      have a2 : decide ((m : Int) ≤ 4096) = false := by simp; omega
      go_enter Tryd.func9, Tryd.ntmps9
      go_wp2_with fail
      rw [HW1.out, HG.out]
      refine (pick_any wh 4 HW.out (by decide) _).mono ?_
      rw [hv]
      rintro e w2 ⟨rfl, rfl⟩
      go_wp2_with fail
      refine (p6perm_arg (T0.out.bw HB.out) HP.out (m : Int) (.inr h2)).mono ?_
      rintro e w2 ⟨rfl, hp2, bx2⟩
      have q1 := eql_code 1 1
      have HP2 := Lib.hid hp2
      have HD2 := Lib.hid (HD.out.bx bx2 (.inl (by omega)))
      have HB2 := Lib.hid (bx2.below HB.out (by omega))
      clear hp2 bx2
      go_wp2_with fail
      go_ret
      exact ⟨rfl, k, by omega, by omega, HP2.out, HD2.out, HB2.out⟩
      --C3>
    · --<B3
      have m60 : m ≤ 60 := by omega
      go_enter Tryd.func9, Tryd.ntmps9
      go_wp2_with fail
      rw [HW1.out, HG.out]
      refine (pick_any wh 4 HW.out (by decide) _).mono ?_
      rw [hv]
      rintro e w2 ⟨rfl, rfl⟩
      go_wp2_with fail
      refine (p6perm (T0.out.bw HB.out) HP.out (by omega) m (by omega)).mono ?_
      rintro e w2 ⟨A2, c2, rfl, mn2, hp2, bx2⟩
      have HP2 := Lib.hid hp2
      have HD2 := Lib.hid (HD.out.bx bx2 (.inl (by omega)))
      have HB2 := Lib.hid (bx2.below HB.out (by omega))
      have OB2 := Lib.hid (OB.out.bx bx2 hgp)
      have ne2 : ∀ a, A2 = some a → a.block ≠ br := fun a h => by have h1 := mn2.new a h; have h2 := HD.out.lt; omega
      have NE2 := Lib.hid ne2
      have MN2 := Lib.hid mn2
      have kc := prm_count seed m k
      have ll := prm_len seed m k
      have d1 := OB2.out.c1
      clear hp2 bx2 mn2 ne2 k1 e1 e2 HP HD HB OB
      go_wp2_with fail
      refine (r6perm_any HD2.out hs (by omega) m (by omega)).mono ?_
      rintro e w3 ⟨A3, c3, rfl, mn3, hd3, bx3⟩
      have HD3 := Lib.hid hd3
      have HP3 := Lib.hid (HP2.out.bx bx3 (.inr (by omega)))
      have HB3 := Lib.hid (bx3.below HB2.out (by omega))
      have MN3 := Lib.hid mn3
      have MN23 := Lib.hid (MN2.out.bx bx3 NE2.out)
      clear mn3 hd3 bx3 MN2 HP2 HB2 HD2 d1
      go_wp2_with fail
      go_loopw [21] (fun i wr => PqR m w3 i wr) (fun i _ => m - (intOf i).toNat)
      case atStart => exact ⟨0, Nat.zero_le _, rfl, 0, rfl⟩
      case round =>
        obtain ⟨j, hj, rfl, q, rfl⟩ := hrel
        rcases Nat.lt_or_ge j m with hlt | hge
        · obtain ⟨g2, rfl, -, -⟩ := MN23.out.at0 (by omega)
          obtain ⟨g3, rfl, -, -⟩ := MN3.out.at0 (by omega)
          have cp := (MN23.out.drewN q).cell hlt
          have cq := (MN3.out.drewN q).cell hlt
          obtain ⟨v, hv2⟩ : ∃ v, dig (prm seed m k).1 j = v := ⟨_, rfl⟩
          rw [hv2] at cp cq
          have c0 : w3.cell? ⟨g2, j, none⟩ = some (.int .i64 v) := by have := MN23.out.cell hlt; rw [hv2] at this; exact this
          have c1 : w3.cell? ⟨g3, j, none⟩ = some (.int .i64 v) := by have := MN3.out.cell hlt; rw [hv2] at this; exact this
          have hji : (j : Int) < (m : Int) := by omega
          have hvv : ((v : Int) != v) = false := by simp
          clear hv2
          go_wp2_with fail
          go_quiet (fail)
          go_wp2_with fail
          go_roundw
          case rel => exact ⟨j + 1, by omega, by go_num, _, rfl⟩
          case measure => simp [intOf]; omega
        · obtain rfl : j = m := by omega
          have hji : decide ((j : Int) < (j : Int)) = false := by simp
          have bq : Bw w3 (w3.drewN q) := below_drewN (Below.refl _ _) q
          go_wp2_with fail
          go_ret
          exact ⟨rfl, (prm seed j k).2, kc.1, by omega, HP3.out.bw bq, HD3.out.bw bq, HB3.out.trans bq⟩
      --B3>
/-- The numbers compared so far. -/
def SlR (lo hi b : Nat) (d : DrD) (seed : List Int) (M : Int) (k m : Nat) (W : World) (i : Value) (wr : World) : Prop :=
  ∃ j : Nat, j ≤ m ∧ i = .int .i64 j ∧ Dr wr lo hi b d seed (cnt seed M k j) ∧ Bx b W wr
theorem of_newnm {A : Option Addr} {n c : Nat} {N : Int} {w : World} (h : Nm w A n c N) (hn : n ≤ 1000) : Calls Tryd.prog 17 #[.slice A n c] w (AnsNn N w) := by
  obtain ⟨⟨ys, y1, y2, y3⟩, -, -, -⟩ := h
  have := of_new A n c ys w y1 y2 hn
  rwa [y3] at this
set_option maxHeartbeats 8000000 in
set_option maxRecDepth 100000 in
theorem step2 (hT : Tabs w0) (hB : Bw w0 w) (hw0 : w0.heap.size ≤ la) (hpr : ta ≤ lb) (hp : Pg w la ta bp dp seed k) (hd : Dr w lb tb br dr seed k) (hs : dr.nS ≤ 1000) (hk : k ≤ 40000000) (hm : Nm w0 A n c N) (hn : n ≤ 40) (hA : ∀ a, A = some a → 0 < n → a.block < w0.heap.size)
    (hwh : -9223372036854775808 ≤ wh ∧ wh ≤ 9223372036854775807) (hnn : -9223372036854775808 ≤ nn ∧ nn ≤ 9223372036854775807) (hN : nn ≤ 60 ∨ 4096 < nn) (hv : pk wh 4 = 2) :
    Calls Tryd.prog 9 #[.pointer (some ⟨bp, 0, none⟩), .pointer (some ⟨br, 0, none⟩), .agg #[.int .i64 wh, .int .i64 nn, .slice A n c]] w (AnsS la ta bp dp lb tb br dr seed k w0) := by
  have T0 := Lib.hid hT
  obtain ⟨g, hg⟩ : ∃ g, w.heap.size = g := ⟨_, rfl⟩
  obtain ⟨W1, hW1⟩ : ∃ W1, w.alloc (.cells #[.int .i64 wh, .int .i64 nn, .slice A n c] 32) = W1 := ⟨_, rfl⟩
  have ob : OpB W1 g wh nn A n c := by rw [← hW1, ← hg]; exact ⟨heap_alloc_new w _⟩
  have bw1 : Bw w W1 := by rw [← hW1]; exact Bw.alloc _ _
  have hgp : g ≠ bp := by have := hp.lt; omega
  have hgr : g ≠ br := by have := hd.lt; omega
  have hbp := hp.bhi
  have hbr := hd.blo
  have hlp := hp.blo
  have HB := Lib.hid (hB.trans bw1)
  have HP := Lib.hid (hp.bw bw1)
  have HD := Lib.hid (hd.bw bw1)
  have OB := Lib.hid ob
  have HW := Lib.hid hwh
  have k1 := ob.c1
  have e2 := ob.c2
  have e1 : W1.cell? ⟨g, 0, none⟩ = some (.int .i64 wh) := (cell_of_row W1 g 0 _ _ _ ob.row).trans rfl
  have HW1 := Lib.hid hW1
  have HG := Lib.hid hg
  have HM0 := Lib.hid hm
  have HAA := Lib.hid hA
  have HM1 := Lib.hid (hm.bw HB.out)
  clear hT hB hp hd ob bw1 hwh hW1 hg hm hA
  rcases Int.lt_or_le nn 0 with h1 | h1
  · --<A2
    have a1 : decide (0 ≤ nn) = false := by simp; omega
    go_enter Tryd.func9, Tryd.ntmps9
    go_wp2_with fail
    rw [HW1.out, HG.out]
    refine (pick_any wh 4 HW.out (by decide) _).mono ?_
    rw [hv]
    rintro e w2 ⟨rfl, rfl⟩
    go_wp2_with fail
    refine (p6scal_arg (T0.out.bw HB.out) HP.out HM1.out nn (.inl h1)).mono ?_
    rintro e w2 ⟨rfl, hp2, bx2⟩
    have q1 := eql_code 1 1
    have HP2 := Lib.hid hp2
    have HD2 := Lib.hid (HD.out.bx bx2 (.inl (by omega)))
    have HB2 := Lib.hid (bx2.below HB.out (by omega))
    clear hp2 bx2
    go_wp2_with fail
    go_ret
    exact ⟨rfl, k, by omega, by omega, HP2.out, HD2.out, HB2.out⟩
    --A2>
  · obtain ⟨m, rfl⟩ : ∃ m : Nat, nn = (m : Int) := ⟨nn.toNat, by omega⟩
    rcases Int.lt_or_le 4096 (m : Int) with h2 | h2
    · --<C2
      have a2 : decide ((m : Int) ≤ 4096) = false := by simp; omega
      go_enter Tryd.func9, Tryd.ntmps9
      go_wp2_with fail
      rw [HW1.out, HG.out]
      refine (pick_any wh 4 HW.out (by decide) _).mono ?_
      rw [hv]
      rintro e w2 ⟨rfl, rfl⟩
      go_wp2_with fail
      refine (p6scal_arg (T0.out.bw HB.out) HP.out HM1.out (m : Int) (.inr h2)).mono ?_
      rintro e w2 ⟨rfl, hp2, bx2⟩
      have q1 := eql_code 1 1
      have HP2 := Lib.hid hp2
      have HD2 := Lib.hid (HD.out.bx bx2 (.inl (by omega)))
      have HB2 := Lib.hid (bx2.below HB.out (by omega))
      clear hp2 bx2
      go_wp2_with fail
      go_ret
      exact ⟨rfl, k, by omega, by omega, HP2.out, HD2.out, HB2.out⟩
      --C2>
    · have m60 : m ≤ 60 := by omega
      rcases Nat.eq_zero_or_pos (dl N) with h3 | h3
      · --<Z2
        have hN0 : N = 0 := by
          have h0 := HM1.out.pos
          have h := val_dg W_two h0
          have e : dg W N = [] := List.eq_nil_of_length_eq_zero h3
          rw [e] at h
          simpa [val] using h.symm
        subst hN0
        have hbd : bdN 0 = 1 := by unfold bdN; rw [if_pos h3]
        go_enter Tryd.func9, Tryd.ntmps9
        go_wp2_with fail
        rw [HW1.out, HG.out]
        refine (pick_any wh 4 HW.out (by decide) _).mono ?_
        rw [hv]
        rintro e w2 ⟨rfl, rfl⟩
        go_wp2_with fail
        refine (p6scal_zero (T0.out.bw HB.out) HP.out HM1.out m (by omega)).mono ?_
        rintro e w2 ⟨rfl, hp2, bx2⟩
        have HP2 := Lib.hid hp2
        have HD2 := Lib.hid (HD.out.bx bx2 (.inl (by omega)))
        have HB2 := Lib.hid (bx2.below HB.out (by omega))
        have d2 := (OB.out.bx bx2 hgp).c2
        have HM2 := Lib.hid (HM0.out.bw HB2.out)
        clear hp2 bx2 HP HD HB e1 e2 k1
        go_wp2_with fail
        refine (bad_any HM2.out).mono ?_
        rw [hbd]
        rintro e w3 ⟨rfl, rfl⟩
        go_wp2_with fail
        refine (code_any 1 (by decide) (by decide) _).mono ?_
        rintro e w3 ⟨rfl, rfl⟩
        go_wp2_with fail
        go_ret
        exact ⟨rfl, k, by omega, by omega, HP2.out, HD2.out, HB2.out⟩
        --Z2>
      · rcases Nat.lt_or_ge 32 (dl N) with h4 | h4
        · --<G2
          have hbd : bdN N = 2 := by unfold bdN; rw [if_neg (by omega), if_pos h4]
          go_enter Tryd.func9, Tryd.ntmps9
          go_wp2_with fail
          rw [HW1.out, HG.out]
          refine (pick_any wh 4 HW.out (by decide) _).mono ?_
          rw [hv]
          rintro e w2 ⟨rfl, rfl⟩
          go_wp2_with fail
          refine (p6scal_long (T0.out.bw HB.out) HP.out HM1.out h4 m (by omega)).mono ?_
          rintro e w2 ⟨rfl, hp2, bx2⟩
          have HP2 := Lib.hid hp2
          have HD2 := Lib.hid (HD.out.bx bx2 (.inl (by omega)))
          have HB2 := Lib.hid (bx2.below HB.out (by omega))
          have d2 := (OB.out.bx bx2 hgp).c2
          have HM2 := Lib.hid (HM0.out.bw HB2.out)
          clear hp2 bx2 HP HD HB e1 e2 k1
          go_wp2_with fail
          refine (bad_any HM2.out).mono ?_
          rw [hbd]
          rintro e w3 ⟨rfl, rfl⟩
          go_wp2_with fail
          refine (code_any 2 (by decide) (by decide) _).mono ?_
          rintro e w3 ⟨rfl, rfl⟩
          go_wp2_with fail
          go_ret
          exact ⟨rfl, k, by omega, by omega, HP2.out, HD2.out, HB2.out⟩
          --G2>
        · --<O2
          have hbd : bdN N = 0 := by unfold bdN; rw [if_neg (by omega), if_neg (by omega)]
          have hN0 : 0 < N := by
            have h0 := HM1.out.pos
            rcases Int.lt_or_le 0 N with g | g
            · exact g
            · obtain rfl : N = 0 := by omega
              unfold dl at h3
              rw [dg_zero] at h3
              simp at h3
          have hmb : mb N ≤ 2048 := by
            unfold mb
            have h1 := nb_le (N := N - 1) (by omega)
            have h2 := dl_mono (show 0 ≤ N - 1 by omega) (show N - 1 ≤ N by omega)
            omega
          go_enter Tryd.func9, Tryd.ntmps9
          go_wp2_with fail
          rw [HW1.out, HG.out]
          refine (pick_any wh 4 HW.out (by decide) _).mono ?_
          rw [hv]
          rintro e w2 ⟨rfl, rfl⟩
          go_wp2_with fail
          refine (p6scal (T0.out.bw HB.out) HP.out (by omega) HM1.out (fun a h1 h2 => by have := HAA.out a h1 h2; omega) hN0 h4 m (by omega)).mono ?_
          rintro e w2 ⟨B2, c2, rfl, hs2, hp2, bx2⟩
          have HP2 := Lib.hid hp2
          have HD2 := Lib.hid (HD.out.bx bx2 (.inl (by omega)))
          have HB2 := Lib.hid (bx2.below HB.out (by omega))
          have OB2 := Lib.hid (OB.out.bx bx2 hgp)
          have HM2 := Lib.hid (HM0.out.bw HB2.out)
          have HS2 := Lib.hid hs2
          have sbr : br < W1.heap.size := HD.out.lt
          have d1 := OB2.out.c1
          have d2 := OB2.out.c2
          have t4 : ((m : Int) != (m : Int)) = false := by simp
          clear hp2 bx2 hs2 k1 e1 e2 HP HD HB OB
          go_wp2_with fail
          refine (bad_any HM2.out).mono ?_
          rw [hbd]
          rintro e w3 ⟨rfl, rfl⟩
          go_wp2_with fail
          go_loopw [16, 17] (fun i _ wr => SlR lb tb br dr seed N k m w2 i wr) (fun i _ _ => m - (intOf i).toNat)
          case atStart => exact ⟨0, Nat.zero_le _, rfl, HD2.out, Bx.refl _ _⟩
          case round =>
            clear d1 d2
            obtain ⟨j, hj, rfl, hdr, hbx⟩ := hrel
            have HDR := Lib.hid hdr
            have HBX := Lib.hid hbx
            have cb := cnt_bd seed N k j
            clear hdr hbx
            rcases Nat.lt_or_ge j m with hlt | hge
            · --<LP
              obtain ⟨gl, off, rfl, hg1, hg2, hg3⟩ := (HS2.out.bx HBX.out sbr).cells (by omega)
              obtain ⟨Aj, nj, cj, x1, x2, x3⟩ := hg3 j hlt
              have CJ := Lib.hid x2
              have neJ : ∀ a, Aj = some a → a.block ≠ br := fun a h => by have := x3 a h; omega
              have NEJ := Lib.hid neJ
              have obr := OB2.out.bx HBX.out hgr
              have kall : ∀ W', Bx br wr W' → W'.cell? ⟨gl, off + j, none⟩ = some (.slice Aj nj cj) ∧ W'.cell? ⟨g, 2, none⟩ = some (.slice A n c) := fun W' hb =>
                ⟨(World.cell?_of_block (hb.block gl hg2 (by omega))).trans x1, (obr.bx hb hgr).c2⟩
              have kA := kall wr (Bx.refl _ _)
              have KALL := Lib.hid kall
              have hMr := HM2.out.bx HBX.out (fun a h1 h2 => by have := HAA.out a h1 h2; omega)
              have HOF := Lib.hid (fun W' (hb : Bx br wr W') => of_newnm (hMr.bx hb (fun a h1 h2 => by have := HAA.out a h1 h2; omega)) (by omega))
              obtain ⟨X, hX⟩ : ∃ X, blw seed N 256 (cnt seed N k j) = X := ⟨_, rfl⟩
              have hXb := blw_bd seed hN0 256 (cnt seed N k j)
              rw [hX] at hXb
              have HX := Lib.hid hX
              have HXB := Lib.hid hXb
              have hdN : ∀ B nB cB W, Rn W B nB cB N → nB ≤ 1000 := fun B nB cB W h => by have h1 := dr_le (Int.le_of_lt hN0) h4; rw [h.len_]; omega
              have hdX : ∀ B nB cB W, Rn W B nB cB X.1 → nB ≤ 1000 := fun B nB cB W h => by have h1 := dr_le (Int.le_of_lt hN0) h4; have h2 := dr_mono HXB.out.1 (Int.le_of_lt HXB.out.2); rw [h.len_]; omega
              have HDN := Lib.hid hdN
              have HDX := Lib.hid hdX
              have HCN := Lib.hid (show nmb seed N k j = X.1 by unfold nmb; rw [hX])
              have HCK := Lib.hid (show cnt seed N k (j + 1) = X.2 by show (blw seed N 256 (cnt seed N k j)).2 = X.2; rw [hX])
              have ckk : cnt seed N k j ≤ 100000000 := by omega
              have hji : (j : Int) < (m : Int) := by omega
              have hBW := Bw.drew wr
              have hrlt := HDR.out.lt
              clear hg3 x1 x2 x3 neJ obr kall hMr hX hXb hdN hdX
              go_wp2_with fail
              go_region_held (fun w' => w'.cell? ⟨gl, off + j, none⟩ = some (.slice Aj nj cj) ∧ w'.cell? ⟨g, 2, none⟩ = some (.slice A n c)) (first | exact kA | exact kB | exact kC | exact kD | exact kE | go_keep | assumption)
                (first
                | (go_at_call 17; (with_reducible refine (HOF.out _ (Bx.drew br wr)).mono ?_); rintro e v1 ⟨B1, n1, c1, rfl, hr1, b1, nw1⟩; have b1 : Bw wr v1 := (Bw.drew wr).trans b1; have x1 := b1.bx br; have kB := KALL.out v1 x1; have HR1 := Lib.hid hr1; have X1 := Lib.hid x1; have l1 := HDN.out _ _ _ _ hr1; have HD1 := Lib.hid (HDR.out.bw b1); have NE1 := Lib.hid (show ∀ a, B1 = some a → a.block ≠ br from fun a h => Nat.ne_of_gt (Nat.lt_of_lt_of_le hrlt (nw1 a h))); clear hr1 b1 nw1 x1)
                | (go_at_call 26; (with_reducible refine (r6below_any HD1.out hs ckk HR1.out l1 NE1.out hN0 hmb).mono ?_); rw [HX.out]; rintro e v2 ⟨B5, n5, c5, rfl, hr5, hd5, bx5⟩; have x5 := X1.out.trans bx5; have kC := KALL.out v2 x5; have HR5 := Lib.hid hr5; have X5 := Lib.hid x5; have l5 := HDX.out _ _ _ _ hr5; have HD5 := Lib.hid hd5; clear hr5 hd5 bx5 x5)
                | (go_at_call 25; (with_reducible refine (to_cn HR5.out (Nat.le_trans l5 (by decide))).mono ?_); rintro e v3 ⟨B6, n6, c6, rfl, hc6, b6⟩; have b6 : Bw v2 v3 := b6; have x6 := X5.out.trans (b6.bx br); have kD := KALL.out v3 x6; have HC6 := Lib.hid hc6; have X6 := Lib.hid x6; have HD6 := Lib.hid (HD5.out.bw b6); have CJ6 := CJ.out.bx x6 NEJ.out; rw [HCN.out] at CJ6; have HCJ6 := Lib.hid CJ6; clear hc6 b6 x6 CJ6)
                | (go_at_call 15; (with_reducible refine (same_cn HCJ6.out HC6.out).mono ?_); rintro e v4 ⟨rfl, b7⟩; have b7 : Bw v3 v4 := b7; have x7 := X6.out.trans (b7.bx br); have kE := KALL.out v4 x7; have X7 := Lib.hid x7; have HD7 := Lib.hid (HD6.out.bw b7); clear b7 x7))
              all_goals
                go_wp2_with fail
                go_roundw
                case rel => exact ⟨j + 1, by omega, by go_num, by rw [HCK.out]; exact HD7.out, HBX.out.trans X7.out⟩
                case measure => simp [intOf]; omega
              --LP>
            · obtain rfl : j = m := by omega
              have hji : decide ((j : Int) < (j : Int)) = false := by simp
              go_wp2_with fail
              go_ret
              exact ⟨rfl, cnt seed N k j, cb.1, by omega, HP2.out.bx HBX.out (.inr (by omega)), HDR.out, HBX.out.below HB2.out (by omega)⟩
          --O2>
theorem step_any (hT : Tabs w0) (hB : Bw w0 w) (hw0 : w0.heap.size ≤ la) (hpr : ta ≤ lb) (hp : Pg w la ta bp dp seed k) (hd : Dr w lb tb br dr seed k) (hs : dr.nS ≤ 1000) (hk : k ≤ 40000000) (hm : Nm w0 A n c N) (hn : n ≤ 40) (hA : ∀ a, A = some a → 0 < n → a.block < w0.heap.size)
    (hwh : -9223372036854775808 ≤ wh ∧ wh ≤ 9223372036854775807) (hnn : -9223372036854775808 ≤ nn ∧ nn ≤ 9223372036854775807) (hN : nn ≤ 60 ∨ 4096 < nn) :
    Calls Tryd.prog 9 #[.pointer (some ⟨bp, 0, none⟩), .pointer (some ⟨br, 0, none⟩), .agg #[.int .i64 wh, .int .i64 nn, .slice A n c]] w (AnsS la ta bp dp lb tb br dr seed k w0) := by
  have hb := pk_bd wh (m := 4) (by decide)
  rcases (show pk wh 4 = 0 ∨ pk wh 4 = 1 ∨ pk wh 4 = 2 ∨ pk wh 4 = 3 by omega) with h | h | h | h
  · exact step0 hT hB hw0 hpr hp hd hs hk hwh hnn hN h
  · exact step1 hT hB hw0 hpr hp hd hs hk hm hn hA hwh hnn h
  · exact step2 hT hB hw0 hpr hp hd hs hk hm hn hA hwh hnn hN h
  · exact step3 hT hB hw0 hpr hp hd hs hk hwh hnn hN h
end
end Go.Proofs.YtbffcgnefkkhoaaDoor
