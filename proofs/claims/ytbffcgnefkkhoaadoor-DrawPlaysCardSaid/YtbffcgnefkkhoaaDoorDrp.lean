/-
  The document's row of draws: what Perm answers.
-/
import Derived.Test.YtbffcgnefkkhoaaDoorDrb
import Derived.Test.YtbffcgnefkkhoaaDoorPkb
namespace Go.Proofs.YtbffcgnefkkhoaaDoor
open Go.RowKit
set_option linter.unusedVariables false
theorem mb_64 {p : Nat} (h : p ≤ 1000000000) : mb ((p : Int) + 1) ≤ 2048 := by
  unfold mb
  rw [show ((p : Int) + 1 - 1) = (p : Int) by omega]
  refine Nat.le_trans (dg_len_le (b := 2) (k := 64) (by decide) (by omega) ?_) (by omega)
  have : (2 : Int) ^ 64 = 18446744073709551616 := by decide
  omega
theorem Cn.bw {w w' : World} {A : Option Addr} {n c : Nat} {N : Int} (h : Cn w A n c N) (hb : Bw w w') : Cn w' A n c N := ⟨h.rd.below hb, h.nc, h.c60, h.pos⟩
theorem Mn.bx {x : Nat} {t : TypeId} {k : IntKind} {w w' : World} {base : Nat} {A : Option Addr} {n c : Nat} {xs : List Int} (h : Mn t k w base A n c xs) (hb : Bx x w w') (hx : ∀ a, A = some a → a.block ≠ x) : Mn t k w' base A n c xs := h.kept hb.kept hx
theorem Mn.bw {t : TypeId} {k : IntKind} {w w' : World} {base : Nat} {A : Option Addr} {n c : Nat} {xs : List Int} (h : Mn t k w base A n c xs) (hb : Bw w w') : Mn t k w' base A n c xs := h.below hb
/-- One digit or none. -/
theorem cn_small {w : World} {A : Option Addr} {n c : Nat} {N : Int} (h : Cn w A n c N) (hN : N < 18446744073709551616) : (N = 0 ∧ n = 0) ∨ (0 < N ∧ n = 1 ∧ ∃ g off, A = some ⟨g, off, none⟩ ∧ g < w.heap.size ∧ w.cell? ⟨g, off, none⟩ = some (.int .u64 N)) := by
  have h0 := h.pos
  rcases Int.lt_or_le 0 N with g | g
  · right
    have e : dg W N = [N] := by
      have hd := dig_dg W_two h0
      have hl : (dg W N).length ≤ 1 := dg_len_le W_two h0 (by have : W ^ 1 = 18446744073709551616 := by decide
                                                              omega)
      have hv := val_dg W_two h0
      match hq : dg W N, hl with
      | [], _ => rw [hq] at hv; simp [val] at hv; omega
      | [x], _ => rw [hq] at hv; simp [val] at hv; rw [hv]
    have hn : n = 1 := by rw [h.len_]; unfold dl; rw [e]; rfl
    subst hn
    obtain ⟨b, off, eA, hb, hc⟩ := h.rd.cells (by omega)
    refine ⟨g, rfl, b, off, eA, hb, ?_⟩
    have := hc 0 N (by rw [e]; rfl)
    simpa using this
  · left
    obtain rfl : N = 0 := by omega
    refine ⟨rfl, ?_⟩
    rw [h.len_]; unfold dl; rw [dg_zero]; rfl
/-- 0 to k - 1, as they are put one behind the other. -/
def PuR (n : Nat) (w : World) (o i : Value) (wr : World) : Prop :=
  ∃ k : Nat, k ≤ n ∧ i = .int .i64 k ∧ wr.ownsRow w.heap.size 3 1 o k ((ups k).map (Value.int .i64)) ∧ Below w.heap.size w wr
/-- The shuffle: what is still to be done gives the same as all of it. -/
def ShR (lo hi b : Nat) (d : DrD) (seed : List Int) (n k base : Nat) (A : Option Addr) (c : Nat) (w : World) (i : Value) (wr : World) : Prop :=
  ∃ (p : Nat) (v : Int) (l : List Int) (kk : Nat), i = .int .i64 v ∧ (v = (p : Int) ∨ (v = -1 ∧ p = 0)) ∧ p ≤ n - 1 ∧ prm seed n k = shf seed p (l, kk) ∧ Mn 3 .i64 wr base A n c l ∧ Dr wr lo hi b d seed kk ∧ kk + 256 * p ≤ k + 256 * n ∧ Bx b w wr
/-- A slice of this row. -/
def AnsM (l : List Int) (n : Nat) (w : World) (A : Option Addr) (c : Nat) (w' : World) : Prop := Mn 3 .i64 w' w.heap.size A n c l
set_option maxHeartbeats 8000000 in
set_option maxRecDepth 100000 in
theorem r6perm_any {w : World} {lo hi b k : Nat} {d : DrD} {seed : List Int} (h : Dr w lo hi b d seed k) (hs : d.nS ≤ 1000) (hk : k ≤ 50000000) (n : Nat) (hn : n ≤ 4096) :
    Calls Tryd.prog 27 #[.pointer (some ⟨b, 0, none⟩), .int .i64 n] w fun e w' => ∃ A c, e = .returned (.slice A n c) ∧ Mn 3 .i64 w' w.heap.size A n c (prm seed n k).1 ∧ Dr w' lo hi b d seed (prm seed n k).2 ∧ Bx b w w' := by
  have HD := Lib.hid h
  have hlt := h.lt
  have HT := Lib.hid h.top
  clear h
  go_enter Tryd.func27, Tryd.ntmps27
  go_wp2_with fail
  go_loopw [5, 6] (fun o i wr => PuR n w o i wr) (fun _ i _ => n - (intOf i).toNat)
  case atStart => exact ⟨0, Nat.zero_le _, rfl, World.ownsRow_nil _ _ _ _, Below.refl _ _⟩
  case round =>
    obtain ⟨j, hj, rfl, ho, hb⟩ := hrel
    have hsz := hb.size
    rcases Nat.lt_or_ge j n with hlt2 | hge
    · --<L1
      have hji : (j : Int) < (n : Int) := by omega
      have HO := Lib.hid ho
      have HB := Lib.hid hb
      clear ho hb
      go_wp2_with (at_builtin; refine wpList_app _ rfl (.tmp 16) (.tmp 18) 42 rfl w.heap.size 3 .i64 Tryd.underlying42 info3 _ j (ups j) rfl (HO.out.alloc _) wr.heap.size (j : Int) rfl (cell_one _ _ _) (by omega) (by simp; omega) ?_)
      rintro v1 w1 h1 g1
      have b1 := own_below (HB.out.alloc hsz _) (HO.out.alloc _) g1 (by simp; omega) (Nat.le_refl _)
      have H1 := Lib.hid h1
      clear h1 g1
      go_wp2_with fail
      go_roundw
      case rel => exact ⟨j + 1, by omega, by go_num, by rw [ups_succ, List.map_append]; exact H1.out, b1⟩
      case measure => simp [intOf]; omega
      --L1>
    · obtain rfl : j = n := by omega
      have hji : decide ((j : Int) < (j : Int)) = false := by simp
      obtain ⟨A2, c2, rfl, hmn⟩ := mn_own ho
      have HMN := Lib.hid hmn
      have hb : Bw w wr := hb
      have HB := Lib.hid hb
      have HD2 := Lib.hid (HD.out.bw hb)
      have neA : ∀ a, A2 = some a → a.block ≠ b := fun a ha => by have := hmn.new a ha; omega
      have NEA := Lib.hid neA
      obtain ⟨w2, rfl⟩ : ∃ w2, w2 = wr := ⟨_, rfl⟩
      clear ho hmn hb HD neA
      go_wp2_with fail
      go_loopw [7, 8, 9, 10] (fun i _ _ _ wr => ShR lo hi b d seed j k w.heap.size A2 c2 w i wr) (fun i _ _ _ _ => (intOf i).toNat)
      case atStart => exact ⟨j - 1, (j : Int) - 1, ups j, k, rfl, by omega, Nat.le_refl _, rfl, HMN.out, HD2.out, by omega, HB.out.bx b⟩
      case round =>
        clear hji
        obtain ⟨p, v, l, kk, rfl, hv, hp, hsh, hm, hdr, hkk, hbx⟩ := hrel
        have HSH := Lib.hid hsh
        have HMM := Lib.hid hm
        have HDR := Lib.hid hdr
        have HBX := Lib.hid hbx
        clear hsh hm hdr hbx
        rcases Nat.eq_zero_or_pos p with g | g
        · --<END
          subst g
          have e1 : decide (0 < v) = false := by simp; omega
          go_wp2_with fail
          go_ret
          have e : prm seed j k = (l, kk) := HSH.out
          exact ⟨A2, c2, rfl, by rw [e]; exact HMM.out, by rw [e]; exact HDR.out, HBX.out⟩
          --END>
        · --<L2
          obtain rfl : v = (p : Int) := by omega
          have hq : p < j := by omega
          obtain ⟨gA, rfl, hgA, ltA⟩ := HMM.out.at0 (by omega)
          have e1 : (0 : Int) < (p : Int) := by omega
          have e2 : IntKind.u64.wrap ((p : Int) + 1) = (p : Int) + 1 := by rw [IntKind.wrap_u64]; omega
          have HOF := Lib.hid (of_new (some ⟨wr.heap.size, 0, none⟩) 1 1 [(p : Int) + 1] (wr.alloc (.cells #[.int .u64 ((p : Int) + 1)] 61))
            ((Row.new wr 61 .u64 [(p : Int) + 1]).rd rfl (fun j y hy => by rwa [Nat.zero_add])) (fun y hy => by simp at hy; subst hy; exact ⟨by omega, by unfold W; omega⟩) (by omega))
          clear hv
          go_wp2_with fail
          refine HOF.out.mono ?_
          rintro e w3 ⟨B3, m3, c3, rfl, hr3, hb3, nw3⟩
          rw [show val W [(p : Int) + 1] = (p : Int) + 1 by simp [val]] at hr3
          have hb3 : Bw wr w3 := below_al1 hb3
          have l3 : m3 ≤ 256 := by
            have : (256 : Int) ^ 8 = 18446744073709551616 := by decide
            rw [hr3.len_]; exact dr_pow (k := 8) (by omega) (by omega) (by omega)
          have ne3 : ∀ a, B3 = some a → a.block ≠ b := fun a ha => by
            have h1 := nw3 a ha
            have h2 := HDR.out.lt
            simp at h1; omega
          have HD3 := Lib.hid (HDR.out.bw hb3)
          have HM3 := Lib.hid (HMM.out.bw hb3)
          have HB3 := Lib.hid (HBX.out.trans (hb3.bx b))
          clear hb3 nw3 HOF HMM HDR HBX
          obtain ⟨X, hX⟩ : ∃ X, blw seed ((p : Int) + 1) 256 kk = X := ⟨_, rfl⟩
          have hXb := blw_bd seed (M := (p : Int) + 1) (by omega) 256 kk
          have hXc := blw_count seed ((p : Int) + 1) 256 kk
          rw [hX] at hXb hXc
          have HX := Lib.hid hX
          obtain ⟨xv, xk⟩ := X
          simp only at hXb hXc
          obtain ⟨jj, rfl⟩ : ∃ jj : Nat, xv = (jj : Int) := ⟨xv.toNat, by omega⟩
          have hjq : jj ≤ p := by omega
          have HST := Lib.hid (show prm seed j k = shf seed (p - 1) (swp l p jj, xk) by
            obtain ⟨q, rfl⟩ : ∃ q, p = q + 1 := ⟨p - 1, by omega⟩
            rw [HSH.out, shf, show ((q : Int) + 2) = ((q + 1 : Nat) : Int) + 1 by omega]
            simp only
            rw [HX.out]
            simp)
          go_wp2_with fail
          refine (r6below_any HD3.out hs (by omega) hr3 (by omega) ne3 (by omega) (mb_64 (by omega))).mono ?_
          rw [hX]
          rintro e w4 ⟨B4, m4, c4, rfl, hr4, hd4, hb4⟩
          have l4 : m4 ≤ 256 := by
            have : (256 : Int) ^ 8 = 18446744073709551616 := by decide
            rw [hr4.len_]; exact dr_pow (k := 8) (by omega) (by simp only; omega) (by omega)
          have HD4 := Lib.hid hd4
          have HM4 := Lib.hid (HM3.out.bx hb4 NEA.out)
          have HB4 := Lib.hid (HB3.out.trans hb4)
          clear hr3 ne3 hX HD3 HM3 HB3 hd4 hb4
          go_wp2_with fail
          refine (to_cn hr4 (by omega)).mono ?_
          rintro e w5 ⟨B5, m5, c5, rfl, hc5, hb5⟩
          have hb5 : Bw w4 w5 := hb5
          have HM5 := HM4.out.bw hb5
          have ci := HM5.cell (j := p) (by omega)
          have cj := HM5.cell (j := jj) (by omega)
          have bi1 : (p : Int) < (j : Int) := by omega
          have bi2 : (jj : Int) < (j : Int) := by omega
          have bi3 : (0 : Int) ≤ (jj : Int) := by omega
          have fi := HM5.frozen (j := p) (by omega)
          have fj := HM5.frozen (j := jj) (by omega)
          have cs2 := (HM5.set (j := p) (by omega) (dig l jj)).cell (j := jj) (by omega)
          have MS := Lib.hid (show Mn 3 .i64 ((w5.setCell ⟨gA, p, none⟩ (.int .i64 (dig l jj))).setCell ⟨gA, jj, none⟩ (.int .i64 (dig l p))) w.heap.size (some ⟨gA, 0, none⟩) j c2 (swp l p jj) from
            (HM5.set (by omega) _).set (by omega) _)
          have BS := Lib.hid (((HB4.out.trans (hb5.bx b)).set_new hgA p (.int .i64 (dig l jj))).set_new hgA jj (.int .i64 (dig l p)))
          have DS := Lib.hid (((HD4.out.bw hb5).bx (Bx.set gA p w5 (.int .i64 (dig l jj))) (.inr (Nat.le_trans HT.out hgA))).bx (Bx.set gA jj _ (.int .i64 (dig l p))) (.inr (Nat.le_trans HT.out hgA)))
          obtain ⟨di, hdi⟩ : ∃ di, dig l p = di := ⟨_, rfl⟩
          obtain ⟨dj, hdj⟩ : ∃ dj, dig l jj = dj := ⟨_, rfl⟩
          rw [hdi] at ci
          rw [hdj] at cj
          rw [hdi, hdj] at MS BS DS
          rw [hdj] at cs2
          obtain ⟨v2, hv2⟩ : ∃ v2, dig (l.set p dj) jj = v2 := ⟨_, rfl⟩
          rw [hv2] at cs2
          clear hdi hdj hv2
          clear HM5 hb5 HM4 HB4 HD4 hr4
          rcases cn_small hc5 (by omega) with ⟨e0, rfl⟩ | ⟨g0, rfl, g5, o5, rfl, -, hcx⟩
          · obtain rfl : jj = 0 := by omega
            clear hc5
            go_wp2_with fail
            go_roundw
            case rel => exact ⟨p - 1, _, _, _, rfl, .inl (by omega), by omega, HST.out, MS.out, DS.out, by omega, BS.out⟩
            case measure => simp [intOf]; omega
          · clear hc5
            go_wp2_with fail
            go_roundw
            case rel => exact ⟨p - 1, _, _, _, rfl, .inl (by omega), by omega, HST.out, MS.out, DS.out, by omega, BS.out⟩
            case measure => simp [intOf]; omega
          --L2>
end Go.Proofs.YtbffcgnefkkhoaaDoor
