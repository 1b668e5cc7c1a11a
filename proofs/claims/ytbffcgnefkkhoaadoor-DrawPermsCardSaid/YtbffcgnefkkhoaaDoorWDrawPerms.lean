/-
  DrawPerms, walked: it answers true, whatever comes in.
-/
import Derived.Test.YtbffcgnefkkhoaaDoorUp6
import Derived.Test.YtbffcgnefkkhoaaDoorPkf
import Derived.Test.YtbffcgnefkkhoaaDoorStr
import Derived.Test.YtbffcgnefkkhoaaDoorPkb
namespace Go.Proofs.YtbffcgnefkkhoaaDoor
open Go.RowKit
set_option linter.unusedVariables false
/-! ### A row of Booleans -/
theorem infoB : (Tryd.prog.info? 4).map (fun i => (i.zero, i.size, i.bytes)) = some (some (.bool false), 1, 1) := by kernel_rfl
theorem madeB (n : Nat) : madeCells (Value.cells (.bool false)) (n * 1) = (List.replicate n (Value.bool false)).toArray := by
  apply Array.ext'
  rw [Nat.mul_one]
  show (madeCells #[Value.bool false] n).toList = _
  rw [toList_madeCells_one]
theorem run_makeB (n : Nat) (hn : n ≤ 1000) (w : World) : (Instr.makeSlice 47 (.int .i64 (n : Int)) (.int .i64 (n : Int))).run Tryd.prog w =
    .ok (.slice (some ⟨w.heap.size, 0, none⟩) n n) (w.alloc (.cells (List.replicate n (Value.bool false)).toArray 4)) := by
  obtain ⟨i0, hi, hz0, hz1, hz2⟩ := info_parts infoB
  have hr := run_make (P := Tryd.prog) w 47 4 i0 (.bool false) Tryd.underlying47 hi hz0 .i64 .i64 n n (by omega) (by omega) (by rw [hz2]; omega) (by omega)
  rw [hz1, madeB] at hr
  simpa using hr
/-- Which numbers are among the first j. -/
def sb (l : List Int) (j t : Nat) : Bool := (List.range j).any fun r => dig l r == (t : Int)
theorem sb_zero (l : List Int) (t : Nat) : sb l 0 t = false := rfl
theorem sb_succ (l : List Int) (j t : Nat) : sb l (j + 1) t = (sb l j t || dig l j == (t : Int)) := by simp [sb, List.range_succ]
theorem sb_not {l : List Int} {j t : Nat} (h : ∀ r, r < j → dig l r ≠ (t : Int)) : sb l j t = false := by
  unfold sb
  rw [List.any_eq_false]
  intro r hr
  simp [h r (List.mem_range.1 hr)]
structure Seen (w : World) (g m : Nat) (l : List Int) (j : Nat) : Prop where
  ex : ∃ cur : Array Value, w.heap[g]? = some (.cells cur 4 (0, 0)) ∧ cur.size = m ∧ ∀ t, t < m → cur[t]? = some (.bool (sb l j t))
theorem Seen.new (w : World) (m : Nat) (l : List Int) : Seen (w.alloc (.cells (List.replicate m (Value.bool false)).toArray 4)) w.heap.size m l 0 :=
  ⟨_, heap_alloc_new w _, by simp, fun t ht => by simp [ht, sb_zero]⟩
theorem Seen.drewN {w : World} {g m j : Nat} {l : List Int} (h : Seen w g m l j) (q : Nat) : Seen (w.drewN q) g m l j := ⟨h.ex⟩
theorem Seen.cell {w : World} {g m j : Nat} {l : List Int} (h : Seen w g m l j) {t : Nat} (ht : t < m) : w.cell? ⟨g, t, none⟩ = some (.bool (sb l j t)) := by
  obtain ⟨cur, h1, h2, h3⟩ := h.ex
  exact (cell_of_row w g t _ _ _ h1).trans (h3 t ht)
theorem Seen.frozen {w : World} {g m j : Nat} {l : List Int} (h : Seen w g m l j) (t : Nat) : w.frozen? ⟨g, t, none⟩ = false := by
  obtain ⟨cur, h1, -⟩ := h.ex
  exact frozen_of_row w g t _ _ h1
theorem Seen.set {w : World} {g m j t : Nat} {l : List Int} (h : Seen w g m l j) (ht : t < m) (hv : dig l j = (t : Int)) : Seen (w.setCell ⟨g, t, none⟩ (.bool true)) g m l (j + 1) := by
  obtain ⟨cur, h1, h2, h3⟩ := h.ex
  refine ⟨_, heap_setCell_same w g t _ _ _ h1, by simpa using h2, fun t' ht' => ?_⟩
  rw [Array.getElem?_setIfInBounds, sb_succ, hv]
  by_cases e : t = t'
  · subst e
    rw [if_pos rfl, if_pos (by omega)]
    simp
  · rw [if_neg e, h3 t' ht']
    have : (((t : Int) == (t' : Int))) = false := by simp; omega
    rw [this, Bool.or_false]
/-- What comes in is overwritten. -/
def ZoR (gO s : Nat) (A : Option Addr) (n c : Nat) (W : World) (i : Value) (wr : World) : Prop :=
  ∃ (q : Nat) (ys : List Int), q ≤ n ∧ i = .int .i64 q ∧ Mn 5 .u8 wr s A n c ys ∧ Bx gO W wr
/-- The numbers seen so far. -/
def SnR (gs m : Nat) (l : List Int) (W : World) (i : Value) (wr : World) : Prop :=
  ∃ j : Nat, j ≤ m ∧ i = .int .i64 j ∧ Seen wr gs m l j ∧ Bx gs W wr
set_option maxHeartbeats 16000000 in
set_option maxRecDepth 100000 in
theorem drawPerms_walk {a : Option Addr} {na ca : Nat} {zs : List Int} {w : World} (ha : IsRow .u8 1 w a na ca zs) (sa : ∀ x, a = some x → x.spot = none) (x : Int) (hx : -9223372036854775808 ≤ x ∧ x ≤ 9223372036854775807) {A : Option Addr} {n c : Nat} {xs : List Int} (hm : Told w A n c xs) (hT : Tabs w) :
    Calls Tryd.prog 4 #[.slice a na ca, .int .i64 x, .slice A n c] w fun e w' => e = .returned (.bool true) ∧ Below w.heap.size w w' := by
  have T0 := Lib.hid hT
  obtain ⟨N, hN⟩ : ∃ N, val W xs = N := ⟨_, rfl⟩
  have hnm := hm.nm
  rw [hN] at hnm
  have HM := Lib.hid hnm
  have HRD := Lib.hid hm.rd
  have HA := Lib.hid ha
  have SA := Lib.hid sa
  have HX := Lib.hid hx
  have hnc := hm.nc
  have n60 := hm.c60
  have hna := ha.nc
  clear hT hm hnm ha sa hx hN
  go_enter Tryd.func4, Tryd.ntmps4
  go_wp2_with fail
  refine (up6_any T0.out).mono ?_
  rintro e w1 ⟨rfl, b1⟩
  have b1 : Bw w w1 := b1
  have HB1 := Lib.hid b1
  clear b1
  rcases Nat.lt_or_ge 500 na with h1 | h1
  · --<E1
    have t1 : decide ((500 : Int) < (na : Int)) = true := by simp; omega
    go_wp2_with fail
    go_ret
    exact ⟨rfl, HB1.out⟩
    --E1>
  · have t1 : decide ((500 : Int) < (na : Int)) = false := by simp; omega
    rcases Nat.lt_or_ge 32 n with h2 | h2
    · --<E2
      have t2 : decide ((32 : Int) < (n : Int)) = true := by simp; omega
      go_wp2_with fail
      go_ret
      exact ⟨rfl, HB1.out⟩
      --E2>
    · have t2 : decide ((32 : Int) < (n : Int)) = false := by simp; omega
      obtain ⟨v, hv⟩ : ∃ v, pk x 300 = v := ⟨_, rfl⟩
      have vb := pk_bd x (m := 300) (by decide)
      rw [hv] at vb
      obtain ⟨seed, hseed⟩ : ∃ seed, (zs.take na).take (min na 500) = seed := ⟨_, rfl⟩
      have bs := HA.out.bs_cut SA.out (m := 500) (by omega)
      rw [hseed, Nat.min_eq_left h1] at bs
      have BS0 := Lib.hid bs
      have HL := Lib.hid bs.rd.len
      have HDG := Lib.hid bs.dig_
      obtain ⟨s, hs⟩ : ∃ s, w1.heap.size = s := ⟨_, rfl⟩
      have HS := Lib.hid hs
      have sw : w.heap.size ≤ s := by rw [← hs]; exact Below.size HB1.out
      have HO0 := Lib.hid (own_none_at w1 5 .u8 (base := s) hs (Nat.le_refl _))
      have HR0 := Lib.hid ((bs.bw HB1.out).rd.alloc (.cells #[] 5))
      clear bs hseed hs
      go_wp2_with fail
      refine (pick_any x 300 HX.out (by decide) _).mono ?_
      rintro e w2 ⟨rfl, rfl⟩
      rw [hv]
      obtain ⟨m, rfl⟩ : ∃ m : Nat, v = (m : Int) := ⟨v.toNat, by omega⟩
      have m300 : m < 300 := by omega
      clear hv
      go_wp2_with (at_builtin; refine wpList_cat8 _ rfl (.tmp 35) (.tmp 36) 22 rfl s 5 .u8 Tryd.underlying22 info8u _ 0 [] rfl (by rw [HS.out]; exact HO0.out) a na ca seed rfl HR0.out (by omega) (by simp; have := HS.out; omega) ?_)
      rintro v1 w2 g1 g2
      have b2 := own_below ((Below.refl s w1).alloc (by have := HS.out; omega) _) (by rw [HS.out]; exact HO0.out) g2 (by simp; have := HS.out; omega) (Nat.le_refl _)
      have sz2 : s < w2.heap.size := by have := g2.size; simp at this; have := HS.out; omega
      have o1 : Own8 w2 s v1 seed := Own8.app (xs := []) rfl HL.out (by simpa using g1)
      obtain ⟨A1, c1, e1, mn1⟩ := mn_own (t := 5) (k := .u8) (xs := seed) (n := na) (show w2.ownsRow s 5 1 v1 na (seed.map (Value.int .u8)) from by have h := o1; unfold Own8 at h; rw [HL.out] at h; exact h)
      subst e1
      obtain ⟨A1', c1', e1, bs1⟩ := o1.bs HDG.out (by rw [HL.out]; omega)
      rw [HL.out] at bs1 e1
      injection e1 with e1 e2 e3
      subst e1 e3
      obtain ⟨gO, q1, q2, q3⟩ : ∃ gO, (∀ a, A1 = some a → a.block = gO) ∧ s ≤ gO ∧ gO < w2.heap.size := by
        cases A1 with
        | none => exact ⟨s, fun a h => by (cases h), Nat.le_refl _, sz2⟩
        | some aa => exact ⟨aa.block, fun a h => by (injection h with h; subst h; rfl), mn1.new _ rfl, mn1.lt _ rfl⟩
      have HB2 := Lib.hid (HB1.out.trans (show Bw w1 w2 from by have h := b2; rw [← HS.out] at h; exact h))
      have MN1 := Lib.hid mn1
      have BS1 := Lib.hid bs1
      have Q1 := Lib.hid q1
      clear g1 g2 b2 o1 mn1 bs1 q1 HO0 HR0 e2
      go_wp2_with fail
      refine (p6new (T0.out.bw HB2.out) BS1.out (by omega)).mono ?_
      rintro e w3 ⟨ba, da, rfl, hpa, b3⟩
      obtain ⟨la, hla⟩ : ∃ la, w2.heap.size = la := ⟨_, rfl⟩
      obtain ⟨ta, hta⟩ : ∃ ta, w3.heap.size = ta := ⟨_, rfl⟩
      rw [hla, hta] at hpa
      rw [hla] at q3
      have HPA3 := Lib.hid hpa
      have MN3 := Lib.hid (MN1.out.bw b3)
      have HB3 := Lib.hid (HB2.out.trans b3)
      clear hpa b3 MN1 BS1 HB2 hla hta
      go_wp2_with fail
      go_loopw [10] (fun i wr => ZoR gO s A1 na c1 w3 i wr) (fun i _ => na - (intOf i).toNat)
      case atStart => exact ⟨0, _, Nat.zero_le _, rfl, MN3.out, Bx.refl _ _⟩
      case round =>
        obtain ⟨q, ys, hq, rfl, hmn, hbx⟩ := hrel
        rcases Nat.lt_or_ge q na with hlt | hge
        · --<LZ
          obtain ⟨g, rfl, hg, ltg⟩ := hmn.at0 (by omega)
          have hgo : g = gO := Q1.out _ rfl
          subst hgo
          have hqi : (q : Int) < (na : Int) := by omega
          have cc := hmn.cell hlt
          have ff := hmn.frozen hlt
          have MS := Lib.hid (hmn.set hlt 0)
          have BS := Lib.hid (hbx.trans (Bx.set g q wr (.int .u8 0)))
          clear hmn hbx
          go_wp2_with fail
          go_roundw
          case rel => exact ⟨q + 1, _, by omega, by go_num, MS.out, BS.out⟩
          case measure => simp [intOf]; omega
          --LZ>
        · obtain rfl : q = na := by omega
          have hqi : decide ((q : Int) < (q : Int)) = false := by simp
          obtain ⟨w4, rfl⟩ : ∃ w4, w4 = wr := ⟨_, rfl⟩
          have HB4 := Lib.hid (hbx.below HB3.out (by omega))
          have HPA4 := Lib.hid (HPA3.out.bx hbx (.inl q3))
          have law : w.heap.size ≤ ba := by have := HPA3.out.blo; omega
          have hta : ta ≤ w4.heap.size := Nat.le_trans HPA3.out.top hbx.size
          clear hmn hbx HPA3 HB3 MN3
          --<REST
          go_wp2_with fail
          refine (p6new (T0.out.bw HB4.out) (BS0.out.bw HB4.out) (by omega)).mono ?_
          rintro e w5 ⟨bb, db, rfl, hpb, b5⟩
          obtain ⟨lb, hlb⟩ : ∃ lb, w4.heap.size = lb := ⟨_, rfl⟩
          obtain ⟨tb, htb⟩ : ∃ tb, w5.heap.size = tb := ⟨_, rfl⟩
          rw [hlb, htb] at hpb
          rw [hlb] at hta
          have HPB5 := Lib.hid hpb
          have HPA5 := Lib.hid (HPA4.out.bw b5)
          have HB5 := Lib.hid (HB4.out.trans b5)
          have sba : ba < ta := HPA4.out.bhi
          have slb : lb ≤ bb := hpb.blo
          have sbb : bb < tb := hpb.bhi
          have lbw : w.heap.size ≤ bb := by omega
          clear hpb b5 HPA4 HB4 hlb
          go_wp2_with fail
          refine (p6perm (T0.out.bw HB5.out) HPA5.out (by omega) m (by omega)).mono ?_
          rintro e w6 ⟨A6, c6, rfl, mn6, hpa6, bx6⟩
          obtain ⟨kc, hkc⟩ : ∃ kc, (prm seed m 0).2 = kc := ⟨_, rfl⟩
          have kcb := prm_count seed m 0
          rw [hkc] at hpa6 kcb
          rw [htb] at mn6
          have HPA6 := Lib.hid hpa6
          have HPB6 := Lib.hid (HPB5.out.bx bx6 (.inl (by omega)))
          have HB6 := Lib.hid (bx6.below HB5.out law)
          have MN6 := Lib.hid mn6
          have htb6 : tb ≤ w6.heap.size := by rw [← htb]; exact bx6.size
          clear hpa6 bx6 mn6 HPA5 HPB5 HB5
          go_wp2_with fail
          refine (p6perm (T0.out.bw HB6.out) HPB6.out (by omega) m (by omega)).mono ?_
          rintro e w7 ⟨A7, c7, rfl, mn7, hpb7, bx7⟩
          rw [hkc] at hpb7
          have ne6 : ∀ a, A6 = some a → a.block ≠ bb := fun a h => by have := MN6.out.new a h; omega
          have MN67 := Lib.hid (MN6.out.bx bx7 ne6)
          have MN7 := Lib.hid (mn7.base_ htb6)
          have HPA7 := Lib.hid (HPA6.out.bx bx7 (.inr (by omega)))
          have HPB7 := Lib.hid hpb7
          have HB7 := Lib.hid (bx7.below HB6.out lbw)
          have hmk := fun W => run_makeB m (by omega) W
          have LL := Lib.hid (prm_len seed m 0)
          have LB := Lib.hid (fun i (hi : i < m) => prm_bd seed m 0 hi)
          have LI := Lib.hid (fun i j (hi : i < m) (hj : j < m) => prm_inj seed m 0 hi hj)
          obtain ⟨l, hl⟩ : ∃ l, (prm seed m 0).1 = l := ⟨_, rfl⟩
          rw [hl] at MN67 MN7 LL LB LI
          clear mn7 hpb7 bx7 ne6 hl hkc htb HPA6 HPB6 HB6 MN6
          have t4 : ((m : Int) != (m : Int)) = false := by simp
          go_wp2_with fail
          clear hmk
          have SN := Lib.hid (Seen.new w7 m l)
          go_loopw [17] (fun i wr => SnR w7.heap.size m l (w7.alloc (.cells (List.replicate m (Value.bool false)).toArray 4)) i wr) (fun i _ => m - (intOf i).toNat)
          case atStart => exact ⟨0, Nat.zero_le _, rfl, SN.out, Bx.refl _ _⟩
          case round =>
            clear SN
            obtain ⟨j, hj, rfl, hsn, hbx⟩ := hrel
            have HBX := Lib.hid (((Bw.alloc w7 (.cells (List.replicate m (Value.bool false)).toArray 4)).bx w7.heap.size).trans hbx)
            have HSN := Lib.hid hsn
            have HBXA := Lib.hid hbx
            clear hsn hbx
            rcases Nat.lt_or_ge j m with hlt2 | hge2
            · --<LS
              obtain ⟨g6, rfl, hg6, lt6⟩ := MN67.out.at0 (by omega)
              obtain ⟨g7, rfl, hg7, lt7⟩ := MN7.out.at0 (by omega)
              have cp := (MN67.out.bx HBX.out (fun a h => by injection h with h; subst h; show g6 ≠ w7.heap.size; omega)).cell hlt2
              have cq := (MN7.out.bx HBX.out (fun a h => by injection h with h; subst h; show g7 ≠ w7.heap.size; omega)).cell hlt2
              have hbd := LB.out j hlt2
              obtain ⟨t, ht⟩ : ∃ t : Nat, dig l j = (t : Int) := ⟨(dig l j).toNat, by omega⟩
              rw [ht] at cp cq hbd
              have htm : t < m := by omega
              have hsb : sb l j t = false := sb_not fun r hr e => by
                have := LI.out r j (by omega) hlt2 (e.trans ht.symm)
                omega
              have cs := HSN.out.cell htm
              rw [hsb] at cs
              have fs := HSN.out.frozen t
              have hji : (j : Int) < (m : Int) := by omega
              have d1 : decide ((t : Int) < 0) = false := by simp
              have d2 : decide ((m : Int) ≤ (t : Int)) = false := by simp; omega
              have d3 : (0 : Int) ≤ (t : Int) := by omega
              have d4 : (t : Int) < (m : Int) := by omega
              have d5 : ((t : Int) != (t : Int)) = false := by simp
              have SS := Lib.hid (fun q => (HSN.out.drewN q).set htm ht)
              have BB := Lib.hid (fun q => (HBXA.out.trans (Bw.bx (show Bw wr (wr.drewN q) from below_drewN (Below.refl _ _) q) w7.heap.size)).trans (Bx.set w7.heap.size t (wr.drewN q) (.bool true)))
              clear hbd ht hsb
              go_wp2_with fail
              go_quiet (fail)
              go_wp2_with fail
              go_roundw
              case rel => exact ⟨j + 1, by omega, by go_num, SS.out _, BB.out _⟩
              case measure => simp [intOf]; omega
              --LS>
            · obtain rfl : j = m := by omega
              have hji : decide ((j : Int) < (j : Int)) = false := by simp
              obtain ⟨w8, rfl⟩ : ∃ w8, w8 = wr := ⟨_, rfl⟩
              have w7w : w.heap.size ≤ w7.heap.size := Below.size HB7.out
              have HPA8 := Lib.hid (HPA7.out.bx HBX.out (.inr HPA7.out.top))
              have HPB8 := Lib.hid (HPB7.out.bx HBX.out (.inr HPB7.out.top))
              have HB8 := Lib.hid (HBX.out.below HB7.out w7w)
              have HM8 := Lib.hid (HM.out.bw HB8.out)
              clear HPA7 HPB7 HB7 HBX HBXA HSN LB LI LL MN67 MN7
              --<TAIL
              go_wp2_with fail
              refine (Limbs_nm HM8.out).mono ?_
              rintro e w9 ⟨rfl, rfl⟩
              have hdl : dl N ≤ n := by
                obtain ⟨⟨ys, y1, y2, y3⟩, -, -, -⟩ := HM8.out
                exact dl_le (N := N) (k := n) HM8.out.pos (by rw [← y3, ← y1.len]; exact val_lt (by decide) y2)
              obtain ⟨u, hu⟩ : ∃ u, dl N = u := ⟨_, rfl⟩
              have HU := Lib.hid hu
              rw [hu] at hdl ⊢
              clear hu
              rcases Nat.eq_zero_or_pos u with h3 | h3
              · subst h3
                go_wp2_with fail
                go_ret
                exact ⟨rfl, HB8.out⟩
              · have t3 : ((u : Int) == 0) = false := by simp; omega
                have hN0 : 0 < N := by
                  have h0 := HM8.out.pos
                  rcases Int.lt_or_le 0 N with g | g
                  · exact g
                  · obtain rfl : N = 0 := by omega
                    have := HU.out
                    unfold dl at this
                    rw [dg_zero] at this
                    simp at this; omega
                have hl32 : dl N ≤ 32 := by rw [HU.out]; omega
                have neM : ∀ a, A = some a → 0 < n → a.block < w.heap.size := fun a hh hn => by
                  obtain ⟨b0, o0, e0, l0, -⟩ := HRD.out.cells hn
                  rw [hh] at e0; injection e0 with e0; subst e0; exact l0
                have NEM := Lib.hid neM
                clear neM
                go_wp2_with fail
                refine (p6below (T0.out.bw HB8.out) HPA8.out (by omega) HM8.out (fun a hh hn => by have := NEM.out a hh hn; omega) hN0 hl32).mono ?_
                rintro e w9 ⟨B9, n9, c9, rfl, hc9, nw9, hpa9, bx9⟩
                obtain ⟨X, hX⟩ : ∃ X, (blw seed N 256 kc).1 = X := ⟨_, rfl⟩
                have hXb := blw_bd seed hN0 256 kc
                rw [hX] at hc9 hXb
                have HC9 := Lib.hid hc9
                have HPB9 := Lib.hid (HPB8.out.bx bx9 (.inl (by omega)))
                have HB9 := Lib.hid (bx9.below HB8.out law)
                have ne9 : ∀ a, B9 = some a → a.block ≠ bb := fun a h => by have h1 := nw9 a h; have h2 := HPB8.out.lt; omega
                have NE9 := Lib.hid ne9
                clear hc9 nw9 hpa9 bx9 ne9 HPA8 HPB8 HB8 HM8
                have hM9 := HM.out.bw HB9.out
                go_wp2_with fail
                refine (p6below (T0.out.bw HB9.out) HPB9.out (by omega) hM9 (fun a hh hn => by have := NEM.out a hh hn; omega) hN0 hl32).mono ?_
                rw [hX]
                rintro e w10 ⟨B10, n10, c10, rfl, hc10, -, -, bx10⟩
                have HC10 := Lib.hid hc10
                have HC9' := Lib.hid (HC9.out.bx bx10 NE9.out)
                have HB10 := Lib.hid (bx10.below HB9.out lbw)
                clear hc10 bx10 HC9 HPB9 HB9 hM9 hX
                go_wp2_with fail
                refine (same_cn HC9'.out HC10.out).mono ?_
                rintro e w11 ⟨rfl, b11⟩
                have b11 : Bw w10 w11 := b11
                have HC11 := Lib.hid (HC9'.out.bw b11)
                have HB11 := Lib.hid (HB10.out.trans b11)
                have n9s : n9 ≤ 32 := by
                  have e1 := HC9'.out.len_
                  have e2 := dl_mono hXb.1 (Int.le_of_lt hXb.2)
                  omega
                clear b11 HC9' HC10 HB10
                go_wp2_with fail
                refine (of_nm HC11.out.nm (by omega)).mono ?_
                rintro e w12 ⟨B12, n12, c12, rfl, hr12, b12⟩
                have b12 : Bw w11 w12 := b12
                have HR12 := Lib.hid hr12
                have HB12 := Lib.hid (HB11.out.trans b12)
                clear hr12 b12 HC11 HB11
                have hM12 := HM.out.bw HB12.out
                go_wp2_with fail
                refine (of_nm hM12 (by omega)).mono ?_
                rintro e w13 ⟨B13, n13, c13, rfl, hr13, b13⟩
                have b13 : Bw w12 w13 := b13
                have HR12' := Lib.hid (HR12.out.bw b13)
                have HB13 := Lib.hid (HB12.out.trans b13)
                have l13 : n13 ≤ 128 := by have h1 := dr_le (Int.le_of_lt hN0) hl32; rw [hr13.len_]; omega
                have l12 : n12 ≤ 128 := by have h1 := dr_mono hXb.1 (Int.le_of_lt hXb.2); have h2 := dr_le (Int.le_of_lt hN0) hl32; rw [HR12.out.len_]; omega
                have HR13 := Lib.hid hr13
                have e1 : decide (cmpI X N < 0) = true := by rw [cmpI_lt hXb.2]; rfl
                clear hr13 b13 HR12 HB12 hM12
                go_wp2_with fail
                refine (rcmp_v HR12'.out HR13.out (by omega) (by omega)).mono ?_
                rintro e w14 ⟨rfl, b14⟩
                have b14 : Bw w13 w14 := b14
                have HB14 := Lib.hid (HB13.out.trans b14)
                clear b14
                go_wp2_with fail
                go_ret
                exact ⟨rfl, HB14.out⟩
              --TAIL>
          --REST>
end Go.Proofs.YtbffcgnefkkhoaaDoor
