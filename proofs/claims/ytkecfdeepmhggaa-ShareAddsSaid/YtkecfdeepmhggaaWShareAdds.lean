/-
  ShareAdds answers true: shares of two polynomials, added, are the shares of their sum; commitments, multiplied, are its commitments.
-/
import Derived.Test.YtkecfdeepmhggaaPnc
import Derived.Test.YtkecfdeepmhggaaPkm
namespace Go.Proofs.Ytkecfdeepmhggaa
open Go.RowKit
set_option linter.unusedVariables false
set_option maxRecDepth 100000 in
theorem gp_eqA (b : Nat) : ∀ w : World, (binOp .eql 27 (.pointer (some ⟨b, 0, none⟩)) (.pointer none)).run Try.prog w = .ok (.bool false) w := fun _ => rfl
set_option maxRecDepth 100000 in
theorem mp_eqA (b : Nat) : ∀ w : World, (binOp .eql 46 (.pointer (some ⟨b, 0, none⟩)) (.pointer none)).run Try.prog w = .ok (.bool false) w := fun _ => rfl
/-- The two polynomials and their sum, so far. -/
def AdR (Q : Int) (Sa Sb : Nat → Nsl) (k : Nat) (w : World) (v1 v2 v3 i : Value) (wr : World) : Prop :=
  ∃ (t : Nat) (c : Nat → Nat) (U : Nat → Nsl), t ≤ k ∧ i = .int .i64 t ∧ Lst kNm 25 1 c wr w.heap.size v1 t (fun j => scN (Sa j)) ∧ Lst kNm 25 2 c wr w.heap.size v2 t (fun j => scN (Sb j)) ∧ Lst kNm 25 3 c wr w.heap.size v3 t U ∧
    (∀ u, u < t → (U u).N = ((scN (Sa u)).N + (scN (Sb u)).N) % Q) ∧ Col wr c ∧ Old9 w c ∧ Below w.heap.size w wr
def AjR (q : Nat) (w : World) (i : Value) (wr : World) : Prop := ∃ j : Nat, j ≤ q ∧ i = .int .i64 j ∧ Below w.heap.size w wr
theorem add_vl9 {Q y : Int} {a b u : Nat → Int} {n : Nat} (h : ∀ i, i < n → u i = (a i + b i) % Q) : (vlN Q a y n + vlN Q b y n) % Q = vlN Q u y n := by
  rw [vlN_is, vlN_is, vlN_is, ← Int.add_emod, ← pvl_add]
  exact ((pvl_congr (Q := Q) (fun t ht => by rw [h t ht]; exact Eqm.mod _ _) (Eqm.refl Q y)).emod).symm
set_option maxHeartbeats 16000000 in
set_option maxRecDepth 100000 in
theorem shareAdds_walk {w : World} (x : Int) (hx : -9223372036854775808 ≤ x ∧ x ≤ 9223372036854775807) {A B : Option Addr} {na ca nb cb : Nat} {Sa Sb : Nat → Nsl} (ha : Ns w A na ca Sa) (hb : Ns w B nb cb Sb) (m : Int) (hm : -9223372036854775808 ≤ m ∧ m ≤ 9223372036854775807) :
    Calls Try.prog 4 #[.int .i64 x, .slice A na ca, .slice B nb cb, .int .i64 m] w (AnsV (.bool true) w) := by
  have HX := Lib.hid hx
  have HM := Lib.hid hm
  have HA := Lib.hid ha
  have HB := Lib.hid hb
  have n60 := ha.c60
  have n61 := hb.c60
  have he0 := neq0_9
  have he1 := eq_nil9
  clear hx hm ha hb
  go_enter Try.func4, Try.ntmps4
  go_wp2_with fail
  refine (up9_any _).mono ?_
  rintro e w1 ⟨rfl, b1⟩
  have B1 := Lib.hid b1
  clear b1
  go_wp2_with fail
  refine (known_any x HX.out w1).mono ?_
  rintro e w2 ⟨Ak, nk, ck, Ak', nk', ck', rfl, kg, b2⟩
  have B2 := Lib.hid (B1.out.trans (b2.mono B1.out.size))
  have KGG := Lib.hid kg
  clear kg b2
  go_wp2_with fail
  refine (kg_new (kix_lt x) KGG.out).mono ?_
  rintro e w3 ⟨b, d, rfl, gr, -, -, -, b3, -, -⟩
  have q1 := gp_eqA b
  have B3 := Lib.hid (B2.out.trans (b3.mono B2.out.size))
  have GR := Lib.hid gr
  clear gr b3 KGG
  go_wp2_with fail
  refine (gscalars_any GR.out.toGr0).mono ?_
  rintro e w4 ⟨bs, Am, cm, low, Bm, cB, Sm, cS, rfl, -, b4, -⟩
  have q2 := mp_eqA bs
  have B4 := Lib.hid (B3.out.trans (b4.mono B3.out.size))
  have GR4 := Lib.hid (GR.out.below b4)
  clear b4 GR
  obtain ⟨k0, hk0⟩ : ∃ k0, min na nb = k0 := ⟨_, rfl⟩
  obtain ⟨k, hk⟩ : ∃ k, min k0 5 = k := ⟨_, rfl⟩
  have K0 := Lib.hid hk0
  have KK := Lib.hid hk
  have k05 : k ≤ 5 := by omega
  clear hk0 hk
  go_upto_if 61 with fail
  go_cut [12] from 62 to 63 (fun v wx => v = .int .i64 k0 ∧ w4 = wx)
  case first =>
    have hk0 := K0.out
    rcases Nat.lt_or_ge nb na with g | g
    · have d1 : decide ((nb : Int) < (na : Int)) = true := by simp; omega
      obtain rfl : k0 = nb := by omega
      clear hk0
      go_wp2_with fail
      go_meet
      exact ⟨rfl, rfl⟩
    · have d1 : decide ((nb : Int) < (na : Int)) = false := by simp; omega
      obtain rfl : k0 = na := by omega
      clear hk0
      go_wp2_with fail
      go_meet
      exact ⟨rfl, rfl⟩
  case rest =>
  obtain ⟨rfl, rfl⟩ := hcut
  go_upto_if 65 with fail
  go_cut [12] from 66 to 66 (fun v wx => v = .int .i64 k ∧ w4 = wx)
  case first =>
    have hk := KK.out
    rcases Nat.lt_or_ge 5 k0 with g | g
    · have d1 : decide ((5 : Int) < (k0 : Int)) = true := by simp; omega
      obtain rfl : k = 5 := by omega
      clear hk
      go_wp2_with fail
      go_meet
      exact ⟨rfl, rfl⟩
    · have d1 : decide ((5 : Int) < (k0 : Int)) = false := by simp; omega
      obtain rfl : k = k0 := by omega
      clear hk
      go_wp2_with fail
      go_meet
      exact ⟨rfl, rfl⟩
  case rest =>
  obtain ⟨rfl, rfl⟩ := hcut
  rcases Nat.eq_zero_or_pos k with g0 | g0
  · have d1 : ((k : Int) == 0) = true := by simp; omega
    go_wp2_with fail
    go_ret
    exact ⟨rfl, B4.out⟩
  have d1 : ((k : Int) == 0) = false := by simp; omega
  have ka : k ≤ na := by have := K0.out; have := KK.out; omega
  have kb : k ≤ nb := by have := K0.out; have := KK.out; omega
  obtain ⟨bA, oA, rfl, lA, hcA⟩ := HA.out.ex (by omega)
  obtain ⟨bB, oB, rfl, lB, hcB⟩ := HB.out.ex (by omega)
  have CA := Lib.hid hcA
  have CB := Lib.hid hcB
  clear hcA hcB
  go_wp2_with fail
  clear d1
  go_loopw [13, 14, 15, 16] (fun v1 v2 v3 i wr => AdR d.Q Sa Sb k w4 v1 v2 v3 i wr) (fun _ _ _ i _ => k - (intOf i).toNat)
  case atStart => exact ⟨0, fun _ => 0, fun _ => ⟨none, 0, 0, 0⟩, Nat.zero_le _, rfl, Lst.nil _ _ _ _ _ _ _, Lst.nil _ _ _ _ _ _ _, Lst.nil _ _ _ _ _ _ _, fun u h => absurd h (Nat.not_lt_zero u), Col.none _, fun b _ => rfl, Below.refl _ _⟩
  case round =>
    obtain ⟨t, c, U, ht, rfl, hl1, hl2, hl3, hU, hcol, hold, hbw⟩ := hrel
    have L1 := Lib.hid hl1
    have L2 := Lib.hid hl2
    have L3 := Lib.hid hl3
    have HU := Lib.hid hU
    have COL := Lib.hid hcol
    have OLD := Lib.hid hold
    have BW := Lib.hid hbw
    have BB := Lib.hid (B4.out.trans (hbw.mono B4.out.size))
    clear hl1 hl2 hl3 hU hcol hold hbw
    rcases Nat.lt_or_ge t k with hlt | hge
    · have htk : (t : Int) < (k : Int) := by omega
      have hta : (t : Int) < (na : Int) := by omega
      have htb : (t : Int) < (nb : Int) := by omega
      have x1 := (BB.out.cell (p := ⟨bA, oA + t, none⟩) lA).trans (CA.out t (by omega))
      have x2 := (BB.out.cell (p := ⟨bB, oB + t, none⟩) lB).trans (CB.out t (by omega))
      have NA := Lib.hid (HA.out.at_ t (by omega))
      have NB := Lib.hid (HB.out.at_ t (by omega))
      have nA := NA.out.nc
      have nB := NB.out.nc
      go_wp2_with fail
      refine (scalar_any (Sa t) wr nA).mono ?_
      rintro e wX ⟨rfl, rfl⟩
      go_wp2_with fail
      refine (scalar_any (Sb t) wr nB).mono ?_
      rintro e wX ⟨rfl, rfl⟩
      clear nA nB x1 x2
      go_wp2_with fail
      refine (gscalars_any (GR4.out.below BW.out).toGr0).mono ?_
      rintro e w5 ⟨bs5, Am5, cm5, low5, Bm5, cB5, Sm5, cS5, rfl, md5, b5, -⟩
      have MD5 := Lib.hid md5
      have B5 := Lib.hid b5
      have BB5 := Lib.hid (BB.out.trans (b5.mono BB.out.size))
      clear md5 b5
      go_wp2_with fail
      refine (madd_any MD5.out (NA.out.scN.below BB5.out) (NB.out.scN.below BB5.out) NA.out.dlsc NB.out.dlsc).mono ?_
      rintro e w6 ⟨D6, m6, c6, rfl, h6, b6, hn6⟩
      have H6 := Lib.hid h6
      have B56 := Lib.hid (B5.out.trans (b6.mono B5.out.size))
      have N6 := Lib.hid (show ∀ b, kNm.Bl ⟨D6, m6, c6, ((scN (Sa t)).N + (scN (Sb t)).N) % d.Q⟩ b → wr.heap.size ≤ b from fun b ⟨a, ea, _, eb⟩ => eb ▸ Nat.le_trans B5.out.size (hn6 a ea))
      have bA6 := below_al w6 (.cells #[.slice (scN (Sa t)).A (scN (Sa t)).n (scN (Sa t)).c] 25)
      have BXA := Lib.hid (B56.out.trans (bA6.mono B56.out.size))
      have WXA := Lib.hid (BW.out.trans (BXA.out.mono BW.out.size))
      have szA := WXA.out.size
      have CA1 := Lib.hid (COL.out.below BXA.out.size)
      have M1 := Lib.hid (L1.out.below BXA.out)
      have M2 := Lib.hid (L2.out.below BXA.out)
      have M3 := Lib.hid (L3.out.below BXA.out)
      have U1 := Lib.hid (show (w6.alloc (.cells #[.slice (scN (Sa t)).A (scN (Sa t)).n (scN (Sa t)).c] 25)).cell? ⟨w6.heap.size, 0, none⟩ = some (kNm.v (scN (Sa t))) from one_at9a w6 _ _)
      have BBX := Lib.hid (BB.out.trans (BXA.out.mono BB.out.size))
      have U2 := Lib.hid (show kNm.At (w6.alloc (.cells #[.slice (scN (Sa t)).A (scN (Sa t)).n (scN (Sa t)).c] 25)) (scN (Sa t)) from NA.out.scN.below BBX.out)
      have U3 := Lib.hid (show ∀ b, kNm.Bl (scN (Sa t)) b → c b = 0 from fun b hb => OLD.out b (Nat.lt_of_lt_of_le (NA.out.scN.blt hb) B4.out.size))
      have V2 := Lib.hid (show kNm.At (w6.alloc (.cells #[.slice (scN (Sa t)).A (scN (Sa t)).n (scN (Sa t)).c] 25)) (scN (Sb t)) from NB.out.scN.below BBX.out)
      have V3 := Lib.hid (show ∀ b, kNm.Bl (scN (Sb t)) b → c b = 0 from fun b hb => OLD.out b (Nat.lt_of_lt_of_le (NB.out.scN.blt hb) B4.out.size))
      have Y2 := Lib.hid (show kNm.At (w6.alloc (.cells #[.slice (scN (Sa t)).A (scN (Sa t)).n (scN (Sa t)).c] 25)) ⟨D6, m6, c6, ((scN (Sa t)).N + (scN (Sb t)).N) % d.Q⟩ from (H6.out.below bA6).nm)
      have Y3 := Lib.hid (show ∀ b, kNm.Bl ⟨D6, m6, c6, ((scN (Sa t)).N + (scN (Sb t)).N) % d.Q⟩ b → c b = 0 from fun b hb => COL.out b (N6.out b hb))
      clear h6 b6 hn6 bA6
      go_wp2_with (at_builtin; refine wpList_lst rfl (.tmp 94) (.tmp 96) 22 rfl w4.heap.size 25 24 (.slice none 0 0) Try.underlying22 infoN9a rfl 1 c (by decide) CA1.out u13 t 1 (fun j => scN (Sa j)) (scN (Sa t)) rfl M1.out w6.heap.size rfl U1.out U2.out U3.out (by unfold maxLen; omega) (by omega) szA ?_)
      rintro v7 w7 c7 n1 hg sc cl7
      have R1 := Lib.hid (n1.congr9 (snoc_self9 (fun j => scN (Sa j)) t))
      have N2 := Lib.hid (M2.out.other hg M1.out.row (by decide) (by decide) sc)
      have N3 := Lib.hid (M3.out.other hg M1.out.row (by decide) (by decide) sc)
      have OLD7 := Lib.hid (OLD.out.same sc szA)
      have COL7 := Lib.hid cl7
      have W7 := Lib.hid (WXA.out.grown hg szA (fun g e => (M1.out.l.lt e).1))
      have W2 := Lib.hid (Kd.other9 V2.out V3.out hg M1.out.row (by decide))
      have W3 := Lib.hid (show ∀ b, kNm.Bl (scN (Sb t)) b → c7 b = 0 from fun b hb => (sc b (kNm.lt V2.out hb)).trans (V3.out b hb))
      have Z2 := Lib.hid (Kd.other9 Y2.out Y3.out hg M1.out.row (by decide))
      have Z3 := Lib.hid (show ∀ b, kNm.Bl ⟨D6, m6, c6, ((scN (Sa t)).N + (scN (Sb t)).N) % d.Q⟩ b → c7 b = 0 from fun b hb => (sc b (kNm.lt Y2.out hb)).trans (Y3.out b hb))
      clear n1 hg sc cl7 M1 M2 M3 U1 U2 U3 V2 V3 Y2 Y3 CA1 szA
      have bx := below_al w7 (.cells #[.slice (scN (Sb t)).A (scN (Sb t)).n (scN (Sb t)).c] 25)
      have WXB := Lib.hid (W7.out.trans (bx.mono W7.out.size))
      have szB := WXB.out.size
      have CB1 := Lib.hid (COL7.out.below bx.size)
      have P1 := Lib.hid (R1.out.below bx)
      have P2 := Lib.hid (N2.out.below bx)
      have P3 := Lib.hid (N3.out.below bx)
      have U1 := Lib.hid (show (w7.alloc (.cells #[.slice (scN (Sb t)).A (scN (Sb t)).n (scN (Sb t)).c] 25)).cell? ⟨w7.heap.size, 0, none⟩ = some (kNm.v (scN (Sb t))) from one_at9a w7 _ _)
      have U2 := Lib.hid (show kNm.At (w7.alloc (.cells #[.slice (scN (Sb t)).A (scN (Sb t)).n (scN (Sb t)).c] 25)) (scN (Sb t)) from Nm.below W2.out bx)
      have X2 := Lib.hid (show kNm.At (w7.alloc (.cells #[.slice (scN (Sb t)).A (scN (Sb t)).n (scN (Sb t)).c] 25)) ⟨D6, m6, c6, ((scN (Sa t)).N + (scN (Sb t)).N) % d.Q⟩ from Nm.below Z2.out bx)
      clear bx
      go_wp2_with (at_builtin; refine wpList_lst rfl (.tmp 98) (.tmp 100) 22 rfl w4.heap.size 25 24 (.slice none 0 0) Try.underlying22 infoN9a rfl 2 c7 (by decide) CB1.out u14 t 1 (fun j => scN (Sb j)) (scN (Sb t)) rfl P2.out w7.heap.size rfl U1.out U2.out W3.out (by unfold maxLen; omega) (by omega) szB ?_)
      rintro v8 w8 c8 n2 hg sc cl8
      have R2 := Lib.hid (n2.congr9 (snoc_self9 (fun j => scN (Sb j)) t))
      have T1 := Lib.hid (P1.out.other hg P2.out.row (by decide) (by decide) sc)
      have T3 := Lib.hid (P3.out.other hg P2.out.row (by decide) (by decide) sc)
      have OLD8 := Lib.hid (OLD7.out.same sc szB)
      have COL8 := Lib.hid cl8
      have W8 := Lib.hid (WXB.out.grown hg szB (fun g e => (P2.out.l.lt e).1))
      have S2 := Lib.hid (Kd.other9 X2.out Z3.out hg P2.out.row (by decide))
      have S3 := Lib.hid (show ∀ b, kNm.Bl ⟨D6, m6, c6, ((scN (Sa t)).N + (scN (Sb t)).N) % d.Q⟩ b → c8 b = 0 from fun b hb => (sc b (kNm.lt X2.out hb)).trans (Z3.out b hb))
      clear n2 hg sc cl8 P1 P2 P3 U1 U2 X2 W2 W3 Z2 Z3 CB1 szB
      have bx := below_al w8 (.cells #[.slice D6 m6 c6] 25)
      have WXC := Lib.hid (W8.out.trans (bx.mono W8.out.size))
      have szC := WXC.out.size
      have CC1 := Lib.hid (COL8.out.below bx.size)
      have Q1 := Lib.hid (T1.out.below bx)
      have Q2 := Lib.hid (R2.out.below bx)
      have Q3 := Lib.hid (T3.out.below bx)
      have U1 := Lib.hid (show (w8.alloc (.cells #[.slice D6 m6 c6] 25)).cell? ⟨w8.heap.size, 0, none⟩ = some (kNm.v ⟨D6, m6, c6, ((scN (Sa t)).N + (scN (Sb t)).N) % d.Q⟩) from one_at9a w8 _ _)
      have U2 := Lib.hid (show kNm.At (w8.alloc (.cells #[.slice D6 m6 c6] 25)) ⟨D6, m6, c6, ((scN (Sa t)).N + (scN (Sb t)).N) % d.Q⟩ from Nm.below S2.out bx)
      clear bx
      go_wp2_with (at_builtin; refine wpList_lst rfl (.tmp 102) (.tmp 104) 22 rfl w4.heap.size 25 24 (.slice none 0 0) Try.underlying22 infoN9a rfl 3 c8 (by decide) CC1.out u15 t 1 U ⟨D6, m6, c6, ((scN (Sa t)).N + (scN (Sb t)).N) % d.Q⟩ rfl Q3.out w8.heap.size rfl U1.out U2.out S3.out (by unfold maxLen; omega) (by omega) szC ?_)
      rintro v9 w9 c9 n3 hg sc cl9
      have R3 := Lib.hid n3
      have E1 := Lib.hid (Q1.out.other hg Q3.out.row (by decide) (by decide) sc)
      have E2 := Lib.hid (Q2.out.other hg Q3.out.row (by decide) (by decide) sc)
      have OLD9' := Lib.hid (OLD8.out.same sc szC)
      have COL9 := Lib.hid cl9
      have W9 := Lib.hid (WXC.out.grown hg szC (fun g e => (Q3.out.l.lt e).1))
      clear n3 hg sc cl9 Q1 Q2 Q3 U1 U2 S2 S3 CC1 szC
      go_wp2_with fail
      go_roundw
      case rel =>
        refine ⟨t + 1, c9, _, by omega, by go_num, E1.out, E2.out, R3.out, fun u hu => ?_, COL9.out, OLD9'.out, W9.out⟩
        rcases Nat.lt_or_ge u t with g | g
        · rw [snocG_lt g]; exact HU.out u g
        · obtain rfl : u = t := by omega
          rw [snocG_at]
      case measure => simp [intOf]; omega
    · obtain rfl : t = k := by omega
      have htk : decide ((t : Int) < (t : Int)) = false := by simp
      obtain ⟨Ap, cp, rfl, -, nsp⟩ := L1.out.l.nsl (by omega)
      obtain ⟨Aq, cq, rfl, -, nsq⟩ := L2.out.l.nsl (by omega)
      obtain ⟨As, cs, rfl, -, nss⟩ := L3.out.l.nsl (by omega)
      have NP := Lib.hid nsp
      have NQ := Lib.hid nsq
      have NS := Lib.hid nss
      have DP := Lib.hid (show ∀ i, i < t → dl (scN (Sa i)).N ≤ 64 from fun i hi => (HA.out.at_ i (by omega)).dlsc)
      have DQ := Lib.hid (show ∀ i, i < t → dl (scN (Sb i)).N ≤ 64 from fun i hi => (HB.out.at_ i (by omega)).dlsc)
      have DS := Lib.hid (show ∀ i, i < t → dl (U i).N ≤ 64 from fun i hi => by
        rw [HU.out i hi]
        have h1 := dl_mono (Int.emod_nonneg ((scN (Sa i)).N + (scN (Sb i)).N) (show d.Q ≠ 0 by have := GR4.out.safe.q1; omega)) (Int.le_of_lt (Int.emod_lt_of_pos _ (show 0 < d.Q by have := GR4.out.safe.q1; omega)))
        have := GR4.out.lq
        omega)
      have GW := Lib.hid (GR4.out.below BW.out)
      clear L1 L2 L3 nsp nsq nss COL OLD
      obtain ⟨z, hz⟩ : ∃ z : Int, (if m < 0 then -(m + 1) else m) = z := ⟨_, rfl⟩
      have z0 : 0 ≤ z ∧ z ≤ 9223372036854775807 := by have := HM.out; rw [← hz]; split <;> omega
      have HZ := Lib.hid hz
      clear hz
      go_upto_if 107 with fail
      go_cut [3] from 108 to 110 (fun v wx => v = .int .i64 z ∧ wr = wx)
      case first =>
        rcases Int.lt_or_le m 0 with g3 | g3
        · have e3 : decide (m < 0) = true := by simp; omega
          have e4 : IntKind.i64.wrap (m + 1) = m + 1 := IntWalk.i64_in _ (by have := HM.out; omega)
          have e5 : IntKind.i64.wrap (-(m + 1)) = -(m + 1) := IntWalk.i64_in _ (by have := HM.out; omega)
          have E6 := Lib.hid (show -(m + 1) = z by rw [← HZ.out, if_pos g3])
          go_wp2_with fail
          go_meet
          exact ⟨by rw [E6.out], rfl⟩
        · have e3 : decide (m < 0) = false := by simp; omega
          have E6 := Lib.hid (show m = z by rw [← HZ.out, if_neg (by omega)])
          go_wp2_with fail
          go_meet
          exact ⟨by rw [E6.out], rfl⟩
      case rest =>
      obtain ⟨rfl, rfl⟩ := hcut
      obtain ⟨q, hq⟩ : ∃ q : Nat, 1 + z % 8 = (q : Int) := ⟨(1 + z % 8).toNat, by omega⟩
      have q1' : 1 ≤ q ∧ q ≤ 8 := by omega
      have e7 : z.tmod 8 = z % 8 := Int.tmod_eq_emod_of_nonneg z0.1
      have e8 : IntKind.i64.wrap (z % 8) = z % 8 := IntWalk.i64_in _ (by omega)
      have e9 : IntKind.i64.wrap (1 + z % 8) = (q : Int) := by rw [IntWalk.i64_in _ (by omega)]; exact hq
      go_wp2_with fail
      have BRR := Lib.hid BB.out
      have q255 : q ≤ 255 := by omega
      clear e7 e8 e9 hq z0 htk
      refine (pdeal_ok GW.out NP.out (by omega) (by omega) DP.out q q1'.1 q255).mono ?_
      rintro e w5 ⟨S1, k1, T1, C1, l1, U1, rfl, sh1, sf1, ns1, cf1, b5⟩
      have SH1 := Lib.hid sh1.sh
      have SF1 := Lib.hid sf1
      have NS1 := Lib.hid ns1.ns
      have CF1 := Lib.hid cf1
      have B5 := Lib.hid b5
      clear sh1 sf1 ns1 cf1 b5
      go_wp2_with fail
      refine (pdeal_ok (GW.out.below B5.out) (NQ.out.below B5.out) (by omega) (by omega) DQ.out q q1'.1 q255).mono ?_
      rintro e w6 ⟨S2, k2, T2, C2, l2, U2, rfl, sh2, sf2, ns2, cf2, b6⟩
      have SH2 := Lib.hid sh2.sh
      have SF2 := Lib.hid sf2
      have NS2 := Lib.hid ns2.ns
      have CF2 := Lib.hid cf2
      have SH12 := Lib.hid (SH1.out.below b6)
      have NS12 := Lib.hid (NS1.out.below b6)
      have B6 := Lib.hid (B5.out.trans (b6.mono B5.out.size))
      clear sh2 sf2 ns2 cf2 b6 SH1 NS1
      go_wp2_with fail
      refine (pdeal_ok (GW.out.below B6.out) (NS.out.below B6.out) (by omega) (by omega) DS.out q q1'.1 q255).mono ?_
      rintro e w7 ⟨S3, k3, T3, C3, l3, U3, rfl, sh3, sf3, ns3, cf3, b7⟩
      have SH3 := Lib.hid sh3.sh
      have NS3 := Lib.hid ns3.ns
      have SH13 := Lib.hid (SH12.out.below b7)
      have NS13 := Lib.hid (NS12.out.below b7)
      have SH23 := Lib.hid (SH2.out.below b7)
      have NS23 := Lib.hid (NS2.out.below b7)
      have B7 := Lib.hid (B6.out.trans (b7.mono B6.out.size))
      have BF := Lib.hid (BB.out.trans (B7.out.mono BB.out.size))
      have GF := Lib.hid (GW.out.below B7.out)
      have VE := Lib.hid (show ∀ u, u < q → ((T1 u).N + (T2 u).N) % d.Q = (T3 u).N from fun u hu => by
        rw [(SF1.out u hu).2.1, (SF2.out u hu).2.1, (sf3 u hu).2.1]
        exact add_vl9 (fun i hi => HU.out i hi))
      have CE := Lib.hid (show ∀ u, u < t → (U1 u).N * (U2 u).N % d.P = (U3 u).N from fun u hu => by
        rw [(CF1.out u hu).1, (CF2.out u hu).1, (cf3 u hu).1, HU.out u hu, gx_mod GR4.out.safe.q1]
        exact gx_add GR4.out.safe.p2 GR4.out.safe.q1 GR4.out.el (HA.out.at_ u (by omega)).possc (HB.out.at_ u (by omega)).possc)
      have L3 := Lib.hid (show ∀ u, u < q → (T3 u).n = dl (T3 u).N from fun u hu => (sf3 u hu).2.2)
      have M3 := Lib.hid (show ∀ u, u < t → (U3 u).n = dl (U3 u).N from fun u hu => (cf3 u hu).2)
      have LT := Lib.hid (show ∀ u, u < q → dl (T1 u).N ≤ 64 ∧ dl (T2 u).N ≤ 64 from fun u hu => by
        have h1 : dl (T1 u).N ≤ dl d.Q := by
          rw [(SF1.out u hu).2.1]
          exact dl_mono (vlN_rng GR4.out.safe.q1 t).1 (vlN_rng GR4.out.safe.q1 t).2
        have h2 : dl (T2 u).N ≤ dl d.Q := by
          rw [(SF2.out u hu).2.1]
          exact dl_mono (vlN_rng GR4.out.safe.q1 t).1 (vlN_rng GR4.out.safe.q1 t).2
        have := GR4.out.lq
        omega)
      have EU := Lib.hid (show ∀ u, u < t → El d.P d.Q (U1 u).N ∧ El d.P d.Q (U2 u).N from fun u hu => by
        rw [(CF1.out u hu).1, (CF2.out u hu).1]
        exact ⟨gx_el GR4.out.safe.p2 GR4.out.safe.q1 GR4.out.el _, gx_el GR4.out.safe.p2 GR4.out.safe.q1 GR4.out.el _⟩)
      have ne1 : ((q : Int) != (q : Int)) = false := by simp
      have ne2 : ((t : Int) != (t : Int)) = false := by simp
      clear sh3 sf3 ns3 cf3 b7 SH12 NS12 SH2 NS2 SF1 SF2 CF1 CF2 NP NQ NS DP DQ DS HU B5 B6
      go_wp2_with fail
      clear ne1 ne2
      go_loopw [30] (fun i wr => AjR q w7 i wr) (fun i _ => q - (intOf i).toNat)
      case atStart => exact ⟨0, Nat.zero_le _, rfl, Below.refl _ _⟩
      case round =>
        obtain ⟨j, hj, rfl, hbw⟩ := hrel
        have HBJ := Lib.hid hbw
        clear hbw
        rcases Nat.lt_or_ge j q with hlt | hge
        · have hjq : (j : Int) < (q : Int) := by omega
          obtain ⟨g1, o1, rfl, lg1, hc1⟩ := SH13.out.ex (by omega)
          obtain ⟨g2, o2, rfl, lg2, hc2⟩ := SH23.out.ex (by omega)
          obtain ⟨g3, o3, rfl, lg3, hc3⟩ := SH3.out.ex (by omega)
          have BD := Lib.hid (show Below w7.heap.size w7 wr.drew from HBJ.out.trans (((Below.refl _ _).drew).mono (Nat.le_refl _)))
          have v1 := (BD.out.cell (p := ⟨g1, o1 + j * 2 + 1, none⟩) lg1).trans (hc1 j hlt).2
          have v2 := (BD.out.cell (p := ⟨g2, o2 + j * 2 + 1, none⟩) lg2).trans (hc2 j hlt).2
          have v12 := And.intro v1 v2
          have N1 := Lib.hid ((SH13.out.at_ j hlt).2.below BD.out)
          have N2 := Lib.hid ((SH23.out.at_ j hlt).2.below BD.out)
          have lt1 : g1 < wr.drew.heap.size := Nat.lt_of_lt_of_le lg1 BD.out.size
          have lt2 : g2 < wr.drew.heap.size := Nat.lt_of_lt_of_le lg2 BD.out.size
          have LTT := Lib.hid (And.intro lt1 lt2)
          have LJ := Lib.hid (LT.out j hlt)
          have C3 := Lib.hid (hc3 j hlt).2
          have VJ := Lib.hid (VE.out j hlt)
          have K3 := Lib.hid ((SH3.out.at_ j hlt).2.cn9 (L3.out j hlt))
          clear hc1 hc2 hc3 v1 v2 lt1 lt2
          go_wp2_with fail
          go_region_held3 (fun w' => w'.cell? ⟨g1, o1 + j * 2 + 1, none⟩ = some (.slice (T1 j).A (T1 j).n (T1 j).c) ∧ w'.cell? ⟨g2, o2 + j * 2 + 1, none⟩ = some (.slice (T2 j).A (T2 j).n (T2 j).c)) (first | exact v12 | exact f12 | exact h12 | go_keep | assumption)
            (first
            | (go_at_call 17; (with_reducible refine (madd_any MDJ.out (N1.out.below C1J.out) (N2.out.below C1J.out) LJ.out.1 LJ.out.2).mono ?_); rintro e wA ⟨DA, mA, cA, rfl, hA6, bA6, hnA6⟩; have C2J := Lib.hid (C1J.out.trans (bA6.mono C1J.out.size)); have KA := Lib.hid hA6; have h12 := And.intro ((C2J.out.cell (p := ⟨g1, o1 + j * 2 + 1, none⟩) LTT.out.1).trans v12.1) ((C2J.out.cell (p := ⟨g2, o2 + j * 2 + 1, none⟩) LTT.out.2).trans v12.2); clear hA6 bA6 hnA6)
            | (go_at_call 14; (with_reducible refine (gscalars_any (GF.out.below BD.out).toGr0).mono ?_); rintro e wB ⟨bsJ, AmJ, cmJ, lowJ, BmJ, cBJ, SmJ, cSJ, rfl, mdJ, bJ, -⟩; have MDJ := Lib.hid mdJ; have C1J := Lib.hid bJ; have f12 := And.intro ((C1J.out.cell (p := ⟨g1, o1 + j * 2 + 1, none⟩) LTT.out.1).trans v12.1) ((C1J.out.cell (p := ⟨g2, o2 + j * 2 + 1, none⟩) LTT.out.2).trans v12.2); clear mdJ bJ))
          all_goals
            have BJ := Lib.hid (BD.out.trans (C2J.out.mono BD.out.size))
            have y3 := (BJ.out.cell (p := ⟨g3, o3 + j * 2 + 1, none⟩) lg3).trans C3.out
            clear v12 f12 h12
            go_wp2_with fail
            refine (same9 KA.out (K3.out.below BJ.out) VJ.out).mono ?_
            rintro e wS ⟨rfl, qq, rfl⟩
            go_wp2_with fail
            go_roundw
            case rel => exact ⟨j + 1, by omega, by go_num, below_drewN BJ.out _⟩
            case measure => simp [intOf]; omega
        · obtain rfl : j = q := by omega
          have hjq : decide ((j : Int) < (j : Int)) = false := by simp
          have NS14 := Lib.hid (NS13.out.below HBJ.out)
          have NS24 := Lib.hid (NS23.out.below HBJ.out)
          have NS34 := Lib.hid (NS3.out.below HBJ.out)
          have GF4 := Lib.hid (GF.out.below HBJ.out)
          have BG := Lib.hid (BF.out.trans (HBJ.out.mono BF.out.size))
          clear HBJ SH13 SH23 SH3 VE LT L3 GF BF
          go_wp2_with fail
          clear hjq
          obtain ⟨wl, hwl⟩ : ∃ wl, wl = wr := ⟨_, rfl⟩
          subst hwl
          go_loopw [34] (fun i wr => AjR t wl i wr) (fun i _ => t - (intOf i).toNat)
          case atStart => exact ⟨0, Nat.zero_le _, rfl, Below.refl _ _⟩
          case round =>
            obtain ⟨j2, hj2, rfl, hbw⟩ := hrel
            have HBJ := Lib.hid hbw
            clear hbw
            rcases Nat.lt_or_ge j2 t with hlt | hge
            · have hjq : (j2 : Int) < (t : Int) := by omega
              obtain ⟨g1, o1, rfl, lg1, hc1⟩ := NS14.out.ex (by omega)
              obtain ⟨g2, o2, rfl, lg2, hc2⟩ := NS24.out.ex (by omega)
              obtain ⟨g3, o3, rfl, lg3, hc3⟩ := NS34.out.ex (by omega)
              have BD := Lib.hid (show Below wl.heap.size wl wr.drew from HBJ.out.trans (((Below.refl _ _).drew).mono (Nat.le_refl _)))
              have v1 := (BD.out.cell (p := ⟨g1, o1 + j2, none⟩) lg1).trans (hc1 j2 hlt)
              have v2 := (BD.out.cell (p := ⟨g2, o2 + j2, none⟩) lg2).trans (hc2 j2 hlt)
              have v12 := And.intro v1 v2
              have N1 := Lib.hid ((NS14.out.at_ j2 hlt).below BD.out)
              have N2 := Lib.hid ((NS24.out.at_ j2 hlt).below BD.out)
              have LTT := Lib.hid (And.intro (Nat.lt_of_lt_of_le lg1 BD.out.size) (Nat.lt_of_lt_of_le lg2 BD.out.size))
              have EJ := Lib.hid (EU.out j2 hlt)
              have C3 := Lib.hid (hc3 j2 hlt)
              have VJ := Lib.hid (CE.out j2 hlt)
              have K3 := Lib.hid ((NS34.out.at_ j2 hlt).cn9 (M3.out j2 hlt))
              clear hc1 hc2 hc3 v1 v2
              go_wp2_with fail
              go_region_held3 (fun w' => w'.cell? ⟨g1, o1 + j2, none⟩ = some (.slice (U1 j2).A (U1 j2).n (U1 j2).c) ∧ w'.cell? ⟨g2, o2 + j2, none⟩ = some (.slice (U2 j2).A (U2 j2).n (U2 j2).c)) (first | exact v12 | exact h12 | go_keep | assumption)
                (first | (go_at_call 18; (with_reducible refine (gmul_any (GF4.out.below BD.out).toGr0 N1.out N2.out EJ.out.1 EJ.out.2).mono ?_); rintro e wA ⟨DA, mA, cA, rfl, hA6, bA6, hnA6⟩; have C2J := Lib.hid bA6; have KA := Lib.hid hA6; have h12 := And.intro ((C2J.out.cell (p := ⟨g1, o1 + j2, none⟩) LTT.out.1).trans v12.1) ((C2J.out.cell (p := ⟨g2, o2 + j2, none⟩) LTT.out.2).trans v12.2); clear hA6 bA6 hnA6))
              all_goals
                have BJ := Lib.hid (BD.out.trans (C2J.out.mono BD.out.size))
                have y3 := (BJ.out.cell (p := ⟨g3, o3 + j2, none⟩) lg3).trans C3.out
                clear v12 h12
                go_wp2_with fail
                refine (same9 KA.out (K3.out.below BJ.out) VJ.out).mono ?_
                rintro e wS ⟨rfl, qq, rfl⟩
                go_wp2_with fail
                go_roundw
                case rel => exact ⟨j2 + 1, by omega, by go_num, below_drewN BJ.out _⟩
                case measure => simp [intOf]; omega
            · obtain rfl : j2 = t := by omega
              have hjq : decide ((j2 : Int) < (j2 : Int)) = false := by simp
              go_wp2_with fail
              go_ret
              exact ⟨rfl, BG.out.trans (HBJ.out.mono BG.out.size)⟩
end Go.Proofs.Ytkecfdeepmhggaa
