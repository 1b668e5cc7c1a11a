/-
  ShareHides answers true: with one share fewer than there are coefficients, for each other secret there is a polynomial whose shares at those places are the same.
-/
import Derived.Test.YtkecfdeepmhggaaPnc
import Derived.Test.YtkecfdeepmhggaaPkm
import Derived.Test.YtkecfdeepmhggaaHd9
import Derived.Test.YtkecfdeepmhggaaPna
import Derived.Deep.CutBlock
namespace Go.Proofs.Ytkecfdeepmhggaa
open Go.RowKit
set_option linter.unusedVariables false
set_option maxRecDepth 100000 in
theorem gp_eqH (b : Nat) : ∀ w : World, (binOp .eql 27 (.pointer (some ⟨b, 0, none⟩)) (.pointer none)).run Try.prog w = .ok (.bool false) w := fun _ => rfl
set_option maxRecDepth 100000 in
theorem gp_neH (b : Nat) : ∀ w : World, (binOp .neq 27 (.pointer (some ⟨b, 0, none⟩)) (.pointer none)).run Try.prog w = .ok (.bool true) w := fun _ => rfl
set_option maxRecDepth 100000 in
theorem mp_eqH (b : Nat) : ∀ w : World, (binOp .eql 46 (.pointer (some ⟨b, 0, none⟩)) (.pointer none)).run Try.prog w = .ok (.bool false) w := fun _ => rfl
/-- The polynomial, so far. -/
def BkR (Sa : Nat → Nsl) (k : Nat) (w : World) (v i : Value) (wr : World) : Prop :=
  ∃ t : Nat, t ≤ k ∧ i = .int .i64 t ∧ Owg kNm 25 wr w.heap.size v t (fun j => scN (Sa j)) ∧ Below w.heap.size w wr
/-- What is added, so far. -/
def HyR (Q off : Int) (k : Nat) (w : World) (v i : Value) (wr : World) : Prop :=
  ∃ (t : Nat) (A : Option Addr) (c : Nat) (S : Nat → Nsl), 1 ≤ t ∧ t ≤ k ∧ v = .slice A t c ∧ i = .int .i64 t ∧ Ns wr A t c S ∧ HidV Q off t (fun j => (S j).N) ∧ Below w.heap.size w wr
/-- .. and the next one, in the making. -/
def HzR (Q v : Int) (C : Nat → Int) (t g : Nat) (w : World) (i : Value) (wr : World) : Prop :=
  ∃ (kk : Nat) (cur : Array Value) (U : Nat → Nsl), kk ≤ t ∧ i = .int .i64 kk ∧ wr.heap[g]? = some (.cells cur 25 (0, 0)) ∧ cur.size = t + 1 ∧
    (∀ p, p < t + 1 → cur[p]? = some (.slice (U p).A (U p).n (U p).c) ∧ Nm wr (U p).A (U p).n (U p).c (U p).N ∧ ∀ a, (U p).A = some a → a.block ≠ g) ∧ HzV Q v C t kk (fun p => (U p).N) ∧ Bo g w wr
/-- The other polynomial, so far. -/
def HoR (Q : Int) (a b : Nat → Int) (k : Nat) (w : World) (v i : Value) (wr : World) : Prop :=
  ∃ (t : Nat) (O : Nat → Nsl), t ≤ k ∧ i = .int .i64 t ∧ Owg kNm 25 wr w.heap.size v t O ∧ (∀ j, j < t → (O j).N = (a j + b j) % Q ∧ (O j).n = dl (O j).N) ∧ Below w.heap.size w wr
theorem box_heapH (w : World) (o : Obj) : (w.alloc o).heap[w.heap.size]? = some o := by
  show (w.heap.push o)[w.heap.size]? = some o
  exact Array.getElem?_push_size
theorem nm_nil9 (w : World) : Nm w none 0 0 0 := ⟨⟨[], Rd.nil _ _ _, fun x hx => (by cases hx), rfl⟩, Nat.le_refl _, by omega, Int.le_refl _⟩
/-- Two things, one behind the other, are turned. -/
def pk9 (U : Nat → Nsl) (k : Nat) (x y : Nsl) : Nat → Nsl := fun p => if p = k then x else if p = k + 1 then y else U p
theorem pk9_a (U : Nat → Nsl) (k : Nat) (x y : Nsl) : pk9 U k x y k = x := if_pos rfl
theorem pk9_b (U : Nat → Nsl) (k : Nat) (x y : Nsl) : pk9 U k x y (k + 1) = y := (if_neg (by omega)).trans (if_pos rfl)
theorem pk9_o (U : Nat → Nsl) {k : Nat} (x y : Nsl) {p : Nat} (h : p ≠ k) (h1 : p ≠ k + 1) : pk9 U k x y p = U p := (if_neg h).trans (if_neg h1)
theorem repl_at9 (n p : Nat) (h : p < n) (v : Value) : (Array.replicate n v)[p]? = some v := by simp [h]
def BjR (q : Nat) (w : World) (i : Value) (wr : World) : Prop := ∃ j : Nat, j ≤ q ∧ i = .int .i64 j ∧ Below w.heap.size w wr
set_option maxHeartbeats 16000000 in
set_option maxRecDepth 100000 in
theorem shareHides_walk {w : World} (x : Int) (hx : -9223372036854775808 ≤ x ∧ x ≤ 9223372036854775807) {A : Option Addr} {na ca : Nat} {Sa : Nat → Nsl} (ha : Ns w A na ca Sa) {Ao : Option Addr} {no co : Nat} {O : Int} (ho : Nm w Ao no co O) :
    Calls Try.prog 5 #[.int .i64 x, .slice A na ca, .slice Ao no co] w (AnsV (.bool true) w) := by
  have HX := Lib.hid hx
  have HA := Lib.hid ha
  have HO := Lib.hid ho
  have n60 := ha.c60
  have he0 := neq0_9
  have he1 := eq_nil9
  clear hx ha ho
  go_enter Try.func5, Try.ntmps5
  go_wp2_with fail
  refine (up9_any _).mono ?_
  rintro e w1 ⟨rfl, b1⟩
  have B1 := Lib.hid b1
  clear b1
  go_wp2_with fail
  refine (known_any x HX.out w1).mono ?_
  rintro e w2 ⟨Ak, nk, ck, Ak', nk', ck', rfl, kg, b2⟩
  have B2 := Lib.hid (B1.out.trans (b2.mono B1.out.size))
  have KGG := Lib.hid kg
  clear kg b2
  go_wp2_with fail
  refine (kg_new (kix_lt x) KGG.out).mono ?_
  rintro e w30 ⟨b, d, rfl, gr, -, -, -, b3, -, -⟩
  have q1 := gp_eqH b
  have q0 := gp_neH b
  have B30 := Lib.hid (B2.out.trans (b3.mono B2.out.size))
  have GR0 := Lib.hid gr
  clear gr b3 KGG B1 B2
  have SAFE := Lib.hid GR0.out.safe
  have LQ := Lib.hid GR0.out.lq
  have Q5 := Lib.hid GR0.out.q255
  go_wp2_with fail
  refine (gscalars_any GR0.out.toGr0).mono ?_
  rintro e w3 ⟨bs0, Am0, cm0, low0, Bm0, cB0, Sm0, cS0, rfl, -, b3, -⟩
  have q2 := mp_eqH bs0
  have B3 := Lib.hid (B30.out.trans (b3.mono B30.out.size))
  have GR := Lib.hid (GR0.out.below b3)
  clear b3 GR0 B30
  rcases Nat.eq_zero_or_pos na with n0 | n0
  · have d1 : ((na : Int) == 0) = true := by simp; omega
    go_wp2_with fail
    go_ret
    exact ⟨rfl, B3.out⟩
  have d1 : ((na : Int) == 0) = false := by simp; omega
  obtain ⟨k, hk⟩ : ∃ k, min na 5 = k := ⟨_, rfl⟩
  have KK := Lib.hid hk
  have k05 : k ≤ 5 := by omega
  have k0 : 0 < k := by omega
  clear hk
  go_upto_block 0 with fail
  clear d1
  go_cut [10, 11] from 72 to 89 (fun v i wx => ∃ (A : Option Addr) (c : Nat), v = .slice A k c ∧ Ns wx A k c (fun j => scN (Sa j)) ∧ Below w3.heap.size w3 wx)
  case first =>
    go_wp2_with fail
    go_loopw [10, 11] (fun v i wr => BkR Sa k w3 v i wr) (fun _ i _ => k - (intOf i).toNat)
    case atStart => exact ⟨0, Nat.zero_le _, rfl, Owg.nil _ _ _ _ _, Below.refl _ _⟩
    case round =>
      obtain ⟨t, ht, rfl, hl1, hbw⟩ := hrel
      have L1 := Lib.hid hl1
      have BW := Lib.hid hbw
      have BB := Lib.hid (B3.out.trans (hbw.mono B3.out.size))
      clear hl1 hbw
      rcases Nat.lt_or_ge t k with hlt | hge
      · have hna : t < na := by have := KK.out; omega
        have htk : (t : Int) < (na : Int) := by omega
        have ht5 : (t : Int) < 5 := by omega
        obtain ⟨bA, oA, rfl, lA, hcA⟩ := HA.out.ex (by omega)
        have x1 := (BB.out.cell (p := ⟨bA, oA + t, none⟩) lA).trans (hcA t hna)
        have NA := Lib.hid (HA.out.at_ t hna)
        have nA := NA.out.nc
        clear hcA
        go_wp2_with fail
        refine (scalar_any (Sa t) wr nA).mono ?_
        rintro e wX ⟨rfl, rfl⟩
        clear nA x1
        have bx := below_al wr (.cells #[.slice (scN (Sa t)).A (scN (Sa t)).n (scN (Sa t)).c] 25)
        have WX := Lib.hid (BW.out.trans (bx.mono BW.out.size))
        have szA := WX.out.size
        have M1 := Lib.hid (L1.out.below bx)
        have U1 := Lib.hid (show (wr.alloc (.cells #[.slice (scN (Sa t)).A (scN (Sa t)).n (scN (Sa t)).c] 25)).cell? ⟨wr.heap.size, 0, none⟩ = some (kNm.v (scN (Sa t))) from one_at9a wr _ _)
        have U2 := Lib.hid (show kNm.At (wr.alloc (.cells #[.slice (scN (Sa t)).A (scN (Sa t)).n (scN (Sa t)).c] 25)) (scN (Sa t)) from NA.out.scN.below (BB.out.trans (bx.mono BB.out.size)))
        have U3 := Lib.hid (show ∀ b, kNm.Bl (scN (Sa t)) b → u10.ownBlock ≠ some b from fun b hb => L1.out.old (Nat.lt_of_lt_of_le (NA.out.scN.blt hb) B3.out.size))
        clear bx
        go_wp2_with (at_builtin; refine wpList_owg rfl (.tmp 82) (.tmp 88) 22 rfl w3.heap.size 25 24 (.slice none 0 0) Try.underlying22 infoN9a rfl u10 t 1 (fun j => scN (Sa j)) (scN (Sa t)) rfl M1.out wr.heap.size rfl U1.out U2.out U3.out (by unfold maxLen; omega) (by omega) szA ?_)
        rintro v7 w7 n1 hg
        have R1 := Lib.hid (n1.congr9 (snoc_self9 (fun j => scN (Sa j)) t))
        have W7 := Lib.hid (WX.out.grown hg szA (fun g e => (M1.out.lt e).1))
        clear n1 hg M1 U1 U2 U3 szA
        go_wp2_with fail
        go_roundw
        case rel => exact ⟨t + 1, by omega, by go_num, R1.out, W7.out⟩
        case measure => simp [intOf]; omega
      · obtain rfl : t = k := by omega
        obtain ⟨Aq, cq, rfl, -, nsp⟩ := L1.out.nsl (by omega)
        have NP := Lib.hid nsp
        have KEY := KK.out
        clear L1 nsp
        rcases Nat.lt_or_ge t na with g | g
        · have d1 : decide ((t : Int) < (na : Int)) = true := by simp; omega
          have d2 : decide ((t : Int) < 5) = false := by simp; omega
          clear KEY
          go_wp2_with fail
          go_meet
          exact ⟨Aq, cq, rfl, NP.out, BW.out⟩
        · have d1 : decide ((t : Int) < (na : Int)) = false := by simp; omega
          clear KEY
          go_wp2_with fail
          go_meet
          exact ⟨Aq, cq, rfl, NP.out, BW.out⟩
  case rest =>
  obtain ⟨Aq, cq, rfl, nsp, bw⟩ := hcut
  have NP := Lib.hid nsp
  have DP := Lib.hid (show ∀ i, i < k → dl (scN (Sa i)).N ≤ 64 from fun i hi => (HA.out.at_ i (by have := KK.out; omega)).dlsc)
  have PP := Lib.hid (show ∀ i, i < k → 0 ≤ (scN (Sa i)).N from fun i hi => (HA.out.at_ i (by have := KK.out; omega)).possc)
  have GW := Lib.hid (GR.out.below bw)
  have BB := Lib.hid (B3.out.trans (bw.mono B3.out.size))
  have QP := Lib.hid SAFE.out.qr
  have LD := Lib.hid (show ∀ z : Int, 0 ≤ z → z ≤ d.Q → dl z ≤ 64 from fun z h1 h2 => by have := dl_mono h1 h2; have := LQ.out; omega)
  clear nsp bw GR B3
  obtain ⟨w4, hw4⟩ : ∃ w4, w4 = wc := ⟨_, rfl⟩
  subst hw4
  go_wp2_with fail
  refine (gscalars_any GW.out.toGr0).mono ?_
  rintro e w5 ⟨bs, Am, cm, low, Bm, cB, Sm, cS, rfl, md, b5, -⟩
  have MD := Lib.hid md
  have B45 := Lib.hid b5
  have B5 := Lib.hid (BB.out.trans (b5.mono BB.out.size))
  have NP5 := Lib.hid (NP.out.below b5)
  have GW5 := Lib.hid (GW.out.below b5)
  have O5 := Lib.hid (HO.out.below B5.out)
  clear md b5 NP GW
  have BD := Lib.hid (show Below w5.heap.size w5 w5.drew from (Below.refl _ _).drew)
  obtain ⟨bA, oA, rfl, lA, hcA⟩ := NP5.out.ex k0
  have CA := Lib.hid hcA
  have v1 : w5.drew.cell? ⟨bA, oA, none⟩ = some (.slice (scN (Sa 0)).A (scN (Sa 0)).n (scN (Sa 0)).c) := (BD.out.cell (p := ⟨bA, oA, none⟩) lA).trans (hcA 0 k0)
  have N0 := Lib.hid ((NP5.out.at_ 0 k0).below BD.out)
  have D0 := Lib.hid (DP.out 0 k0)
  have OO := Lib.hid (Nm.scN (s := ⟨Ao, no, co, O⟩) (O5.out.below BD.out))
  have OL := Lib.hid (Nm.dlsc (s := ⟨Ao, no, co, O⟩) O5.out)
  have nO := O5.out.nc
  have k0i : (0 : Int) < (k : Int) := by omega
  clear hcA
  go_wp2_with fail
  go_region_held3 (fun w' => w'.cell? ⟨bA, oA, none⟩ = some (.slice (scN (Sa 0)).A (scN (Sa 0)).n (scN (Sa 0)).c)) (first | exact v1 | exact h1 | go_keep | assumption)
    (first
    | (go_at_call 19; (with_reducible refine (msub_any (MD.out.below BD.out) OO.out N0.out OL.out D0.out).mono ?_); rintro e w6 ⟨D6, m6, c6, rfl, h6, b6, -⟩; have H6 := Lib.hid h6; have B6 := Lib.hid b6; have h1 := (b6.cell (p := ⟨bA, oA, none⟩) lA).trans v1; clear h6 b6)
    | (go_at_call 10; (with_reducible refine (scalar_any ⟨Ao, no, co, O⟩ _ nO).mono ?_); rintro e wX ⟨rfl, rfl⟩))
  all_goals
    obtain ⟨off, hoff⟩ : ∃ off, (scN ⟨Ao, no, co, O⟩).N - (scN (Sa 0)).N = off := ⟨_, rfl⟩
    have OFF := Lib.hid hoff
    have H6' := Lib.hid (show Cn w6 D6 m6 c6 (off % d.Q) from hoff ▸ H6.out)
    obtain ⟨w7, hw7⟩ : ∃ w7, w6.alloc (.cells #[.slice D6 m6 c6] 25) = w7 := ⟨_, rfl⟩
    have b67 : Below w6.heap.size w6 w7 := by rw [← hw7]; exact below_al _ _
    have B57 := Lib.hid (show Below w5.heap.size w5 w7 from (BD.out.trans B6.out).trans (b67.mono (BD.out.trans B6.out).size))
    have NB7 := Lib.hid (show Ns w7 (some ⟨w6.heap.size, 0, none⟩) 1 1 (fun _ => ⟨D6, m6, c6, off % d.Q⟩) from ⟨Nat.le_refl _, by omega, fun _ => ⟨w6.heap.size, 0, rfl, by rw [← hw7]; simp, fun i hi => by
      obtain rfl : i = 0 := by omega
      rw [← hw7]
      exact one_at9a w6 _ _⟩, fun i hi => (H6'.out.below b67).nm⟩)
    clear hoff b67 H6 v1 h1
    go_wp2_with fail
    clear hw7
    go_loopw [15, 16] (fun v i wr => HyR d.Q off k w7 v i wr) (fun _ i _ => k - (intOf i).toNat)
    case atStart => exact ⟨1, _, _, _, Nat.le_refl _, k0, rfl, rfl, NB7.out, HidV.one _ (Int.emod_nonneg _ (by have := Q5.out; omega)) (Int.emod_lt_of_pos _ (by have := Q5.out; omega)) (Eqm.mod _ _), Below.refl _ _⟩
    case round =>
      obtain ⟨t, A7, c7, S, ht1, htk, rfl, rfl, hns, hv, hbw⟩ := hrel
      obtain ⟨wl, hwl⟩ : ∃ wl, wl = wr := ⟨_, rfl⟩
      subst hwl
      have NB := Lib.hid hns
      have HV := Lib.hid hv
      have BW := Lib.hid hbw
      clear hns hv hbw
      rcases Nat.lt_or_ge t k with hlt | hge
      · have c1 : (t : Int) < (k : Int) := by omega
        have eu : IntKind.u64.wrap (t : Int) = (t : Int) := by rw [IntKind.wrap_u64]; omega
        have TQ := Lib.hid (show (0 : Int) ≤ (t : Int) ∧ (t : Int) < d.Q ∧ (0 : Int) < (t : Int) from by have := Q5.out; omega)
        obtain ⟨w8, hw8⟩ : ∃ w8, wl.alloc (.cells #[.int .u64 (t : Int)] 54) = w8 := ⟨_, rfl⟩
        have B78 := Lib.hid (show Below wl.heap.size wl w8 from by rw [← hw8]; exact below_al _ _)
        have L8 := Lib.hid (show Nm w8 (some ⟨wl.heap.size, 0, none⟩) 1 1 (t : Int) from by rw [← hw8]; exact lit9 wl (by omega) (by unfold W; omega))
        have B58 := Lib.hid (B57.out.trans ((BW.out.trans (B78.out.mono BW.out.size)).mono B57.out.size))
        have GC := Lib.hid (show Int.gcd d.Q ((t : Int) % d.Q) = 1 from by rw [Int.emod_eq_of_lt TQ.out.1 TQ.out.2.1]; exact pr_gcd QP.out TQ.out.2.2 TQ.out.2.1)
        have LT8 := Lib.hid (LD.out (t : Int) TQ.out.1 (Int.le_of_lt TQ.out.2.1))
        go_wp2_with fail
        clear hw8 eu
        refine (inverse_any (MD.out.below B58.out) L8.out LT8.out GC.out).mono ?_
        rintro e w9 ⟨V, u1, u2, u3, D9, m9, c9, rfl, h9, b9, -⟩
        have H9 := Lib.hid h9
        have U3 := Lib.hid u3
        have LV := Lib.hid (LD.out V (by omega) (by omega))
        have B59 := Lib.hid (B58.out.trans (b9.mono B58.out.size))
        have B79 := Lib.hid (B78.out.trans (b9.mono B78.out.size))
        have NB9 := Lib.hid (NB.out.below B79.out)
        have ew : IntKind.i64.wrap ((t : Int) + 1) = (t : Int) + 1 := IntWalk.i64_in _ (by omega)
        have hmk : ∀ W : World, (Instr.makeSlice 22 (.int .i64 ((t : Int) + 1)) (.int .i64 ((t : Int) + 1))).run Try.prog W = .ok (.slice (some ⟨W.heap.size, 0, none⟩) (t + 1) (t + 1)) (W.alloc (.cells (Array.replicate (t + 1) (Value.slice none 0 0)) 25)) := fun W => by
          rw [← List.toArray_replicate]
          exact run_makeN9 (t + 1) (C := (t : Int) + 1) (by omega) (by omega) W
        obtain ⟨g, hg9⟩ : ∃ g, w9.heap.size = g := ⟨_, rfl⟩
        obtain ⟨w10, hw10⟩ : ∃ w10, w9.alloc (.cells (Array.replicate (t + 1) (Value.slice none 0 0)) 25) = w10 := ⟨_, rfl⟩
        have B910 := Lib.hid (show Below w9.heap.size w9 w10 from by rw [← hw10]; exact below_al _ _)
        have R10 := Lib.hid (show w10.heap[g]? = some (.cells (Array.replicate (t + 1) (Value.slice none 0 0)) 25 (0, 0)) from by rw [← hw10, ← hg9]; exact box_heapH _ _)
        have HG9 := Lib.hid hg9
        have S10 := Lib.hid (show w10.heap.size = g + 1 from by rw [← hw10, ← hg9]; simp)
        clear h9 u3 u1 u2 b9 H6' NB7
        go_wp2_with fail
        clear hw10 hmk ew hg9
        go_loopw [20] (fun i wr => HzR d.Q V (cutV t (fun j => (S j).N)) t g w10 i wr) (fun i _ => t - (intOf i).toNat)
        case atStart => exact ⟨0, _, fun _ => ⟨none, 0, 0, 0⟩, Nat.zero_le _, rfl, R10.out, by simp, fun p hp => ⟨repl_at9 _ _ hp _, nm_nil9 _, fun a ha => by cases ha⟩, HzV.start _ _ (by have := Q5.out; omega), Bo.refl _ _⟩
        case round =>
          obtain ⟨kk, cur, U, hkk, rfl, hrow, hsz, hcell, hzv, hbo⟩ := hrel
          have ROW := Lib.hid hrow
          have HC := Lib.hid hcell
          have HZ := Lib.hid hzv
          have BO := Lib.hid hbo
          have BP := Lib.hid (show Below w9.heap.size w9 wr from hbo.below B910.out (by have := HG9.out; omega))
          clear hrow hcell hzv hbo
          rcases Nat.lt_or_ge kk t with hkt | hkge
          · have c2 : (kk : Int) < (t : Int) := by omega
            have c3 : (kk : Int) < (t : Int) + 1 := by omega
            have c4 : (kk : Int) + 1 < (t : Int) + 1 := by omega
            have lg : g < wr.heap.size := (Array.getElem?_eq_some_iff.1 ROW.out).1
            have BD9 := Lib.hid (show Below w9.heap.size w9 wr.drew from BP.out.trans (((Below.refl _ _).drew).mono (Nat.le_refl _)))
            have BDW := Lib.hid (show Below wr.heap.size wr wr.drew from (Below.refl _ _).drew)
            obtain ⟨bY, oY, eY, lY, hcY⟩ := NB9.out.ex (by omega)
            subst eY
            have CY := Lib.hid (hcY kk hkt)
            have CG := Lib.hid (HC.out kk (by omega))
            have CG1 := Lib.hid (HC.out (kk + 1) (by omega))
            have v1 : wr.drew.cell? ⟨g, kk, none⟩ = some (.slice (U kk).A (U kk).n (U kk).c) := by
              show wr.cell? ⟨g, kk, none⟩ = _
              rw [cell_of_row wr _ _ _ _ _ ROW.out]; exact CG.out.1
            have v2 := (BD9.out.cell (p := ⟨bY, oY + kk, none⟩) lY).trans CY.out
            have v12 := And.intro v1 v2
            have N1 := Lib.hid (CG.out.2.1.below BDW.out)
            have N2 := Lib.hid ((NB9.out.at_ kk hkt).below BD9.out)
            have LTT := Lib.hid (And.intro (show g < wr.drew.heap.size from lg) (show bY < wr.drew.heap.size from Nat.lt_of_lt_of_le lY BD9.out.size))
            have MDD := Lib.hid (MD.out.below (B59.out.trans (BD9.out.mono B59.out.size)))
            have DU := Lib.hid (LD.out _ (HZ.out.rng kk (by omega)).1 (Int.le_of_lt (HZ.out.rng kk (by omega)).2))
            have DU1 := Lib.hid (LD.out _ (HZ.out.rng (kk + 1) (by omega)).1 (Int.le_of_lt (HZ.out.rng (kk + 1) (by omega)).2))
            have DS := Lib.hid (LD.out _ (HV.out.rng kk hkt).1 (Int.le_of_lt (HV.out.rng kk hkt).2))
            clear hcY v1 v2
            go_wp2_with fail
            go_region_held3 (fun w' => w'.cell? ⟨g, kk, none⟩ = some (.slice (U kk).A (U kk).n (U kk).c) ∧ w'.cell? ⟨bY, oY + kk, none⟩ = some (.slice (S kk).A (S kk).n (S kk).c)) (first | exact v12 | exact h12 | go_keep | assumption)
              (first
              | (go_at_call 17; (with_reducible refine (madd_any MDD.out N1.out N2.out DU.out DS.out).mono ?_); rintro e wA ⟨DA, mA, cA, rfl, hA6, bA6, hnA6⟩; have C2J := Lib.hid bA6; have KA := Lib.hid hA6; have NNA := Lib.hid hnA6; have h12 := And.intro ((C2J.out.cell (p := ⟨g, kk, none⟩) LTT.out.1).trans v12.1) ((C2J.out.cell (p := ⟨bY, oY + kk, none⟩) LTT.out.2).trans v12.2); clear hA6 bA6 hnA6))
            all_goals
              have x2 := h12.2
              clear v12 h12
              have BA9 := Lib.hid (BD9.out.trans (C2J.out.mono BD9.out.size))
              have BAW := Lib.hid (BDW.out.trans (C2J.out.mono BDW.out.size))
              have MA := Lib.hid (MDD.out.below C2J.out)
              have S2 := Lib.hid (N2.out.below C2J.out)
              have H92 := Lib.hid (H9.out.below BA9.out)
              go_wp2_with fail
              refine (mmul_any MA.out S2.out H92.out.nm DS.out LV.out).mono ?_
              rintro e wB ⟨DB, mB, cB1, rfl, hB, bB, -⟩
              have KB := Lib.hid hB
              have BBW := Lib.hid (BAW.out.trans (bB.mono BAW.out.size))
              have MB := Lib.hid (MA.out.below bB)
              have KA2 := Lib.hid (KA.out.below bB)
              have x3 : wB.cell? ⟨g, kk + 1, none⟩ = some (.slice (U (kk + 1)).A (U (kk + 1)).n (U (kk + 1)).c) := (BBW.out.cell (p := ⟨g, kk + 1, none⟩) lg).trans (by rw [cell_of_row wr _ _ _ _ _ ROW.out]; exact CG1.out.1)
              have N3 := Lib.hid (CG1.out.2.1.below BBW.out)
              have ek : IntKind.i64.wrap ((kk : Int) + 1) = (kk : Int) + 1 := IntWalk.i64_in _ (by omega)
              have DM := Lib.hid (LD.out ((S kk).N * V % d.Q) (Int.emod_nonneg _ (by have := Q5.out; omega)) (Int.le_of_lt (Int.emod_lt_of_pos _ (by have := Q5.out; omega))))
              clear hB bB x2 S2
              go_wp2_with fail
              refine (msub_any MB.out N3.out KB.out.nm DU1.out DM.out).mono ?_
              rintro e wC ⟨DC, mC, cC, rfl, hC, bC, hnC⟩
              have BCW := Lib.hid (BBW.out.trans (bC.mono BBW.out.size))
              have KA3 := Lib.hid (KA2.out.below bC)
              have KC := Lib.hid hC
              have RC := Lib.hid (show wC.heap[g]? = some (.cells cur 25 (0, 0)) from (BCW.out.block g lg).trans ROW.out)
              have y1 : wC.cell? ⟨g, kk, none⟩ = some (.slice (U kk).A (U kk).n (U kk).c) := by rw [cell_of_row wC _ _ _ _ _ RC.out]; exact CG.out.1
              have f1 := frozen_of_row wC g kk _ _ RC.out
              obtain ⟨wD, hwD⟩ : ∃ wD, wC.setCell ⟨g, kk, none⟩ (.slice DA mA cA) = wD := ⟨_, rfl⟩
              have RD := Lib.hid (show wD.heap[g]? = some (.cells (cur.setIfInBounds kk (.slice DA mA cA)) 25 (0, 0)) by rw [← hwD]; exact heap_setCell_same wC g kk _ _ _ RC.out)
              have y2 : wD.cell? ⟨g, kk + 1, none⟩ = some (.slice (U (kk + 1)).A (U (kk + 1)).n (U (kk + 1)).c) := by
                rw [cell_of_row wD _ _ _ _ _ RD.out, Array.getElem?_setIfInBounds_ne (by omega)]; exact CG1.out.1
              have f2 := frozen_of_row wD g (kk + 1) _ _ RD.out
              obtain ⟨wE, hwE⟩ : ∃ wE, wD.setCell ⟨g, kk + 1, none⟩ (.slice DC mC cC) = wE := ⟨_, rfl⟩
              have RE := Lib.hid (show wE.heap[g]? = some (.cells ((cur.setIfInBounds kk (.slice DA mA cA)).setIfInBounds (kk + 1) (.slice DC mC cC)) 25 (0, 0)) by rw [← hwE]; exact heap_setCell_same wD g (kk + 1) _ _ _ RD.out)
              have nA : ∀ a, DA = some a → a.block ≠ g := fun a ha e => by have := NNA.out a ha; have h : wr.drew.heap.size = wr.heap.size := rfl; omega
              have nC : ∀ a, DC = some a → a.block ≠ g := fun a ha e => by have := hnC a ha; have := BBW.out.size; omega
              have BE := Lib.hid (show Bo g wC wE by rw [← hwE, ← hwD]; exact (Bo.set g kk wC _).trans (Bo.set g (kk + 1) _ _))
              have OLDN := Lib.hid (show ∀ p, p < t + 1 → Nm wE (U p).A (U p).n (U p).c (U p).N from fun p hp => by
                rw [← hwE, ← hwD]
                exact (((HC.out p hp).2.1.below BCW.out).set (HC.out p hp).2.2 _ _).set (HC.out p hp).2.2 _ _)
              have NAE := Lib.hid (show Nm wE DA mA cA (((U kk).N + (S kk).N) % d.Q) from by
                rw [← hwE, ← hwD]
                exact (KA3.out.nm.set nA _ _).set nA _ _)
              have NCE := Lib.hid (show Nm wE DC mC cC (((U (kk + 1)).N - (S kk).N * V % d.Q) % d.Q) from by
                rw [← hwE, ← hwD]
                exact (KC.out.nm.set nC _ _).set nC _ _)
              have HNA := Lib.hid nA
              have HNC := Lib.hid nC
              clear hC bC hnC x3 nA nC
              go_wp2_with fail
              clear hwD hwE y1 y2 f1 f2 ek
              go_roundw
              case rel =>
                have hss := hsz
                have ck : cutV t (fun j => (S j).N) kk = (S kk).N := if_pos hkt
                refine ⟨kk + 1, _, pk9 U kk ⟨DA, mA, cA, ((U kk).N + (S kk).N) % d.Q⟩ ⟨DC, mC, cC, ((U (kk + 1)).N - (S kk).N * V % d.Q) % d.Q⟩, by omega, by go_num, RE.out, by simp [hss], fun p hp => ?_, HZ.out.step (by have := Q5.out; omega) hkt ?_ ?_ ?_, BO.out.trans ((Bo.of g BCW.out).trans BE.out)⟩
                · by_cases g1 : p = kk
                  · subst g1
                    rw [pk9_a]
                    exact ⟨by rw [Array.getElem?_setIfInBounds_ne (by omega), Array.getElem?_setIfInBounds_self_of_lt (by rw [hss]; omega)], NAE.out, HNA.out⟩
                  · by_cases g2 : p = kk + 1
                    · subst g2
                      rw [pk9_b]
                      exact ⟨by rw [Array.getElem?_setIfInBounds_self_of_lt (by simp [hss]; omega)], NCE.out, HNC.out⟩
                    · rw [pk9_o _ _ _ g1 g2]
                      exact ⟨by rw [Array.getElem?_setIfInBounds_ne (by omega), Array.getElem?_setIfInBounds_ne (by omega)]; exact (HC.out p hp).1, OLDN.out p hp, (HC.out p hp).2.2⟩
                · show (pk9 U kk _ _ kk).N = _
                  rw [pk9_a, ck]
                · show (pk9 U kk _ _ (kk + 1)).N = _
                  rw [pk9_b, ck]
                · intro p hp g1 g2
                  show (pk9 U kk _ _ p).N = _
                  rw [pk9_o _ _ _ g1 g2]
              case measure => simp [intOf]; omega
          · obtain rfl : kk = t := by omega
            have lg : g < wr.heap.size := (Array.getElem?_eq_some_iff.1 ROW.out).1
            have BFW := Lib.hid (BW.out.trans ((B79.out.trans (BP.out.mono B79.out.size)).mono BW.out.size))
            have NX := Lib.hid (show Ns wr (some ⟨g, 0, none⟩) (kk + 1) (kk + 1) U from ⟨Nat.le_refl _, by omega, fun _ => ⟨g, 0, rfl, lg, fun i hi => by rw [cell_of_row wr _ _ _ _ _ ROW.out, Nat.zero_add]; exact (HC.out i hi).1⟩, fun i hi => (HC.out i hi).2.1⟩)
            have HX9 := Lib.hid (HZ.out.last HV.out ht1 U3.out)
            have c2 : decide ((kk : Int) < (kk : Int)) = false := by simp
            go_wp2_with fail
            go_roundw
            case rel => exact ⟨kk + 1, _, _, U, by omega, by omega, rfl, by go_num, NX.out, HX9.out, BFW.out⟩
            case measure => simp [intOf]; omega
      · obtain rfl : t = k := by omega
        have c1 : decide ((t : Int) < (t : Int)) = false := by simp
        have B5l := Lib.hid (B57.out.trans (BW.out.mono B57.out.size))
        have MDl := Lib.hid (MD.out.below B5l.out)
        have NPl := Lib.hid (NP5.out.below B5l.out)
        go_wp2_with fail
        clear c1
        go_loopw [27, 28] (fun v i wr => HoR d.Q (fun j => (scN (Sa j)).N) (fun j => (S j).N) t wl v i wr) (fun _ i _ => t - (intOf i).toNat)
        case atStart => exact ⟨0, fun _ => ⟨none, 0, 0, 0⟩, Nat.zero_le _, rfl, Owg.nil _ _ _ _ _, fun j hj => absurd hj (Nat.not_lt_zero j), Below.refl _ _⟩
        case round =>
          obtain ⟨kk, P, hkk, rfl, hl1, hP, hbw⟩ := hrel
          have L1 := Lib.hid hl1
          have HPN := Lib.hid hP
          have BO := Lib.hid hbw
          clear hl1 hP hbw
          rcases Nat.lt_or_ge kk t with hkt | hkge
          · have c2 : (kk : Int) < (t : Int) := by omega
            have BDl := Lib.hid (show Below wl.heap.size wl wr.drew from BO.out.trans (((Below.refl _ _).drew).mono (Nat.le_refl _)))
            obtain ⟨bY, oY, eY, lY, hcY⟩ := NB.out.ex (by omega)
            subst eY
            have v1 := (BDl.out.cell (p := ⟨bA, oA + kk, none⟩) (Nat.lt_of_lt_of_le lA B5l.out.size)).trans ((B5l.out.cell (p := ⟨bA, oA + kk, none⟩) lA).trans (CA.out kk hkt))
            have v2 := (BDl.out.cell (p := ⟨bY, oY + kk, none⟩) lY).trans (hcY kk hkt)
            have v12 := And.intro v1 v2
            have N1 := Lib.hid ((NPl.out.at_ kk hkt).below BDl.out)
            have N2 := Lib.hid ((NB.out.at_ kk hkt).below BDl.out)
            have LTT := Lib.hid (And.intro (show bA < wr.drew.heap.size from Nat.lt_of_lt_of_le lA (B5l.out.trans (BDl.out.mono B5l.out.size)).size) (show bY < wr.drew.heap.size from Nat.lt_of_lt_of_le lY BDl.out.size))
            have MDD := Lib.hid (MDl.out.below BDl.out)
            have DU := Lib.hid (DP.out kk hkt)
            have DS := Lib.hid (LD.out _ (HV.out.rng kk hkt).1 (Int.le_of_lt (HV.out.rng kk hkt).2))
            clear hcY v1 v2
            go_wp2_with fail
            go_region_held3 (fun w' => w'.cell? ⟨bA, oA + kk, none⟩ = some (.slice (scN (Sa kk)).A (scN (Sa kk)).n (scN (Sa kk)).c) ∧ w'.cell? ⟨bY, oY + kk, none⟩ = some (.slice (S kk).A (S kk).n (S kk).c)) (first | exact v12 | exact h12 | go_keep | assumption)
              (first
              | (go_at_call 17; (with_reducible refine (madd_any MDD.out N1.out N2.out DU.out DS.out).mono ?_); rintro e wA ⟨DA, mA, cA, rfl, hA6, bA6, hnA6⟩; have C2J := Lib.hid bA6; have KA := Lib.hid hA6; have NNA := Lib.hid hnA6; have h12 := And.intro ((C2J.out.cell (p := ⟨bA, oA + kk, none⟩) LTT.out.1).trans v12.1) ((C2J.out.cell (p := ⟨bY, oY + kk, none⟩) LTT.out.2).trans v12.2); clear hA6 bA6 hnA6))
            all_goals
              clear v12 h12
              have bx := below_al wA (.cells #[.slice DA mA cA] 25)
              have BRA := Lib.hid (show Below wr.heap.size wr wA from ((Below.refl _ _).drew).trans (C2J.out.mono (Nat.le_refl _)))
              have BRX := Lib.hid (BRA.out.trans (bx.mono BRA.out.size))
              have WX := Lib.hid (BO.out.trans (BRX.out.mono BO.out.size))
              have szA := WX.out.size
              have M1 := Lib.hid (L1.out.below BRX.out)
              have U1 := Lib.hid (show (wA.alloc (.cells #[.slice DA mA cA] 25)).cell? ⟨wA.heap.size, 0, none⟩ = some (kNm.v ⟨DA, mA, cA, ((scN (Sa kk)).N + (S kk).N) % d.Q⟩) from one_at9a wA _ _)
              have U2 := Lib.hid (show kNm.At (wA.alloc (.cells #[.slice DA mA cA] 25)) ⟨DA, mA, cA, ((scN (Sa kk)).N + (S kk).N) % d.Q⟩ from (KA.out.below bx).nm)
              have U3 := Lib.hid (show ∀ b, kNm.Bl ⟨DA, mA, cA, ((scN (Sa kk)).N + (S kk).N) % d.Q⟩ b → u27.ownBlock ≠ some b from fun b ⟨a, ea, _, eb⟩ e => by
                have h1 := (L1.out.lt e).2
                have h2 := NNA.out a ea
                have h3 : wr.drew.heap.size = wr.heap.size := rfl
                have h4 : a.block = b := eb
                omega)
              have LN := Lib.hid KA.out.len_
              clear bx
              go_wp2_with (at_builtin; refine wpList_owg rfl (.tmp 207) (.tmp 209) 22 rfl wl.heap.size 25 24 (.slice none 0 0) Try.underlying22 infoN9a rfl u27 kk 1 P ⟨DA, mA, cA, ((scN (Sa kk)).N + (S kk).N) % d.Q⟩ rfl M1.out wA.heap.size rfl U1.out U2.out U3.out (by unfold maxLen; omega) (by omega) szA ?_)
              rintro v7 w7' n1 hg
              have R1 := Lib.hid n1
              have W7 := Lib.hid (WX.out.grown hg szA (fun g e => (M1.out.lt e).1))
              clear n1 hg M1 U1 U2 U3 szA
              go_wp2_with fail
              go_roundw
              case rel =>
                refine ⟨kk + 1, _, by omega, by go_num, R1.out, fun j hj => ?_, W7.out⟩
                rcases Nat.lt_or_ge j kk with q0 | q0
                · rw [snocG_lt q0]; exact HPN.out j q0
                · obtain rfl : j = kk := by omega
                  rw [snocG_at]
                  exact ⟨rfl, LN.out⟩
              case measure => simp [intOf]; omega
          · obtain rfl : kk = t := by omega
            have c2 : decide ((kk : Int) < (kk : Int)) = false := by simp
            obtain ⟨Ap, cp, rfl, -, nsp⟩ := L1.out.nsl (by omega)
            have NQ := Lib.hid nsp
            clear L1 nsp
            have B5r := Lib.hid (B5l.out.trans (BO.out.mono B5l.out.size))
            have MDr := Lib.hid (MD.out.below B5r.out)
            have NPr := Lib.hid (NP5.out.below B5r.out)
            have GWr := Lib.hid (GW5.out.below B5r.out)
            have Or := Lib.hid (O5.out.below B5r.out)
            have BBr := Lib.hid (B5.out.trans (B5r.out.mono B5.out.size))
            have OOr := Lib.hid (Nm.scN (s := ⟨Ao, no, co, O⟩) Or.out)
            go_wp2_with fail
            clear c2
            refine (scalar_any ⟨Ao, no, co, O⟩ wr nO).mono ?_
            rintro e wX ⟨rfl, rfl⟩
            go_wp2_with fail
            refine (reduce_any MDr.out OOr.out OL.out).mono ?_
            rintro e wF ⟨AF, mF, cF, rfl, hF, bF, -⟩
            have KF := Lib.hid hF
            have BRF := Lib.hid bF
            obtain ⟨bP, oP, rfl, lP, hcP⟩ := NQ.out.ex k0
            have x1 : wF.cell? ⟨bP, oP, none⟩ = some (.slice (P 0).A (P 0).n (P 0).c) := (BRF.out.cell (p := ⟨bP, oP, none⟩) lP).trans (hcP 0 k0)
            have KP0 := Lib.hid ((NQ.out.at_ 0 k0).cn9 (HPN.out 0 k0).2)
            have EQ0 : (P 0).N = (scN ⟨Ao, no, co, O⟩).N % d.Q := hid_first (a := fun j => (scN (Sa j)).N) (V := fun j => (S j).N) (O := fun j => (P j).N) (s := (scN ⟨Ao, no, co, O⟩).N) (by show HidV d.Q ((scN ⟨Ao, no, co, O⟩).N - (scN (Sa 0)).N) kk _; rw [OFF.out]; exact HV.out) k0 (fun j hj => (HPN.out j hj).1)
            have HEQ := Lib.hid EQ0
            clear hF bF hcP EQ0
            go_wp2_with fail
            refine (same9 (KP0.out.below BRF.out) KF.out HEQ.out).mono ?_
            rintro e wS ⟨rfl, qq, rfl⟩
            clear x1 KF
            obtain ⟨wG, hwG⟩ : ∃ wG, wG = wF.drewN qq := ⟨_, rfl⟩
            have BFG := Lib.hid (show Below wF.heap.size wF wG from by rw [hwG]; exact below_drewN (Below.refl _ _) _)
            rw [← hwG]
            clear hwG
            have BRG := Lib.hid (BRF.out.trans (BFG.out.mono BRF.out.size))
            obtain ⟨m, hm⟩ : ∃ m, kk = m + 1 := ⟨kk - 1, by omega⟩
            have HM := Lib.hid hm
            have ek : IntKind.i64.wrap ((kk : Int) - 1) = (m : Int) := by rw [IntWalk.i64_in _ (by omega)]; omega
            have BBG := Lib.hid (BBr.out.trans (BRG.out.mono BBr.out.size))
            rcases Nat.eq_zero_or_pos m with m0 | m0
            · have d2 : ((m : Int) == 0) = true := by simp; omega
              clear hm
              go_wp2_with fail
              go_ret
              exact ⟨rfl, BBG.out⟩
            · have d2 : ((m : Int) == 0) = false := by simp; omega
              have m5 : m ≤ 255 ∧ 1 ≤ kk ∧ kk ≤ 32 := by omega
              have M5 := Lib.hid m5
              clear hm m5
              go_wp2_with fail
              clear ek
              refine (pdeal_ok (GWr.out.below BRG.out) (NPr.out.below BRG.out) M5.out.2.1 M5.out.2.2 DP.out m m0 M5.out.1).mono ?_
              rintro e wH ⟨As, cs, T, Ac, cc, U, rfl, sh, sf, -, -, bH⟩
              have SH := Lib.hid sh.sh
              have SF := Lib.hid sf
              have BRH := Lib.hid (BRG.out.trans (bH.mono BRG.out.size))
              clear sh sf bH
              go_wp2_with fail
              have DQ := Lib.hid (show ∀ i, i < kk → dl (P i).N ≤ 64 from fun i hi => by
                rw [(HPN.out i hi).1]
                exact LD.out _ (Int.emod_nonneg _ (by have := Q5.out; omega)) (Int.le_of_lt (Int.emod_lt_of_pos _ (by have := Q5.out; omega))))
              refine (pdeal_ok (GWr.out.below BRH.out) (NQ.out.below BRH.out) M5.out.2.1 M5.out.2.2 DQ.out m m0 M5.out.1).mono ?_
              rintro e wI ⟨As2, cs2, T2, Ac2, cc2, U2, rfl, sh2, sf2, -, -, bI⟩
              have SH2 := Lib.hid sh2.sh
              have SH1 := Lib.hid (SH.out.below bI)
              have VE := Lib.hid (show ∀ u, u < m → (T u).N = (T2 u).N from fun u hu => by
                rw [(SF.out u hu).2.1, (sf2 u hu).2.1, vlN_is, vlN_is]
                have e := hid_same (a := fun j => (scN (Sa j)).N) (V := fun j => (S j).N) (O := fun j => (P j).N) HV.out (fun j hj => (HPN.out j hj).1) (y := u + 1) (by omega) (by have := HM.out; omega)
                rw [show ((u + 1 : Nat) : Int) = (u : Int) + 1 by omega] at e
                exact e.symm)
              have LE := Lib.hid (show ∀ u, u < m → (T u).n = dl (T u).N ∧ (T2 u).n = dl (T2 u).N from fun u hu => ⟨(SF.out u hu).2.2, (sf2 u hu).2.2⟩)
              have BRI := Lib.hid (BRH.out.trans (bI.mono BRH.out.size))
              have BBI := Lib.hid (BBr.out.trans (BRI.out.mono BBr.out.size))
              have ne1 : ((m : Int) != (m : Int)) = false := by simp
              clear sh2 sf2 bI SH SF
              go_wp2_with fail
              clear ne1
              go_loopw [41] (fun i wr => BjR m wI i wr) (fun i _ => m - (intOf i).toNat)
              case atStart => exact ⟨0, Nat.zero_le _, rfl, Below.refl _ _⟩
              case round =>
                obtain ⟨j, hj, rfl, hbw⟩ := hrel
                have HBJ := Lib.hid hbw
                clear hbw
                rcases Nat.lt_or_ge j m with hlt | hge
                · have hjq : (j : Int) < (m : Int) := by omega
                  have j255 : j < 255 := by have := M5.out.1; omega
                  obtain ⟨g1, o1, rfl, lg1, hc1⟩ := SH1.out.ex (by omega)
                  obtain ⟨g2, o2, rfl, lg2, hc2⟩ := SH2.out.ex (by omega)
                  have BDJ := Lib.hid (show Below wI.heap.size wI wr.drew from HBJ.out.trans (((Below.refl _ _).drew).mono (Nat.le_refl _)))
                  have v1 := (BDJ.out.cell (p := ⟨g1, o1 + j * 2 + 1, none⟩) lg1).trans (hc1 j hlt).2
                  have v2 := (BDJ.out.cell (p := ⟨g2, o2 + j * 2 + 1, none⟩) lg2).trans (hc2 j hlt).2
                  have v12 := And.intro v1 v2
                  have K1 := Lib.hid (((SH1.out.at_ j hlt).2.cn9 (LE.out j hlt).1).below BDJ.out)
                  have K2 := Lib.hid (((SH2.out.at_ j hlt).2.cn9 (LE.out j hlt).2).below BDJ.out)
                  have VJ := Lib.hid (VE.out j hlt)
                  clear hc1 hc2 v1 v2
                  go_wp2_with fail
                  go_region_held3 (fun w' => w'.cell? ⟨g1, o1 + j * 2 + 1, none⟩ = some (.slice (T j).A (T j).n (T j).c) ∧ w'.cell? ⟨g2, o2 + j * 2 + 1, none⟩ = some (.slice (T2 j).A (T2 j).n (T2 j).c)) (first | exact v12 | exact h12 | go_keep | assumption)
                    (first | (go_at_call 16; (with_reducible refine (same9 K1.out K2.out VJ.out).mono ?_); rintro e wS ⟨rfl, qj, rfl⟩; have h12 := v12))
                  all_goals
                    clear v12 h12
                    go_wp2_with fail
                    go_roundw
                    case rel => exact ⟨j + 1, by omega, by go_num, below_drewN HBJ.out _⟩
                    case measure => simp [intOf]; omega
                · obtain rfl : j = m := by omega
                  have hjq : decide ((j : Int) < (j : Int)) = false := by simp
                  go_wp2_with fail
                  go_ret
                  exact ⟨rfl, BBI.out.trans (HBJ.out.mono BBI.out.size)⟩
end Go.Proofs.Ytkecfdeepmhggaa
