/-
  What the document's New answers of a group that is right.
-/
import Derived.Test.YtloibmemlkfkfaaGreatDoorR4
import Derived.Test.YtloibmemlkfkfaaGreatDoorRChk
import Derived.Test.YtloibmemlkfkfaaGreatDoorGro
import Derived.Test.YtloibmemlkfkfaaGreatDoorPkf
namespace Go.Proofs.YtloibmemlkfkfaaGreatDoor
open Go.RowKit
set_option linter.unusedVariables false
/-- A slice doesn't lie in block b. -/
def Off (A : Option Addr) (b : Nat) : Prop := ∀ a, A = some a → a.block ≠ b
theorem Rn.off {w : World} {A : Option Addr} {n c m i : Nat} {N : Int} (h : Rn w A n c N) (hne : Off A m) (u : Value) : Rn (w.setCell ⟨m, i, none⟩ u) A n c N :=
  ⟨h.rd.grown (grown_setCell (World.grownBy.refl w (some m)) i u) hne, h.nc, h.n60, h.pos⟩
theorem Rn.npos {w : World} {A : Option Addr} {n c : Nat} {N : Int} (h : Rn w A n c N) (hN : 0 < N) : 0 < n := by
  have := dg_nil_iff D_two h.pos
  have h2 : dr N ≠ 0 := fun e => by have := this.1 e; omega
  have := h.len_
  omega
theorem Rn.lt {w : World} {A : Option Addr} {n c : Nat} {N : Int} (h : Rn w A n c N) (hN : 0 < N) : ∀ a, A = some a → a.block < w.heap.size := fun a ha => by
  obtain ⟨b, off, e, hb, -⟩ := h.rd.cells (h.npos hN)
  rw [e] at ha
  injection ha with ha
  subst ha
  exact hb
theorem off_x {w : World} {b : Nat} {a0 a1 a2 : Option Addr} {n0 c0 n1 c1 n2 c2 : Nat} {k : Int} {t : TypeId} (hx : w.heap[b]? = some (.cells #[.slice a0 n0 c0, .slice a1 n1 c1, .slice a2 n2 c2, .int .i64 k] t (0, 0))) {A : Option Addr} {n c : Nat} {N : Int} (h : Rn w A n c N) (k0 : 0 ≤ k) (hN : k < N) : Off A b := by
  intro a ha hb
  have hn := h.npos (by omega)
  obtain ⟨b', off, x, e, hlt, hx0, hc⟩ := h.rd.at_ (j := 0) hn
  rw [e] at ha
  injection ha with ha
  subst ha
  simp only at hb
  subst hb
  rw [cell_of_row w b' (off + 0) _ t (0, 0) hx, Nat.add_zero] at hc
  match off, hc with
  | 0, hc => simp at hc
  | 1, hc => simp at hc
  | 2, hc => simp at hc
  | 3, hc =>
    have hxk : k = x := by simpa using hc
    rcases Nat.lt_or_ge 1 n with g | g
    · obtain ⟨b2, off2, x2, e2, -, -, hc2⟩ := h.rd.at_ (j := 1) g
      rw [e] at e2
      injection e2 with e2
      injection e2 with e3 e4
      subst e3 e4
      rw [cell_of_row w b' (3 + 1) _ t (0, 0) hx] at hc2
      simp at hc2
    · have hl := h.rd.len
      have e1 : dg D N = [x] := by
        match hd : dg D N, hl, hx0 with
        | [y], _, hx0 => simp at hx0; rw [hx0]
        | [], hl, _ => simp at hl; omega
        | y :: z :: r, hl, _ => simp at hl; omega
      have h2 := val_dg D_two h.pos
      rw [e1] at h2
      have h3 : val D [x] = x := by simp [val]
      omega
  | off + 4, hc => simp at hc
theorem sz_end {Q : Int} {k : Nat} (hq : 1 ≤ Q) (h : 256 ^ k ≤ Q) (h' : Q < 256 ^ (k + 1)) : sz Q = k := by
  have a := nb_to_pow (x := Q) (n := k) (by omega)
  have b := nb_to_pow (x := Q) (n := k + 1) (by omega)
  have b' := b.2 h'
  have a' : ¬ nb Q ≤ 8 * k := fun g => by have := a.1 g; omega
  unfold sz
  omega
/-- What is laid when both numbers are turned. -/
def RnC (P G : Int) (w : World) (p : Value) (wx : World) : Prop :=
  ∃ wv bX AP nP cP AG nG cG, wv = wx ∧ p = .pointer (some ⟨bX, 0, none⟩) ∧ wv.heap[bX]? = some (.cells #[.slice AP nP cP, .slice none 0 0, .slice AG nG cG, .int .i64 0] 84 (0, 0)) ∧ Rn wv AP nP cP P ∧ Rn wv AG nG cG G ∧ Off AP bX ∧ Off AG bX ∧ Below w.heap.size w wv ∧ w.heap.size ≤ bX
/-- How the size is found. -/
def SzR (Q : Int) (bX : Nat) (r : Rgd) (w : World) (p : Value) (wr : World) : Prop :=
  ∃ (k : Nat) (A : Option Addr) (n c : Nat), p = .slice A n c ∧ Rn wr A n c (256 ^ (k + 1)) ∧ Rg wr bX r k ∧ 256 ^ k ≤ Q ∧ Below w.heap.size w wr
/-- The size so far. -/
def szAt (bX : Nat) (wr : World) : Nat := match wr.cell? ⟨bX, 3, none⟩ with | some (.int _ v) => v.toNat | _ => 0
theorem szAt_rg {wr : World} {bX k : Nat} {r : Rgd} (h : Rg wr bX r k) : szAt bX wr = k := by unfold szAt; rw [h.c3]; simp
theorem k480 {Q : Int} {k : Nat} (hq : 1 ≤ Q) (hd : dl Q ≤ 60) (h : 256 ^ k ≤ Q) : k < 480 := by
  have h1 := (nb_dl (N := Q) (by omega) 60).2 hd
  refine Nat.not_le.1 fun g => ?_
  have := (nb_to_pow (x := Q) (n := k) (by omega)).1 (by omega)
  omega
/-- No group of the document, an error's number, its place. -/
def RNErr (c k : Int) (w : World) (e : Ending) (w' : World) : Prop :=
  e = .returned (.tuple #[.pointer none, .int .i64 c, .int .i64 k]) ∧ Below w.heap.size w w'
/-- The document's group was answered. -/
def RNewP (P Q G : Int) (w : World) (e : Ending) (w' : World) : Prop :=
  ∃ b r, e = .returned (.tuple #[.pointer (some ⟨b, 0, none⟩), .int .i64 0, .int .i64 (-1)]) ∧ Rg w' b r (sz Q) ∧ r.P = P ∧ r.Q = Q ∧ r.G = G ∧ Below w.heap.size w w'
theorem pow256_len {k : Nat} {Q : Int} (h : 256 ^ k ≤ Q) : dr (256 ^ (k + 1) : Int) ≤ dr Q + 1 := by
  have hp : (0 : Int) ≤ 256 ^ k := Int.le_of_lt (Int.pow_pos (by decide))
  have h1 := dr_mul (N := 256 ^ k) (M := 256) hp (by decide)
  have h2 : dr 256 = 1 := by unfold dr; rw [dgD_one (by decide) (by decide)]; rfl
  have h3 := dr_mono hp h
  rw [Int.pow_succ]
  omega
theorem k_small {k : Nat} : (k : Int) < 256 ^ (k + 1) := by
  have : k < 256 ^ (k + 1) := Nat.lt_trans (Nat.lt_succ_self k) (Nat.lt_pow_self (by decide))
  have e : ((256 ^ (k + 1) : Nat) : Int) = (256 : Int) ^ (k + 1) := by simp
  omega
theorem row_set1 {w : World} {b : Nat} {v0 v1 v2 v3 : Value} {t : TypeId} (h : w.heap[b]? = some (.cells #[v0, v1, v2, v3] t (0, 0))) (u : Value) : (w.setCell ⟨b, 1, none⟩ u).heap[b]? = some (.cells #[v0, u, v2, v3] t (0, 0)) := by
  simp [World.setCell, Array.getElem?_modify, h]
theorem row_set3 {w : World} {b : Nat} {v0 v1 v2 v3 : Value} {t : TypeId} (h : w.heap[b]? = some (.cells #[v0, v1, v2, v3] t (0, 0))) (u : Value) : (w.setCell ⟨b, 3, none⟩ u).heap[b]? = some (.cells #[v0, v1, v2, u] t (0, 0)) := by
  simp [World.setCell, Array.getElem?_modify, h]
set_option maxHeartbeats 8000000 in
set_option maxRecDepth 100000 in
theorem rnew_gen {w : World} {Ag : Option Addr} {ng cg : Nat} {G : Int} {bc off n c : Nat} {S : Nat → Stp} (hg : Nm w Ag ng cg G) (lg : ng ≤ 300) (hch : Ch w (some ⟨bc, off, none⟩) n c S) (h1 : 1 ≤ n) (h64 : n ≤ 64) (hl : ∀ i, i < n → (S i).n1 ≤ 60 ∧ (S i).n2 ≤ 60 ∧ (S i).n3 ≤ 60)
    (good : ∀ i, i < n → bdS S n i = 0) (safe : Safe (S 0).P (S 0).Q) (el : El (S 0).P (S 0).Q G) (g1 : G ≠ 1) :
    Calls Tryz.prog 37 #[.agg #[.slice Ag ng cg, .slice (some ⟨bc, off, none⟩) n c]] w (fun e w' => (9 ≤ nb (S 0).Q ∧ RNewP (S 0).P (S 0).Q G w e w') ∨ (nb (S 0).Q < 9 ∧ RNErr 14 (-1) w e w')) := by
  have G1 : 1 ≤ G := el.1
  have dP : dl (S 0).P ≤ 60 := by have := (hch.at_ 0 (by omega)).p.dl_le; have := (hl 0 (by omega)).1; omega
  have dG : dl G ≤ 64 := by have := dl_mono (N := G) (M := (S 0).P) (by omega) (by have := el.2.1; omega); omega
  have l2 : (S 0).n2 ≤ 1000 := by have := (hl 0 (by omega)).2.1; omega
  have pq := safe.pq
  have q3 := safe.q3
  have rP := dr_le (N := (S 0).P) (by omega) dP
  have rQ : dr (S 0).Q ≤ 240 := Nat.le_trans (dr_mono (N := (S 0).Q) (M := (S 0).P) (by omega) (by omega)) rP
  have rG : dr G ≤ 240 := Nat.le_trans (dr_mono (N := G) (M := (S 0).P) (by omega) (by have := el.2.1; omega)) rP
  have bx := Bx.new w Ag ng cg (some ⟨bc, off, none⟩) n c
  have ba := below_al w (.cells #[.slice Ag ng cg, .slice (some ⟨bc, off, none⟩) n c] 54)
  have GOOD := Lib.hid good
  have SAFE := Lib.hid safe
  have EL := Lib.hid el
  have HG1 := Lib.hid g1
  have HCH := Lib.hid (hch.below ba)
  have HG := Lib.hid (hg.below ba)
  have BA := Lib.hid ba
  have BX := Lib.hid bx
  have HL : Hid (∀ i, i < n → (S i).n1 ≤ 1000 ∧ (S i).n2 ≤ 1000 ∧ (S i).n3 ≤ 1000) := Lib.hid fun i hi => by have := hl i hi; omega
  have half : (S 0).P / 2 = (S 0).Q := by omega
  have HALF := Lib.hid half
  have PQ := Lib.hid pq
  have Q3 := Lib.hid q3
  clear good safe el g1 hg ba bx hl pq half q3
  go_enter Tryz.func37, Tryz.ntmps37
  go_wp2_with fail
  refine (rchk_any HCH.out h1 h64 HL.out).mono ?_
  rintro e w1 (⟨-, B1, m1, d1, rfl, k1, b1⟩ | ⟨k, cd, hk, -, hbd, hc0, -⟩)
  · have bx1 := BX.out.below b1
    have ch1 := HCH.out.below b1
    have b01 := BA.out.trans (b1.mono BA.out.size)
    have hg1 := HG.out.below b1
    have m1l : m1 ≤ 1000 := by have := k1.len_; omega
    have CH1 := Lib.hid ch1
    have BX1 := Lib.hid bx1
    have B01 := Lib.hid b01
    have HGW := Lib.hid hg1
    clear b1 ch1 BX HCH BA b01 HG
    go_upto_region 4 with fail
    go_cut [8] (fun p wx => RnC (S 0).P G w1 p wx)
    case first =>
      have bd := below_dr w1
      have KP := Lib.hid (k1.nm.below bd)
      have KG' := Lib.hid (hg1.below bd)
      have BD := Lib.hid bd
      have q0 := bx1.c0
      have LT := Lib.hid bx1.lt
      clear bd hg1 bx1
      go_wp2_with fail
      go_region_with (go_at_call 29; (first
        | ((with_reducible refine (of_nm KP.out m1l).mono ?_); rintro e w2 ⟨BP, nP, cP, rfl, kP, bP⟩; have HG2 := Lib.hid (KG'.out.below bP); have q2 := (bP.cell (p := ⟨w.heap.size, 0, none⟩) LT.out).trans q0)
        | ((with_reducible refine (of_nm HG2.out (by omega)).mono ?_); rintro e w3 ⟨BG, nG, cG, rfl, kG, bG⟩; have kP := kP.below bG; have b3 := bP.trans (bG.mono bP.size))
        | ((with_reducible refine (of_nm KG'.out (by omega)).mono ?_); rintro e w2 ⟨BG, nG, cG, rfl, kG, bG⟩; have HP2 := Lib.hid (KP.out.below bG))
        | ((with_reducible refine (of_nm HP2.out m1l).mono ?_); rintro e w3 ⟨BP, nP, cP, rfl, kP, bP⟩; have kG := kG.below bP; have b3 := bG.trans (bP.mono bG.size))))
      all_goals
        have s3 : w1.heap.size ≤ w3.heap.size := b3.size
        have p0 : 0 < (S 0).P := by have := PQ.out; have := Q3.out; omega
        have oP : Off BP w3.heap.size := fun a ha => by have := kP.lt p0 a ha; omega
        have oG : Off BG w3.heap.size := fun a ha => by have := kG.lt (by omega) a ha; omega
        have bl := below_al w3 (.cells #[.slice BP nP cP, .slice none 0 0, .slice BG nG cG, .int .i64 0] 84)
        have b4 := BD.out.trans (b3.mono BD.out.size)
        go_wp2_with fail
        go_meet
        exact ⟨_, w3.heap.size, BP, nP, cP, BG, nG, cG, rfl, rfl, heap_alloc_new w3 _, kP.below bl, kG.below bl, oP, oG, b4.trans (bl.mono b4.size), s3⟩
    case rest =>
      obtain ⟨w2, bX, AP, nP, cP, AG, nG, cG, rfl, rfl, hrow, kP, kG, oP, oG, b12, sX⟩ := hcut
      have bXlt : bX < w2.heap.size := (Array.getElem?_eq_some_iff.1 hrow).1
      have nPl : nP ≤ 1000 := by have := kP.len_; omega
      have q0 : 0 < (S 0).Q := by have := Q3.out; omega
      have L2 := Lib.hid (rlit w2 (x := 2) (by decide) (by decide))
      have KP2 := Lib.hid (kP.below (below_al w2 (.cells #[.int .i64 2] 3)))
      have c0 : w2.cell? ⟨bX, 0, none⟩ = some (.slice AP nP cP) := cell_of_row w2 bX 0 _ _ (0, 0) hrow
      have HR := Lib.hid hrow
      have KP := Lib.hid kP
      have KG2 := Lib.hid kG
      have OP := Lib.hid oP
      have OG := Lib.hid oG
      have B12 := Lib.hid b12
      have SX := Lib.hid sX
      have BXL := Lib.hid bXlt
      clear hrow kP kG oP oG b12 sX bXlt
      go_wp2_with fail
      refine (rdiv_any KP2.out L2.out nPl (by decide) (by decide)).mono ?_
      rintro e w3 ⟨B3, m3, d3, B3', m3', d3', rfl, kQ, -, b3⟩
      rw [HALF.out] at kQ
      have b23 := below_one b3
      have hrow3 := (b23.block bX BXL.out).trans HR.out
      have oQ : Off B3 bX := off_x hrow3 kQ (by decide) q0
      have row4 := row_set1 hrow3 (.slice B3 m3 d3)
      have rg : Rg (w3.setCell ⟨bX, 1, none⟩ (.slice B3 m3 d3)) bX ⟨AP, nP, cP, B3, m3, d3, AG, nG, cG, (S 0).P, (S 0).Q, G⟩ 0 :=
        ⟨row4, (KP.out.below b23).off OP.out _, kQ.off oQ _, (KG2.out.below b23).off OG.out _⟩
      have b13 := B12.out.trans (b23.mono B12.out.size)
      have b14 : Below w1.heap.size w1 (w3.setCell ⟨bX, 1, none⟩ (.slice B3 m3 d3)) := b13.setCell (p := ⟨bX, 1, none⟩) SX.out _
      have bx4 := BX1.out.below b14
      have ch4 := CH1.out.below b14
      obtain ⟨b', off', hbo, hb0, hcl⟩ := ch4.ex (by omega)
      simp only [Option.some.injEq, Addr.mk.injEq, and_true] at hbo
      obtain ⟨rfl, rfl⟩ := hbo
      have cq := (hcl 0 (by omega)).c1
      rw [Nat.zero_mul, Nat.add_zero] at cq
      have q1 := bx4.c1_
      have sq := (ch4.at_ 0 (by omega)).q
      have n0 : 0 < n := by omega
      have c1 : w3.cell? ⟨bX, 1, none⟩ = some (.slice none 0 0) := cell_of_row w3 bX 1 _ _ (0, 0) hrow3
      have f1 := frozen_of_row w3 bX 1 _ _ hrow3
      have RG := Lib.hid rg
      have B14 := Lib.hid b14
      have OQ := Lib.hid oQ
      clear hcl hb0 kQ b3 b23 hrow3 oQ row4 rg b13 b14 bx4 ch4 L2 KP2 c0 KP KG2 HR B12
      have t1 : ((cmpI (S 0).Q (S 0).Q : Int) != 0) = false := by rw [cmpI_eq]; rfl
      have t2 : decide (cmpI (S 0).Q 2 ≤ 0) = false := by simp; rw [cmpI_gt (show 2 < (S 0).Q by have := Q3.out; omega)]; decide
      have t3 : decide ((dl G : Int) ≤ 64) = true := by simp; omega
      have t4 : ((cmpI G 1 : Int) == 0) = false := by
        rcases Int.lt_or_gt_of_ne HG1.out with k | k
        · rw [cmpI_lt k]; rfl
        · rw [cmpI_gt k]; rfl
      go_wp2_with fail
      refine (of_nm sq (by omega)).mono ?_
      rintro e w5 ⟨B5, m5, d5, rfl, k5, b5⟩
      have rg5 := RG.out.below b5
      have b15 := B14.out.trans (b5.mono B14.out.size)
      have c1 := rg5.c1
      have m5l : m5 ≤ 1000 := by have := k5.len_; omega
      have m3l : m3 ≤ 300 := by have := rg5.q.len_; simp only at this; omega
      clear b5 RG B14 q1 cq sq f1
      go_wp2_with fail
      refine (rcmp_v rg5.q k5 (by show m3 ≤ _; omega) (by omega)).mono ?_
      rintro e w6 ⟨rfl, b6⟩
      have rg6 := rg5.below b6
      have b16 := b15.trans (b6.mono b15.size)
      have L2 := Lib.hid (rlit w6 (x := 2) (by decide) (by decide))
      have KQ := Lib.hid (rg6.q.below (below_al w6 (.cells #[.int .i64 2] 3)))
      clear b6 rg5 b15 c1 k5
      go_wp2_with fail
      refine (rcmp_v KQ.out L2.out (by show m3 ≤ _; omega) (by omega)).mono ?_
      rintro e w7 ⟨rfl, b7⟩
      have b67 := below_one b7
      have rg7 := rg6.below b67
      have b17 := b16.trans (b67.mono b16.size)
      have bx7 := BX1.out.below b17
      have x0 := bx7.c0
      have hg7 := HGW.out.below b17
      clear b7 b67 b16 rg6 L2 KQ
      go_wp2_with fail
      refine (Limbs_nm hg7).mono ?_
      rintro e w8 ⟨rfl, rfl⟩
      have x2 := rg7.c2
      clear x0 hg7 bx7
      have nGl : nG ≤ 300 := by have := rg7.g.len_; simp only at this; omega
      have nPl' : nP ≤ 300 := by have := rg7.p.len_; simp only at this; omega
      go_wp2_with fail
      refine (ris_any rg7 rg7.g nGl nPl' m3l true ⟨fun _ => EL.out, fun _ => rfl⟩).mono ?_
      rintro e w8 ⟨rfl, b8⟩
      have rg8 := rg7.below b8
      have b18 := b17.trans (b8.mono b17.size)
      obtain ⟨r, hr⟩ : ∃ r : Rgd, r = ⟨AP, nP, cP, B3, m3, d3, AG, nG, cG, (S 0).P, (S 0).Q, G⟩ := ⟨_, rfl⟩
      have HRr := Lib.hid hr
      have RG8 : Hid (Rg w8 bX r 0) := Lib.hid (by rw [hr]; exact rg8)
      have OFF : Hid (Off r.AP bX ∧ Off r.AQ bX ∧ Off r.AG bX) := Lib.hid (by rw [hr]; exact ⟨OP.out, OQ.out, OG.out⟩)
      have HQr : r.Q = (S 0).Q := by rw [hr]
      have HQR := Lib.hid HQr
      have hrq : r.nQ ≤ 300 := by rw [hr]; exact m3l
      have WB : Hid (w.heap.size ≤ bX) := Lib.hid (by have := B01.out.size; have := SX.out; omega)
      have lQ : dl (S 0).Q ≤ 60 := Nat.le_trans (dl_mono (N := (S 0).Q) (M := (S 0).P) (by omega) (by have := PQ.out; omega)) dP
      have LQ := Lib.hid lQ
      have PW0 : Hid ((256 : Int) ^ (0 + 1) = 256) := Lib.hid (by decide)
      have y2 := rg8.c2
      have LT := Lib.hid rg8.lt
      have BD := Lib.hid (below_dr w8)
      have KG8 := Lib.hid (rg8.g.below (below_dr w8))
      have B08 := Lib.hid (B01.out.trans (b18.mono B01.out.size))
      clear x2 b8 rg7 b17 rg8 b18 hr HQr lQ OP OQ OG
      go_upto_region 10 with fail
      go_cut [81] (fun p wx => p = .bool false ∧ ∃ wv, wv = wx ∧ Rg wv bX r 0 ∧ Below w.heap.size w wv)
      case first =>
        go_wp2_with fail
        go_region_held3 (fun w' => w'.cell? ⟨bX, 2, none⟩ = some (.slice AG nG cG)) (first | exact y2 | exact z2 | exact u2 | go_keep | assumption)
          (first
          | (go_at_call 73; (refine (rone_any w8.drew).mono ?_; rintro e w9 ⟨BO, nO, cO, rfl, kO, bO⟩; have hnO : nO ≤ 300 := (by have h1 := kO.len_; have h2 : dr 1 = 1 := (by unfold dr; rw [dgD_one (by decide) (by decide)]; rfl); omega); have KG9 := Lib.hid (KG8.out.below bO); have z2 := (bO.cell (p := ⟨bX, 2, none⟩) LT.out).trans y2))
          | (go_at_call 54; (refine (rcmp_v KG9.out kO (by omega) (by omega)).mono ?_; rintro e w10 ⟨rfl, b10⟩; have u2 := (b10.cell (p := ⟨bX, 2, none⟩) (Nat.lt_of_lt_of_le LT.out bO.size)).trans z2)))
        all_goals
          have b910 := BD.out.trans ((bO.trans (b10.mono bO.size)).mono BD.out.size)
          have RG10 := Lib.hid (RG8.out.below b910)
          have B10 := Lib.hid (B08.out.trans (b910.mono B08.out.size))
          clear b910 u2 z2 y2 kO bO b10
          go_wp2_with fail
          go_meet
          exact ⟨rfl, _, rfl, RG10.out, B10.out⟩
      case rest =>
        obtain ⟨rfl, w10, rfl, rg10, b10⟩ := hcut
        have RGr := Lib.hid rg10
        have B0 := Lib.hid b10
        clear rg10 b10 y2 KG8 BD RG8 B08 c1 bx1 hg1 k1 t1 t2 t3 t4 hch nPl nPl' nGl m3l m5l m1l
        go_wp2_with fail
        go_loopw [12] (fun p wr => SzR (S 0).Q bX r w p wr) (fun _ wr => (S 0).Q.toNat - szAt bX wr)
        case atStart =>
          refine ⟨0, _, _, _, rfl, ?_, RGr.out.below (below_al _ _), by have := Q3.out; simp; omega, B0.out.trans ((below_al _ _).mono B0.out.size)⟩
          rw [PW0.out]
          exact rlit w10 (by decide) (by decide)
        case round =>
          obtain ⟨k, A, nA, cA, rfl, kA, rg, hk, hb⟩ := hrel
          have k48 := k480 (Q := (S 0).Q) (by omega) LQ.out hk
          have kS := k_small (k := k)
          have pl := pow256_len hk
          have nAl : nA ≤ 300 := by have := kA.len_; omega
          have hsz := szAt_rg rg
          have c1 := rg.c1
          have HPS : Hid ((256 : Int) ^ (k + 1 + 1) = 256 ^ (k + 1) * 256) := Lib.hid (Int.pow_succ _ _)
          have HSE : Hid ((S 0).Q < 256 ^ (k + 1) → sz (S 0).Q = k) := Lib.hid (sz_end (by omega) hk)
          have HK := Lib.hid hk
          have HSZ := Lib.hid hsz
          obtain ⟨PW, hPW⟩ : ∃ PW, (256 : Int) ^ (k + 1) = PW := ⟨_, rfl⟩
          rw [hPW] at kA kS HPS HSE
          have HPW := Lib.hid hPW
          have HB := Lib.hid hb
          have KS := Lib.hid kS
          clear hPW hk hsz pl hb kS
          rcases Int.lt_or_le (S 0).Q PW with g | g
          · have t1 : decide (cmpI PW r.Q ≤ 0) = false := by rw [HQR.out]; simp; rw [cmpI_gt g]; decide
            have hs : Hid (sz (S 0).Q = k) := Lib.hid (HSE.out g)
            clear g
            go_wp2_with fail
            refine (rcmp_v kA rg.q (by omega) (by omega)).mono ?_
            rintro e w1' ⟨rfl, b1'⟩
            have rg1 := rg.below b1'
            have c3 := rg1.c3
            have RGE := Lib.hid rg1
            have BE := Lib.hid (HB.out.trans (b1'.mono HB.out.size))
            clear c1 rg b1' kA rg1
            rcases Nat.eq_zero_or_pos k with k0 | k0
            · have SM : Hid (nb (S 0).Q < 9) := Lib.hid (by have := hs.out; unfold sz at this; omega)
              have t2 : ((k : Int) == 0) = true := by simp; omega
              have t2' : (k == 0) = true := by simp; omega
              clear k0
              go_wp2
              go_ret3
              exact .inr ⟨SM.out, rfl, BE.out⟩
            · have BG : Hid (9 ≤ nb (S 0).Q) := Lib.hid (by have := hs.out; unfold sz at this; omega)
              have t2 : ((k : Int) == 0) = false := by simp; omega
              have t2' : (k == 0) = false := by simp; omega
              clear k0
              go_wp2
              go_ret3
              exact .inl ⟨BG.out, bX, r, rfl, by rw [hs.out]; exact RGE.out, by rw [HRr.out], by rw [HRr.out], by rw [HRr.out], BE.out⟩
          · have t1 : decide (cmpI PW r.Q ≤ 0) = true := by
              rw [HQR.out]; simp
              rcases Int.lt_or_eq_of_le g with g' | g'
              · rw [cmpI_lt g']; decide
              · rw [g', cmpI_eq]; decide
            have GE := Lib.hid g
            clear g
            go_wp2_with fail
            refine (rcmp_v kA rg.q (by omega) (by omega)).mono ?_
            rintro e w1' ⟨rfl, b1'⟩
            have rg1 := rg.below b1'
            have kA1 := kA.below b1'
            have c3 := rg1.c3
            have f3 := frozen_of_row w1' bX 3 _ _ rg1.row
            have hwk : IntKind.i64.wrap ((k : Int) + 1) = (k : Int) + 1 := IntWalk.i64_in _ (by omega)
            have row2 := row_set3 rg1.row (.int .i64 ((k : Int) + 1))
            have oA : Off A bX := off_x rg1.row kA1 (by omega) KS.out
            have ek : ((k + 1 : Nat) : Int) = (k : Int) + 1 := by omega
            have rg2 : Rg (w1'.setCell ⟨bX, 3, none⟩ (.int .i64 ((k : Int) + 1))) bX r (k + 1) :=
              ⟨by unfold Rgd.cells; rw [ek]; exact row2, rg1.p.off OFF.out.1 _, rg1.q.off OFF.out.2.1 _, rg1.g.off OFF.out.2.2 _⟩
            have b01' := HB.out.trans (b1'.mono HB.out.size)
            have b02' := b01'.setCell (p := ⟨bX, 3, none⟩) WB.out (.int .i64 ((k : Int) + 1))
            have bal := below_al (w1'.setCell ⟨bX, 3, none⟩ (.int .i64 ((k : Int) + 1))) (.cells #[.int .i64 256] 3)
            have KA3 := Lib.hid ((kA1.off oA (.int .i64 ((k : Int) + 1))).below bal)
            have l3 := rlit (w1'.setCell ⟨bX, 3, none⟩ (.int .i64 ((k : Int) + 1))) (x := 256) (by decide) (by decide)
            have s3 : (w1'.setCell ⟨bX, 3, none⟩ (.int .i64 ((k : Int) + 1))).heap.size = w1'.heap.size := by simp
            rw [s3] at l3
            have L3 := Lib.hid l3
            clear l3 s3
            have RG3 := Lib.hid (rg2.below bal)
            have B03 := Lib.hid (b02'.trans (bal.mono b02'.size))
            clear ek row2 oA rg2 b01' b02' bal kA kA1 rg b1' rg1 c1
            go_wp2_with fail
            refine (rmul_any KA3.out L3.out (by omega) (by omega)).mono ?_
            rintro e w4' ⟨B4, m4, d4, rfl, k4, b4⟩
            have rg4 := RG3.out.below b4
            have b04 := B03.out.trans (b4.mono B03.out.size)
            have RG4 := Lib.hid rg4
            have B04 := Lib.hid b04
            have K4 := Lib.hid k4
            have SZ4 := Lib.hid (szAt_rg rg4)
            clear rg4 b04 b4 k4 c3 f3
            go_wp2
            go_roundw
            case rel => exact ⟨k + 1, _, _, _, rfl, by rw [HPS.out]; exact K4.out, RG4.out, by rw [HPW.out]; exact GE.out, B04.out⟩
            case measure => rw [SZ4.out, HSZ.out]; have := GE.out; have := KS.out; omega
  · exact absurd (hbd.symm.trans (GOOD.out k hk)) hc0
/-- The document's New, of a group that is right. -/
theorem rnew_any {w : World} {Ag : Option Addr} {ng cg : Nat} {G : Int} {bc off n c : Nat} {S : Nat → Stp} (hg : Nm w Ag ng cg G) (lg : ng ≤ 300) (hch : Ch w (some ⟨bc, off, none⟩) n c S) (h1 : 1 ≤ n) (h64 : n ≤ 64) (hl : ∀ i, i < n → (S i).n1 ≤ 60 ∧ (S i).n2 ≤ 60 ∧ (S i).n3 ≤ 60)
    (good : ∀ i, i < n → bdS S n i = 0) (safe : Safe (S 0).P (S 0).Q) (el : El (S 0).P (S 0).Q G) (g1 : G ≠ 1) (big : 9 ≤ nb (S 0).Q) :
    Calls Tryz.prog 37 #[.agg #[.slice Ag ng cg, .slice (some ⟨bc, off, none⟩) n c]] w (RNewP (S 0).P (S 0).Q G w) :=
  (rnew_gen hg lg hch h1 h64 hl good safe el g1).mono fun e w' h => h.elim (fun h => h.2) (fun h => absurd h.1 (by omega))
end Go.Proofs.YtloibmemlkfkfaaGreatDoor
