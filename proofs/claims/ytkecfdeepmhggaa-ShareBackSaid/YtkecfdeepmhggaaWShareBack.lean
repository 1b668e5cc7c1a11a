/-
  ShareBack answers true: as many shares as there are coefficients, whichever they are, combine to the first coefficient; each passes its check; one with another value doesn't.
-/
import Derived.Test.YtkecfdeepmhggaaPnc
import Derived.Test.YtkecfdeepmhggaaPkm
import Derived.Deep.CutBlock
namespace Go.Proofs.Ytkecfdeepmhggaa
open Go.RowKit
set_option linter.unusedVariables false
set_option maxRecDepth 100000 in
theorem gp_eqB (b : Nat) : ∀ w : World, (binOp .eql 27 (.pointer (some ⟨b, 0, none⟩)) (.pointer none)).run Try.prog w = .ok (.bool false) w := fun _ => rfl
set_option maxRecDepth 100000 in
theorem mp_eqB (b : Nat) : ∀ w : World, (binOp .eql 46 (.pointer (some ⟨b, 0, none⟩)) (.pointer none)).run Try.prog w = .ok (.bool false) w := fun _ => rfl
theorem infoSB : (Try.prog.info? 42).map (fun i => (i.zero, i.size, i.bytes)) = some (some (.agg #[.int .i64 0, .slice none 0 0]), 2, 32) := by kernel_rfl
theorem infoBB : (Try.prog.info? 4).map (fun i => (i.zero, i.size, i.bytes)) = some (some (.bool false), 1, 1) := by kernel_rfl
theorem run_makeB9 (n : Nat) {C : Int} (hC : C = n) (hn : n ≤ 1000000) (w : World) : (Instr.makeSlice 43 (.int .i64 C) (.int .i64 C)).run Try.prog w =
    .ok (.slice (some ⟨w.heap.size, 0, none⟩) n n) (w.alloc (.cells (List.replicate n (Value.bool false)).toArray 4)) := by
  subst hC
  obtain ⟨i0, hi, hz0, hz1, hz2⟩ := info_parts infoBB
  have hr := run_make (P := Try.prog) w 43 4 i0 (.bool false) Try.underlying43 hi hz0 .i64 .i64 n n (by omega) (by omega) (by rw [hz2]; omega) (by omega)
  have e : madeCells (Value.cells (.bool false)) (n * 1) = (List.replicate n (Value.bool false)).toArray := by
    apply Array.ext'
    rw [Nat.mul_one]
    show (madeCells #[Value.bool false] n).toList = _
    rw [toList_madeCells_one]
  rw [hz1] at hr
  simp only [Int.toNat_natCast] at hr
  rw [e] at hr
  exact hr
/-- The polynomial, so far. -/
def BkR (Sa : Nat → Nsl) (k : Nat) (w : World) (v i : Value) (wr : World) : Prop :=
  ∃ t : Nat, t ≤ k ∧ i = .int .i64 t ∧ Owg kNm 25 wr w.heap.size v t (fun j => scN (Sa j)) ∧ Below w.heap.size w wr
def BjR (q : Nat) (w : World) (i : Value) (wr : World) : Prop := ∃ j : Nat, j ≤ q ∧ i = .int .i64 j ∧ Below w.heap.size w wr
/-- Which shares are taken: those of 'f', unlike one another, as many as t; 'cur' says which. -/
structure BpS (T : Nat → Shr) (n : Nat) (base g : Nat) (w : World) (v : Value) (m : Nat) (f : Nat → Nat) (cur : Array Value) : Prop where
  own : Owk kSh 42 w base v m (fun i => T (f i))
  row : w.heap[g]? = some (.cells cur 4 (0, 0))
  size : cur.size = n
  cell : ∀ j, j < n → ∃ s : Bool, cur[j]? = some (.bool s) ∧ (s = true ↔ ∃ i, i < m ∧ f i = j)
  rng : ∀ i, i < m → f i < n
  inj : ∀ i j, i < m → j < m → f i = f j → i = j
  apart : v.ownBlock ≠ some g
  gb : g < base
/-- As many as are met are at most as many as there are. -/
theorem surj_le9 : ∀ (m n : Nat) (f : Nat → Nat), (∀ j, j < n → ∃ i, i < m ∧ f i = j) → n ≤ m
  | 0, n, f, h => by
    rcases Nat.eq_zero_or_pos n with rfl | g
    · exact Nat.le_refl _
    · obtain ⟨i, hi, _⟩ := h 0 g
      omega
  | m + 1, 0, f, h => Nat.zero_le _
  | m + 1, n + 1, f, h => by
    have := surj_le9 m n (fun i => if f i = n then f m else f i) (fun j hj => by
      obtain ⟨i, hi, e⟩ := h j (by omega)
      rcases Nat.lt_or_ge i m with g | g
      · exact ⟨i, g, by show (if f i = n then f m else f i) = j; rw [if_neg (by omega)]; exact e⟩
      · obtain rfl : i = m := by omega
        obtain ⟨i0, hi0, e0⟩ := h n (by omega)
        have : i0 ≠ i := fun k => by rw [k] at e0; omega
        exact ⟨i0, by omega, by show (if f i0 = n then f i else f i0) = j; rw [if_pos e0]; exact e⟩)
    omega
theorem inj_le9 {m n : Nat} {f : Nat → Nat} (hr : ∀ i, i < m → f i < n) (hi : ∀ i j, i < m → j < m → f i = f j → i = j) : m ≤ n := by
  refine surj_le9 n m (fun j => if h : ∃ i, i < m ∧ f i = j then Classical.choose h else 0) fun i him => ⟨f i, hr i him, ?_⟩
  have hex : ∃ i', i' < m ∧ f i' = f i := ⟨i, him, rfl⟩
  show (if h : ∃ i', i' < m ∧ f i' = f i then Classical.choose h else 0) = i
  rw [dif_pos hex]
  have hc := Classical.choose_spec hex
  exact hi _ _ hc.1 him hc.2
/-- The shares that are picked. -/
def BpR (T : Nat → Shr) (n g : Nat) (w : World) (v i : Value) (wr : World) : Prop :=
  ∃ (t m : Nat) (f : Nat → Nat) (cur : Array Value), i = .int .i64 t ∧ m ≤ t ∧ t ≤ 20 ∧ BpS T n w.heap.size g wr v m f cur ∧ Bo g w wr
/-- .. and the first ones behind. -/
def BqR (T : Nat → Shr) (n g : Nat) (cur : Array Value) (w : World) (v i : Value) (wr : World) : Prop :=
  ∃ (t m : Nat) (f : Nat → Nat), i = .int .i64 t ∧ t ≤ n ∧ Owk kSh 42 wr w.heap.size v m (fun i => T (f i)) ∧ (∀ i, i < m → f i < n) ∧ (∀ i j, i < m → j < m → f i = f j → i = j) ∧
    (∀ i, i < m → cur[f i]? = some (.bool true) ∨ f i < t) ∧ (∀ j, j < t → ∃ i, i < m ∧ f i = j) ∧ (∀ j, j < n → cur[j]? = some (.bool true) → ∃ i, i < m ∧ f i = j) ∧ wr.heap[g]? = some (.cells cur 4 (0, 0)) ∧ v.ownBlock ≠ some g ∧ Bo g w wr
theorem Bo.shs {g : Nat} {w w' : World} {A : Option Addr} {n c : Nat} {T : Nat → Shr} (h : Bo g w w') (hs : Shs w A n c T) (hA : ∀ a, A = some a → a.block ≠ g) (hT : ∀ i, i < n → ∀ b, BlN (T i).A (T i).n b → b ≠ g) : Shs w' A n c T :=
  ⟨hs.nc, hs.c60, fun hn => by
    obtain ⟨b, off, e, hl, hc⟩ := hs.ex hn
    have hb : b ≠ g := hA _ e
    exact ⟨b, off, e, Nat.lt_of_lt_of_le hl h.size, fun i hi => ⟨(h.cell (p := ⟨b, off + i * 2, none⟩) hl hb).trans (hc i hi).1, (h.cell (p := ⟨b, off + i * 2 + 1, none⟩) hl hb).trans (hc i hi).2⟩⟩,
   fun i hi => ⟨(hs.at_ i hi).1, Nm.stay (hs.at_ i hi).2 h.size fun b hb => h.block b (Nm.blt (hs.at_ i hi).2 hb) (hT i hi b hb)⟩⟩
theorem Owk.congr9 {κ : Type} {k : Nat} {K : Kk κ k} {e : TypeId} {w : World} {base : Nat} {v : Value} {n : Nat} {S T : Nat → κ} (h : Owk K e w base v n S) (he : ∀ i, i < n → S i = T i) : Owk K e w base v n T :=
  ⟨by rw [← owkC_congr n he]; exact h.own, fun i hi => he i hi ▸ h.at_ i hi, fun i hi => he i hi ▸ h.els i hi⟩
/-- Another choice behind. -/
theorem snoc_pick9 (T : Nat → Shr) (f : Nat → Nat) (m j : Nat) : ∀ i, i < m + 1 → snocG (fun i => T (f i)) m (T j) i = T (snocG f m j i) := fun i hi => by
  rcases Nat.lt_or_ge i m with g | g
  · rw [snocG_lt g, snocG_lt g]
  · obtain rfl : i = m := by omega
    rw [snocG_at, snocG_at]
theorem Bo.grown9 {r : Nat} {w w' : World} (h : Bo r w w') : w.grownBy w' (some r) := ⟨h.os, h.tape, h.output, h.size, fun k hk hne => h.block k hk (fun e => hne (by rw [e]))⟩
theorem box_heap9 (w : World) (o : Obj) : (w.alloc o).heap[w.heap.size]? = some o := by
  show (w.heap.push o)[w.heap.size]? = some o
  exact Array.getElem?_push_size
theorem sh_box9 (w : World) (x y : Value) : ∀ j u, ([x, y] : List Value)[j]? = some u → (w.alloc (.cells #[x, y] 42)).cell? ⟨w.heap.size, j, none⟩ = some u := fun j u h => by
  rcases j with _ | _ | j
  · simp at h; subst h; simp [World.cell?_alloc_at]
  · simp at h; subst h; simp [World.cell?_alloc_at]
  · simp at h
set_option maxHeartbeats 16000000 in
set_option maxRecDepth 100000 in
theorem shareBack_walk {w : World} (x : Int) (hx : -9223372036854775808 ≤ x ∧ x ≤ 9223372036854775807) {A : Option Addr} {na ca : Nat} {Sa : Nat → Nsl} (ha : Ns w A na ca Sa) (mo : Int) (hmo : -9223372036854775808 ≤ mo ∧ mo ≤ 9223372036854775807)
    {Ap : Option Addr} {np cp : Nat} {X : Nat → Int} (hp : Ils w Ap np cp X) {Ao : Option Addr} {no co : Nat} {O : Int} (ho : Nm w Ao no co O) :
    Calls Try.prog 3 #[.int .i64 x, .slice A na ca, .int .i64 mo, .slice Ap np cp, .slice Ao no co] w (AnsV (.bool true) w) := by
  have HX := Lib.hid hx
  have HM := Lib.hid hmo
  have HA := Lib.hid ha
  have HP := Lib.hid hp
  have HO := Lib.hid ho
  have n60 := ha.c60
  have n61 := hp.c60
  have he0 := neq0_9
  have he1 := eq_nil9
  clear hx hmo ha hp ho
  go_enter Try.func3, Try.ntmps3
  go_wp2_with fail
  refine (up9_any _).mono ?_
  rintro e w1 ⟨rfl, b1⟩
  have B1 := Lib.hid b1
  clear b1
  go_wp2_with fail
  refine (known_any x HX.out w1).mono ?_
  rintro e w2 ⟨Ak, nk, ck, Ak', nk', ck', rfl, kg, b2⟩
  have B2 := Lib.hid (B1.out.trans (b2.mono B1.out.size))
  have KGG := Lib.hid kg
  clear kg b2
  go_wp2_with fail
  refine (kg_new (kix_lt x) KGG.out).mono ?_
  rintro e w3 ⟨b, d, rfl, gr, -, -, -, b3, -, -⟩
  have q1 := gp_eqB b
  have B3 := Lib.hid (B2.out.trans (b3.mono B2.out.size))
  have GR := Lib.hid gr
  clear gr b3 KGG B1 B2
  obtain ⟨k, hk⟩ : ∃ k, min na 5 = k := ⟨_, rfl⟩
  have KK := Lib.hid hk
  have k05 : k ≤ 5 := by omega
  clear hk
  go_upto_block 0 with fail
  go_cut [14, 15] from 51 to 68 (fun v i wx => ∃ A c, v = .slice A k c ∧ Ns wx A k c (fun j => scN (Sa j)) ∧ Below w3.heap.size w3 wx)
  case first =>
    go_wp2_with fail
    go_loopw [14, 15] (fun v i wr => BkR Sa k w3 v i wr) (fun _ i _ => k - (intOf i).toNat)
    case atStart => exact ⟨0, Nat.zero_le _, rfl, Owg.nil _ _ _ _ _, Below.refl _ _⟩
    case round =>
      obtain ⟨t, ht, rfl, hl1, hbw⟩ := hrel
      have L1 := Lib.hid hl1
      have BW := Lib.hid hbw
      have BB := Lib.hid (B3.out.trans (hbw.mono B3.out.size))
      clear hl1 hbw
      rcases Nat.lt_or_ge t k with hlt | hge
      · have hna : t < na := by have := KK.out; omega
        have htk : (t : Int) < (na : Int) := by omega
        have ht5 : (t : Int) < 5 := by omega
        obtain ⟨bA, oA, rfl, lA, hcA⟩ := HA.out.ex (by omega)
        have x1 := (BB.out.cell (p := ⟨bA, oA + t, none⟩) lA).trans (hcA t hna)
        have NA := Lib.hid (HA.out.at_ t hna)
        have nA := NA.out.nc
        clear hcA
        go_wp2_with fail
        refine (scalar_any (Sa t) wr nA).mono ?_
        rintro e wX ⟨rfl, rfl⟩
        clear nA x1
        have bx := below_al wr (.cells #[.slice (scN (Sa t)).A (scN (Sa t)).n (scN (Sa t)).c] 25)
        have WX := Lib.hid (BW.out.trans (bx.mono BW.out.size))
        have szA := WX.out.size
        have M1 := Lib.hid (L1.out.below bx)
        have U1 := Lib.hid (show (wr.alloc (.cells #[.slice (scN (Sa t)).A (scN (Sa t)).n (scN (Sa t)).c] 25)).cell? ⟨wr.heap.size, 0, none⟩ = some (kNm.v (scN (Sa t))) from one_at9a wr _ _)
        have U2 := Lib.hid (show kNm.At (wr.alloc (.cells #[.slice (scN (Sa t)).A (scN (Sa t)).n (scN (Sa t)).c] 25)) (scN (Sa t)) from NA.out.scN.below (BB.out.trans (bx.mono BB.out.size)))
        have U3 := Lib.hid (show ∀ b, kNm.Bl (scN (Sa t)) b → u14.ownBlock ≠ some b from fun b hb => L1.out.old (Nat.lt_of_lt_of_le (NA.out.scN.blt hb) B3.out.size))
        clear bx
        go_wp2_with (at_builtin; refine wpList_owg rfl (.tmp 61) (.tmp 67) 22 rfl w3.heap.size 25 24 (.slice none 0 0) Try.underlying22 infoN9a rfl u14 t 1 (fun j => scN (Sa j)) (scN (Sa t)) rfl M1.out wr.heap.size rfl U1.out U2.out U3.out (by unfold maxLen; omega) (by omega) szA ?_)
        rintro v7 w7 n1 hg
        have R1 := Lib.hid (n1.congr9 (snoc_self9 (fun j => scN (Sa j)) t))
        have W7 := Lib.hid (WX.out.grown hg szA (fun g e => (M1.out.lt e).1))
        clear n1 hg M1 U1 U2 U3 szA
        go_wp2_with fail
        go_roundw
        case rel => exact ⟨t + 1, by omega, by go_num, R1.out, W7.out⟩
        case measure => simp [intOf]; omega
      · obtain rfl : t = k := by omega
        obtain ⟨Aq, cq, rfl, -, nsp⟩ := L1.out.nsl (by omega)
        have NP := Lib.hid nsp
        have KEY := KK.out
        clear L1 nsp
        rcases Nat.lt_or_ge t na with g | g
        · have d1 : decide ((t : Int) < (na : Int)) = true := by simp; omega
          have d2 : decide ((t : Int) < 5) = false := by simp; omega
          clear KEY
          go_wp2_with fail
          go_meet
          exact ⟨Aq, cq, rfl, NP.out, BW.out⟩
        · have d1 : decide ((t : Int) < (na : Int)) = false := by simp; omega
          clear KEY
          go_wp2_with fail
          go_meet
          exact ⟨Aq, cq, rfl, NP.out, BW.out⟩
  case rest =>
  obtain ⟨Aq, cq, rfl, nsp, bw⟩ := hcut
  have NP := Lib.hid nsp
  have DP := Lib.hid (show ∀ i, i < k → dl (scN (Sa i)).N ≤ 64 from fun i hi => (HA.out.at_ i (by have := KK.out; omega)).dlsc)
  have PP := Lib.hid (show ∀ i, i < k → 0 ≤ (scN (Sa i)).N from fun i hi => (HA.out.at_ i (by have := KK.out; omega)).possc)
  have GW := Lib.hid (GR.out.below bw)
  have BB := Lib.hid (B3.out.trans (bw.mono B3.out.size))
  clear nsp bw GR B3
  rcases Nat.eq_zero_or_pos k with g0 | g0
  · have d1 : ((k : Int) == 0) = true := by simp; omega
    go_wp2_with fail
    go_ret
    exact ⟨rfl, BB.out⟩
  have d1 : ((k : Int) == 0) = false := by simp; omega
  obtain ⟨z, hz⟩ : ∃ z : Int, (if mo < 0 then -(mo + 1) else mo) = z := ⟨_, rfl⟩
  have z0 : 0 ≤ z ∧ z ≤ 9223372036854775807 := by have := HM.out; rw [← hz]; split <;> omega
  have HZ := Lib.hid hz
  clear hz
  go_upto_if 74 with fail
  obtain ⟨w4, hw4⟩ : ∃ w4, w4 = wc := ⟨_, rfl⟩
  subst hw4
  go_cut [2] from 75 to 77 (fun v wx => v = .int .i64 z ∧ w4 = wx)
  case first =>
    rcases Int.lt_or_le mo 0 with g3 | g3
    · have e3 : decide (mo < 0) = true := by simp; omega
      have e4 : IntKind.i64.wrap (mo + 1) = mo + 1 := IntWalk.i64_in _ (by have := HM.out; omega)
      have e5 : IntKind.i64.wrap (-(mo + 1)) = -(mo + 1) := IntWalk.i64_in _ (by have := HM.out; omega)
      have E6 := Lib.hid (show -(mo + 1) = z by rw [← HZ.out, if_pos g3])
      go_wp2_with fail
      go_meet
      exact ⟨by rw [E6.out], rfl⟩
    · have e3 : decide (mo < 0) = false := by simp; omega
      have E6 := Lib.hid (show mo = z by rw [← HZ.out, if_neg (by omega)])
      go_wp2_with fail
      go_meet
      exact ⟨by rw [E6.out], rfl⟩
  case rest =>
  obtain ⟨rfl, rfl⟩ := hcut
  obtain ⟨q, hq⟩ : ∃ q : Nat, (k : Int) + z % 4 = (q : Int) := ⟨((k : Int) + z % 4).toNat, by omega⟩
  have kq : k ≤ q := by omega
  have q8 : q ≤ 8 := by omega
  have e7 : z.tmod 4 = z % 4 := Int.tmod_eq_emod_of_nonneg z0.1
  have e8 : IntKind.i64.wrap (z % 4) = z % 4 := IntWalk.i64_in _ (by omega)
  have e9 : IntKind.i64.wrap ((k : Int) + z % 4) = (q : Int) := by rw [IntWalk.i64_in _ (by omega)]; exact hq
  go_wp2_with fail
  clear e7 e8 e9 hq z0 d1
  have q255 : q ≤ 255 := by omega
  refine (pdeal_ok GW.out NP.out (by omega) (by omega) DP.out q (by omega) q255).mono ?_
  rintro e w5 ⟨As, cs, T, Ac, cc, U, rfl, sh, sf, ns, cf, b5⟩
  have SH := Lib.hid sh
  have SF := Lib.hid sf
  have NS := Lib.hid ns
  have CF := Lib.hid cf
  have B45 := Lib.hid b5
  have B5 := Lib.hid (BB.out.trans (b5.mono BB.out.size))
  have G5 := Lib.hid (GW.out.below b5)
  have NP5 := Lib.hid (NP.out.below b5)
  have SAFE := Lib.hid GW.out.safe
  have EG := Lib.hid GW.out.el
  have G1 := Lib.hid GW.out.g1
  have LQ := Lib.hid GW.out.lq
  have Q5 := Lib.hid GW.out.q255
  have ne1 : ((q : Int) != (q : Int)) = false := by simp
  have ne2 : ((k : Int) != (k : Int)) = false := by simp
  have PUB := Lib.hid (show ∀ u, u < q → (T u).N = pvl (fun i => (scN (Sa i)).N) k ((u : Int) + 1) % d.Q ∧ gx d.P d.Q d.G (T u).N = pubI d.P d.Q (fun i => (U i).N) ((u : Int) + 1) k from fun u hu => by
    have e1 : (T u).N = pvl (fun i => (scN (Sa i)).N) k ((u : Int) + 1) % d.Q := by rw [(sf u hu).2.1, vlN_is]
    refine ⟨e1, ?_⟩
    rw [e1, gx_mod SAFE.out.q1, pub_val SAFE.out.p2 SAFE.out.q1 EG.out (fun t ht => PP.out t ht) (by omega) (fun t ht => (cf t ht).1)])
  have ELU := Lib.hid (show ∀ u, u < k → El d.P d.Q (U u).N from fun u hu => by
    rw [(cf u hu).1]; exact gx_el SAFE.out.p2 SAFE.out.q1 EG.out _)
  have LT := Lib.hid (show ∀ u, u < q → dl (T u).N ≤ 64 from fun u hu => by
    have h1 : dl (T u).N ≤ dl d.Q := by
      rw [(sf u hu).2.1]
      exact dl_mono (vlN_rng SAFE.out.q1 k).1 (vlN_rng SAFE.out.q1 k).2
    have := LQ.out
    omega)
  clear sh sf ns cf b5 NP GW
  go_wp2_with fail
  clear ne1 ne2
  go_loopw [20] (fun i wr => BjR q w5 i wr) (fun i _ => q - (intOf i).toNat)
  case atStart => exact ⟨0, Nat.zero_le _, rfl, Below.refl _ _⟩
  case round =>
    obtain ⟨j, hj, rfl, hbw⟩ := hrel
    have HBJ := Lib.hid hbw
    clear hbw
    rcases Nat.lt_or_ge j q with hlt | hge
    · have hjq : (j : Int) < (q : Int) := by omega
      obtain ⟨g1, o1, rfl, lg1, hc1⟩ := SH.out.sh.ex (by omega)
      have v0 := (HBJ.out.cell (p := ⟨g1, o1 + j * 2, none⟩) lg1).trans (hc1 j hlt).1
      have v1 := (HBJ.out.cell (p := ⟨g1, o1 + j * 2 + 1, none⟩) lg1).trans (hc1 j hlt).2
      have EC := Lib.hid (show chC d.P d.Q d.G (fun i => (U i).N) k (T j).I (T j).N = 0 by
        have hI := (SF.out j hlt).1
        refine chC_ok ⟨by omega, by omega, ?_⟩ (by have := LT.out j hlt; omega) ELU.out ?_
        · rw [hI]; exact ⟨by omega, by omega⟩
        · rw [hI]; exact (PUB.out j hlt).2)
      clear hc1
      go_wp2_with fail
      refine (pcheck_any (s := T j) (G5.out.below HBJ.out) (NS.out.ns.below HBJ.out) ((SH.out.sh.at_ j hlt).below HBJ.out)).mono ?_
      rintro e wX ⟨rfl, bX⟩
      rw [EC.out, erv9_no rfl]
      have BX := Lib.hid (HBJ.out.trans (bX.mono HBJ.out.size))
      clear bX
      go_wp2_with fail
      go_roundw
      case rel => exact ⟨j + 1, by omega, by go_num, BX.out⟩
      case measure => simp [intOf]; omega
    · obtain rfl : j = q := by omega
      have hjq : decide ((j : Int) < (j : Int)) = false := by simp
      have hmk := fun W => run_makeB9 j (C := (j : Int)) rfl (by omega) W
      obtain ⟨Z, hZ⟩ : ∃ Z : Array Value, Z = (List.replicate j (Value.bool false)).toArray := ⟨_, rfl⟩
      rw [← hZ] at hmk
      have ZS := Lib.hid (show Z.size = j by rw [hZ]; simp)
      have ZC := Lib.hid (show ∀ p, p < j → Z[p]? = some (.bool false) from fun p hp => by rw [hZ]; simp [hp])
      obtain ⟨g, hg0⟩ : ∃ g, wr.heap.size = g := ⟨_, rfl⟩
      have GG := Lib.hid hg0
      obtain ⟨w7, hw7⟩ : ∃ w7, wr.alloc (.cells Z 4) = w7 := ⟨_, rfl⟩
      have R7 := Lib.hid (show w7.heap[g]? = some (.cells Z 4 (0, 0)) by rw [← hw7, ← hg0]; exact heap_alloc_new wr _)
      have B57 := Lib.hid (show Below w5.heap.size w5 w7 by rw [← hw7]; exact HBJ.out.trans ((below_al wr _).mono HBJ.out.size))
      have S7 := Lib.hid (show w7.heap.size = g + 1 by rw [← hw7, ← hg0]; simp)
      have G5g := Lib.hid (show w5.heap.size ≤ g by rw [← hg0]; exact HBJ.out.size)
      clear hZ HBJ
      go_upto_block 4 with fail
      clear hjq hmk hw7

      clear hg0
      have SH7 := Lib.hid (SH.out.sh.below B57.out)
      have BLT := Lib.hid (show ∀ i, i < j → ∀ b, BlN (T i).A (T i).n b → b < g from fun i hi b hb => Nat.lt_of_lt_of_le (Nm.blt (SH.out.sh.at_ i hi).2 hb) G5g.out)
      have ALT := Lib.hid (show ∀ a, As = some a → 0 < j → a.block < g from fun a ha hp => by
        obtain ⟨b0, o0, e0, l0, -⟩ := SH.out.sh.ex hp
        rw [e0] at ha
        injection ha with ha
        subst ha
        exact Nat.lt_of_lt_of_le l0 G5g.out)
      have hq0 : (j : Int) ≠ 0 := by omega
      have hq1 : ((j : Int) == 0) = false := by simp; omega
      go_cut [22, 24, 25] from 122 to 158 (fun v i zz wx => ∃ m f cur, BpS T j w7.heap.size g wx v m f cur ∧ m ≤ 20 ∧ Bo g w7 wx)
      case first =>
        go_wp2_with fail
        go_loopw [22, 24] (fun v i wr => BpR T j g w7 v i wr) (fun _ i _ => 20 - (intOf i).toNat)
        case atStart =>
          refine ⟨0, 0, fun _ => 0, Z, rfl, Nat.le_refl _, by omega, ⟨Owk.nil _ _ _ _ _, R7.out, ZS.out, fun p hp => ⟨false, ZC.out p hp, fun k => (by cases k), fun ⟨i, hi, _⟩ => absurd hi (Nat.not_lt_zero i)⟩, fun i hi => absurd hi (Nat.not_lt_zero i), fun i _ hi => absurd hi (Nat.not_lt_zero i), fun e => (by cases e), by have := S7.out; omega⟩, Bo.refl _ _⟩
        case round =>
          obtain ⟨t, m, f, cur, rfl, hmt, ht20, hs, hbo⟩ := hrel
          have HS := Lib.hid hs
          have BO := Lib.hid hbo
          have BP := Lib.hid (show Below w5.heap.size w5 wr from hbo.below B57.out G5g.out)
          clear hs hbo
          by_cases hin : t < np ∧ t < 20
          · obtain ⟨h1, h2⟩ := hin
            have c1 : (t : Int) < (np : Int) := by omega
            have c2 : (t : Int) < 20 := by omega
            obtain ⟨bP, oP, rfl, lP, hcP⟩ := HP.out.ex (by omega)
            have x1 := ((B5.out.trans (BP.out.mono B5.out.size)).cell (p := ⟨bP, oP + t, none⟩) lP).trans (hcP t h1)
            have XR := HP.out.rg t h1
            obtain ⟨zz, hzz⟩ : ∃ zz : Int, (if X t < 0 then -(X t + 1) else X t) = zz := ⟨_, rfl⟩
            have zz0 : 0 ≤ zz ∧ zz ≤ 9223372036854775807 := by rw [← hzz]; split <;> omega
            have HZZ := Lib.hid hzz
            obtain ⟨xt, hxt⟩ : ∃ xt, X t = xt := ⟨_, rfl⟩
            rw [hxt] at x1 XR HZZ
            clear hcP hzz hxt
            go_upto_if 137 with fail
            go_cut [25] from 138 to 140 (fun v wx => v = .int .i64 zz ∧ wr = wx)
            case first =>
              rcases Int.lt_or_le xt 0 with g3 | g3
              · have e3 : decide (xt < 0) = true := by simp; omega
                have e4 : IntKind.i64.wrap (xt + 1) = xt + 1 := IntWalk.i64_in _ (by omega)
                have e5 : IntKind.i64.wrap (-(xt + 1)) = -(xt + 1) := IntWalk.i64_in _ (by omega)
                have E6 := Lib.hid (show -(xt + 1) = zz by rw [← HZZ.out, if_pos g3])
                go_wp2_with fail
                go_meet
                exact ⟨by rw [E6.out], rfl⟩
              · have e3 : decide (xt < 0) = false := by simp; omega
                have E6 := Lib.hid (show xt = zz by rw [← HZZ.out, if_neg (by omega)])
                go_wp2_with fail
                go_meet
                exact ⟨by rw [E6.out], rfl⟩
            case rest =>
            obtain ⟨rfl, rfl⟩ := hcut
            obtain ⟨kk, hkk⟩ : ∃ kk : Nat, zz % (j : Int) = (kk : Int) := ⟨(zz % (j : Int)).toNat, by have := Int.emod_nonneg zz hq0; omega⟩
            have kkj : kk < j := by have := Int.emod_lt_of_pos zz (show (0 : Int) < (j : Int) by omega); omega
            have e7 : zz.tmod (j : Int) = (kk : Int) := by rw [Int.tmod_eq_emod_of_nonneg zz0.1]; exact hkk
            have e8 : IntKind.i64.wrap (kk : Int) = (kk : Int) := IntWalk.i64_in _ (by omega)
            have ckk : (kk : Int) < (j : Int) := by omega
            obtain ⟨sb, hsb, hse⟩ := HS.out.cell kk kkj
            have y1 : wr.cell? ⟨g, kk, none⟩ = some (.bool sb) := by rw [cell_of_row wr _ _ _ _ _ HS.out.row]; exact hsb
            have HSE := Lib.hid hse
            have HSB := Lib.hid hsb
            clear hkk hse hsb x1 HZZ zz0
            cases sb with
            | true =>
              go_wp2_with fail
              clear e7 e8
              go_roundw
              case rel => exact ⟨t + 1, m, f, cur, by go_num, by omega, by omega, HS.out, BO.out⟩
              case measure => simp [intOf]; omega
            | false =>
              have fz := frozen_of_row wr g kk _ _ HS.out.row
              have NOT := Lib.hid (show ∀ i, i < m → f i ≠ kk from fun i hi e => by have := HSE.out.2 ⟨i, hi, e⟩; cases this)
              obtain ⟨w8, hw8⟩ : ∃ w8, wr.setCell ⟨g, kk, none⟩ (.bool true) = w8 := ⟨_, rfl⟩
              have B8 := Lib.hid (show Bo g wr w8 by rw [← hw8]; exact Bo.set _ _ _ _)
              have R8 := Lib.hid (show w8.heap[g]? = some (.cells (cur.setIfInBounds kk (.bool true)) 4 (0, 0)) by rw [← hw8]; exact heap_setCell_same wr g kk _ _ _ HS.out.row)
              obtain ⟨g1, o1, eAs, lg1, hc1⟩ := SH7.out.ex (by omega)
              have gne : g1 ≠ g := by have := ALT.out _ eAs (by omega); show g1 ≠ g; have h : g1 < g := this; omega
              have BW8 := Lib.hid (BO.out.trans B8.out)
              have i1 := (BW8.out.cell (p := ⟨g1, o1 + kk * 2, none⟩) lg1 gne).trans (hc1 kk kkj).1
              have v1 := (BW8.out.cell (p := ⟨g1, o1 + kk * 2 + 1, none⟩) lg1 gne).trans (hc1 kk kkj).2
              subst eAs
              have O8 := Lib.hid (HS.out.own.grown B8.out.grown9 (by
                have := HS.out.apart
                exact .inr this) (fun i hi b hb e => by
                  have h1 := BLT.out (f i) (HS.out.rng i hi) b hb
                  injection e with e
                  omega))
              have bx := below_al w8 (.cells #[.int .i64 (T kk).I, .slice (T kk).A (T kk).n (T kk).c] 42)
              have O9 := Lib.hid (O8.out.below bx)
              have U1 := Lib.hid (show ∀ (p : Nat) (u : Value), (kSh.v (T kk))[p]? = some u → (w8.alloc (.cells #[.int .i64 (T kk).I, .slice (T kk).A (T kk).n (T kk).c] 42)).cell? ⟨w8.heap.size, p, none⟩ = some u from fun p u hu => sh_box9 w8 _ _ p u hu)
              have U2 := Lib.hid (show kSh.At (w8.alloc (.cells #[.int .i64 (T kk).I, .slice (T kk).A (T kk).n (T kk).c] 42)) (T kk) from ⟨(SH7.out.at_ kk kkj).1, (Nm.stay (SH7.out.at_ kk kkj).2 BW8.out.size fun b hb => BW8.out.block b (Nm.blt (SH7.out.at_ kk kkj).2 hb) (by have := BLT.out kk kkj b hb; omega)).below bx⟩)
              have U3 := Lib.hid (show ∀ b, kSh.Bl (T kk) b → u22.ownBlock ≠ some b from fun b hb => HS.out.own.old (by have := BLT.out kk kkj b hb; have := S7.out; omega))
              have R9 := Lib.hid ((bx.block g (by have := (Array.getElem?_eq_some_iff.1 R8.out).1; exact this)).trans R8.out)
              have B9 := Lib.hid (BW8.out.trans (Bo.of g bx))
              have sz9 := B9.out.size
              have lg9 := Lib.hid (Array.getElem?_eq_some_iff.1 R9.out).1
              clear bx hc1
              go_wp2_with (at_builtin; refine wpList_owk rfl (.tmp 152) (.tmp 157) 37 rfl w7.heap.size 42 32 (.agg #[.int .i64 0, .slice none 0 0]) Try.underlying37 infoSB rfl (by decide) u22 m 1 (fun i => T (f i)) (T kk) rfl O9.out w8.heap.size rfl U1.out U2.out U3.out (by unfold maxLen; omega) (by omega) sz9 ?_)
              rintro v10 w10 n1 hg
              have N1 := Lib.hid (n1.congr9 (snoc_pick9 T f m kk))
              have R10 := Lib.hid ((hg.block g lg9.out (fun e => HS.out.apart e.symm)).trans R9.out)
              have B10 := Lib.hid (show Bo g w7 w10 from ⟨hg.os.trans B9.out.os, hg.tape.trans B9.out.tape, hg.output.trans B9.out.output, Nat.le_trans B9.out.size hg.size, fun b hb hne => (hg.block b (Nat.lt_of_lt_of_le hb B9.out.size) (fun e => by have := (O9.out.lt e.symm).1; omega)).trans (B9.out.block b hb hne)⟩)
              clear n1 hg U1 U2 U3 O8 O9 sz9 e7 e8 hw8
              go_wp2_with fail
              go_roundw
              case rel =>
                have hss := HS.out.size
                refine ⟨t + 1, m + 1, snocG f m kk, _, by go_num, by omega, by omega, ⟨N1.out, R10.out, by simp [hss], fun p hp => ?_, fun i hi => ?_, fun i i' hi hi' e => ?_, fun e => by have := (N1.out.lt e).1; have := S7.out; omega, HS.out.gb⟩, B10.out⟩
                · rcases Nat.lt_or_ge p kk with q0 | q0
                  · obtain ⟨s', k1, k2⟩ := HS.out.cell p hp
                    refine ⟨s', by rw [Array.getElem?_setIfInBounds_ne (by omega)]; exact k1, fun h => ?_, fun ⟨i, hi, e⟩ => ?_⟩
                    · obtain ⟨i, hi, e⟩ := k2.1 h
                      exact ⟨i, by omega, by rw [snocG_lt hi]; exact e⟩
                    · rcases Nat.lt_or_ge i m with q1 | q1
                      · rw [snocG_lt q1] at e; exact k2.2 ⟨i, q1, e⟩
                      · obtain rfl : i = m := by omega
                        rw [snocG_at] at e; omega
                  · rcases Nat.lt_or_ge kk p with q2 | q2
                    · obtain ⟨s', k1, k2⟩ := HS.out.cell p hp
                      refine ⟨s', by rw [Array.getElem?_setIfInBounds_ne (by omega)]; exact k1, fun h => ?_, fun ⟨i, hi, e⟩ => ?_⟩
                      · obtain ⟨i, hi, e⟩ := k2.1 h
                        exact ⟨i, by omega, by rw [snocG_lt hi]; exact e⟩
                      · rcases Nat.lt_or_ge i m with q1 | q1
                        · rw [snocG_lt q1] at e; exact k2.2 ⟨i, q1, e⟩
                        · obtain rfl : i = m := by omega
                          rw [snocG_at] at e; omega
                    · obtain rfl : p = kk := by omega
                      exact ⟨true, by rw [Array.getElem?_setIfInBounds_self_of_lt (by rw [hss]; exact hp)], fun _ => ⟨m, by omega, snocG_at⟩, fun _ => rfl⟩
                · rcases Nat.lt_or_ge i m with q1 | q1
                  · rw [snocG_lt q1]; exact HS.out.rng i q1
                  · obtain rfl : i = m := by omega
                    rw [snocG_at]; exact kkj
                · rcases Nat.lt_or_ge i m with q1 | q1
                  · rcases Nat.lt_or_ge i' m with q2 | q2
                    · rw [snocG_lt q1, snocG_lt q2] at e; exact HS.out.inj i i' q1 q2 e
                    · obtain rfl : i' = m := by omega
                      rw [snocG_lt q1, snocG_at] at e; exact absurd e (NOT.out i q1)
                  · obtain rfl : i = m := by omega
                    rcases Nat.lt_or_ge i' i with q2 | q2
                    · rw [snocG_at, snocG_lt q2] at e; exact absurd e.symm (NOT.out i' q2)
                    · omega
              case measure => simp [intOf]; omega
          · rcases Nat.lt_or_ge t np with g3 | g3
            · have d1 : decide ((t : Int) < (np : Int)) = true := by simp; omega
              have d2 : decide ((t : Int) < 20) = false := by simp; omega
              clear hin
              go_wp2_with fail
              go_meet
              exact ⟨m, f, cur, HS.out, by omega, BO.out⟩
            · have d1 : decide ((t : Int) < (np : Int)) = false := by simp; omega
              clear hin
              go_wp2_with fail
              go_meet
              exact ⟨m, f, cur, HS.out, by omega, BO.out⟩
      case rest =>
        obtain ⟨m0, f0, cur, hs0, hm20, hbo0⟩ := hcut
        have HS0 := Lib.hid hs0
        have BO0 := Lib.hid hbo0
        have CB := Lib.hid (show ∀ p, p < j → ∃ s : Bool, cur[p]? = some (.bool s) from fun p hp => by obtain ⟨s, h1, -⟩ := hs0.cell p hp; exact ⟨s, h1⟩)
        obtain ⟨w8, hw8⟩ : ∃ w8, w8 = wc := ⟨_, rfl⟩
        subst hw8
        clear hs0 hbo0
        go_upto_block 6 with fail
        go_cut [22, 26] from 159 to 182 (fun v i wx => ∃ (m : Nat) (f : Nat → Nat), Owk kSh 42 wx w7.heap.size v m (fun i => T (f i)) ∧ (∀ i, i < m → f i < j) ∧ (∀ i i', i < m → i' < m → f i = f i' → i = i') ∧ k ≤ m ∧ Bo g w7 wx)
        case first =>
          go_wp2_with fail
          go_loopw [22, 26] (fun v i wr => BqR T j g cur w7 v i wr) (fun _ i _ => j - (intOf i).toNat)
          case atStart => exact ⟨0, m0, f0, rfl, Nat.zero_le _, HS0.out.own, HS0.out.rng, HS0.out.inj, fun i hi => .inl (by
            obtain ⟨s, h1, h2⟩ := HS0.out.cell (f0 i) (HS0.out.rng i hi)
            have := h2.2 ⟨i, hi, rfl⟩
            subst this
            exact h1), fun p hp => absurd hp (Nat.not_lt_zero p), fun p hp hc => by
            obtain ⟨s, h1, h2⟩ := HS0.out.cell p hp
            rw [hc] at h1
            injection h1 with h1
            injection h1 with h1
            exact h2.1 h1.symm, HS0.out.row, HS0.out.apart, BO0.out⟩
          case round =>
            obtain ⟨t, m, f, rfl, ht, hown, hrng, hinj, hold, hall, htak, hrow, hap, hbo⟩ := hrel
            have mj : m ≤ j := inj_le9 hrng hinj
            have HR := Lib.hid hrng
            have HI := Lib.hid hinj
            have HOL := Lib.hid hold
            have HAL := Lib.hid hall
            have HTK := Lib.hid htak
            have ROW := Lib.hid hrow
            have AP := Lib.hid hap
            have BO := Lib.hid hbo
            have HOW := Lib.hid hown
            obtain ⟨Av, cv, ev, -⟩ := hown.form
            subst ev
            clear hown hrng hinj hold hall htak hrow hap hbo
            by_cases hin : t < j ∧ m < k
            · obtain ⟨h1, h2⟩ := hin
              have c1 : (t : Int) < (j : Int) := by omega
              have c2 : (m : Int) < (k : Int) := by omega
              obtain ⟨sb, hsb⟩ := CB.out t h1
              have y1 : wr.cell? ⟨g, t, none⟩ = some (.bool sb) := by rw [cell_of_row wr _ _ _ _ _ ROW.out]; exact hsb
              have HSB := Lib.hid hsb
              clear hsb
              cases sb with
              | true =>
                go_wp2_with fail
                go_roundw
                case rel =>
                  refine ⟨t + 1, m, f, by go_num, by omega, HOW.out, HR.out, HI.out, fun i hi => ?_, fun p hp => ?_, HTK.out, ROW.out, AP.out, BO.out⟩
                  · rcases HOL.out i hi with q0 | q0
                    · exact .inl q0
                    · exact .inr (by omega)
                  · rcases Nat.lt_or_ge p t with q0 | q0
                    · exact HAL.out p q0
                    · obtain rfl : p = t := by omega
                      exact HTK.out p h1 HSB.out
                case measure => simp [intOf]; omega
              | false =>
                have NOT := Lib.hid (show ∀ i, i < m → f i ≠ t from fun i hi e => by
                  rcases HOL.out i hi with q0 | q0
                  · rw [e, HSB.out] at q0; cases q0
                  · omega)
                obtain ⟨g1, o1, eAs, lg1, hc1⟩ := SH7.out.ex (by omega)
                have gne : g1 ≠ g := by have := ALT.out _ eAs (by omega); show g1 ≠ g; have h : g1 < g := this; omega
                have i1 := (BO.out.cell (p := ⟨g1, o1 + t * 2, none⟩) lg1 gne).trans (hc1 t h1).1
                have v1 := (BO.out.cell (p := ⟨g1, o1 + t * 2 + 1, none⟩) lg1 gne).trans (hc1 t h1).2
                subst eAs
                have bx := below_al wr (.cells #[.int .i64 (T t).I, .slice (T t).A (T t).n (T t).c] 42)
                have O9 := Lib.hid (HOW.out.below bx)
                have U1 := Lib.hid (show ∀ (p : Nat) (u : Value), (kSh.v (T t))[p]? = some u → (wr.alloc (.cells #[.int .i64 (T t).I, .slice (T t).A (T t).n (T t).c] 42)).cell? ⟨wr.heap.size, p, none⟩ = some u from fun p u hu => sh_box9 wr _ _ p u hu)
                have U2 := Lib.hid (show kSh.At (wr.alloc (.cells #[.int .i64 (T t).I, .slice (T t).A (T t).n (T t).c] 42)) (T t) from ⟨(SH7.out.at_ t h1).1, (Nm.stay (SH7.out.at_ t h1).2 BO.out.size fun b hb => BO.out.block b (Nm.blt (SH7.out.at_ t h1).2 hb) (by have := BLT.out t h1 b hb; omega)).below bx⟩)
                have U3 := Lib.hid (show ∀ b, kSh.Bl (T t) b → (Value.slice Av m cv).ownBlock ≠ some b from fun b hb => HOW.out.old (by have := BLT.out t h1 b hb; have := S7.out; omega))
                have lgr := (Array.getElem?_eq_some_iff.1 ROW.out).1
                have R9 := Lib.hid ((bx.block g lgr).trans ROW.out)
                have B9 := Lib.hid (BO.out.trans (Bo.of g bx))
                have sz9 := B9.out.size
                have lg9 := Lib.hid (Array.getElem?_eq_some_iff.1 R9.out).1
                clear bx hc1 lgr
                go_wp2_with (at_builtin; refine wpList_owk rfl (.tmp 176) (.tmp 181) 37 rfl w7.heap.size 42 32 (.agg #[.int .i64 0, .slice none 0 0]) Try.underlying37 infoSB rfl (by decide) (.slice Av m cv) m 1 (fun i => T (f i)) (T t) rfl O9.out wr.heap.size rfl U1.out U2.out U3.out (by unfold maxLen; omega) (by omega) sz9 ?_)
                rintro v10 w10 n1 hg
                have N1 := Lib.hid (n1.congr9 (snoc_pick9 T f m t))
                have R10 := Lib.hid ((hg.block g lg9.out (fun e => AP.out e.symm)).trans R9.out)
                have B10 := Lib.hid (show Bo g w7 w10 from ⟨hg.os.trans B9.out.os, hg.tape.trans B9.out.tape, hg.output.trans B9.out.output, Nat.le_trans B9.out.size hg.size, fun b hb hne => (hg.block b (Nat.lt_of_lt_of_le hb B9.out.size) (fun e => by have := (O9.out.lt e.symm).1; omega)).trans (B9.out.block b hb hne)⟩)
                clear n1 hg U1 U2 U3 O9 sz9
                go_wp2_with fail
                go_roundw
                case rel =>
                  refine ⟨t + 1, m + 1, snocG f m t, by go_num, by omega, N1.out, fun i hi => ?_, fun i i' hi hi' e => ?_, fun i hi => ?_, fun p hp => ?_, fun p hp hc => ?_, R10.out, fun e => by have := (N1.out.lt e).1; have := S7.out; omega, B10.out⟩
                  · rcases Nat.lt_or_ge i m with q1 | q1
                    · rw [snocG_lt q1]; exact HR.out i q1
                    · obtain rfl : i = m := by omega
                      rw [snocG_at]; exact h1
                  · rcases Nat.lt_or_ge i m with q1 | q1
                    · rcases Nat.lt_or_ge i' m with q2 | q2
                      · rw [snocG_lt q1, snocG_lt q2] at e; exact HI.out i i' q1 q2 e
                      · obtain rfl : i' = m := by omega
                        rw [snocG_lt q1, snocG_at] at e; exact absurd e (NOT.out i q1)
                    · obtain rfl : i = m := by omega
                      rcases Nat.lt_or_ge i' i with q2 | q2
                      · rw [snocG_at, snocG_lt q2] at e; exact absurd e.symm (NOT.out i' q2)
                      · omega
                  · rcases Nat.lt_or_ge i m with q1 | q1
                    · rw [snocG_lt q1]
                      rcases HOL.out i q1 with q0 | q0
                      · exact .inl q0
                      · exact .inr (by omega)
                    · obtain rfl : i = m := by omega
                      rw [snocG_at]; exact .inr (by omega)
                  · rcases Nat.lt_or_ge p t with q0 | q0
                    · obtain ⟨i, hi, e⟩ := HAL.out p q0
                      exact ⟨i, by omega, by rw [snocG_lt hi]; exact e⟩
                    · obtain rfl : p = t := by omega
                      exact ⟨m, by omega, snocG_at⟩
                  · obtain ⟨i, hi, e⟩ := HTK.out p hp hc
                    exact ⟨i, by omega, by rw [snocG_lt hi]; exact e⟩
                case measure => simp [intOf]; omega
            · have km : k ≤ m := by
                rcases Nat.lt_or_ge t j with q0 | q0
                · omega
                · obtain rfl : t = j := by omega
                  have := surj_le9 m t f HAL.out
                  omega
              rcases Nat.lt_or_ge t j with g3 | g3
              · have d1 : decide ((t : Int) < (j : Int)) = true := by simp; omega
                have d2 : decide ((m : Int) < (k : Int)) = false := by simp; omega
                clear hin
                go_wp2_with fail
                go_meet
                exact ⟨m, f, HOW.out, HR.out, HI.out, km, BO.out⟩
              · have d1 : decide ((t : Int) < (j : Int)) = false := by simp; omega
                clear hin
                go_wp2_with fail
                go_meet
                exact ⟨m, f, HOW.out, HR.out, HI.out, km, BO.out⟩
        case rest =>
        obtain ⟨m, f, hown, hrng, hinj, km, hbo⟩ := hcut
        have mj : m ≤ j := inj_le9 hrng hinj
        obtain ⟨Av, cv, rfl, -, hshs⟩ := hown.shs (by omega)
        have HR := Lib.hid hrng
        have HI := Lib.hid hinj
        have SS := Lib.hid hshs
        have BO := Lib.hid hbo
        have BP := Lib.hid (show Below w5.heap.size w5 wc from hbo.below B57.out G5g.out)
        clear hown hrng hinj hshs hbo HS0 BO0 CB
        have NP9 := Lib.hid (NP5.out.below BP.out)
        have NS9 := Lib.hid (NS.out.ns.below BP.out)
        have G9 := Lib.hid (G5.out.below BP.out)
        have SH9 := Lib.hid (SH.out.sh.below BP.out)
        have B9 := Lib.hid (B5.out.trans (BP.out.mono B5.out.size))
        have O9 := Lib.hid (HO.out.below B9.out)
        have FI := Lib.hid (show ∀ i, i < m → (T (f i)).I = (f i : Int) + 1 from fun i hi => (SF.out (f i) (HR.out i hi)).1)
        have CC := Lib.hid (show cbC d.Q (fun i => T (f i)) m = 0 from cbC_ok ⟨by omega, by omega, Q5.out, fun i hi => by
            have h1 := HR.out i hi
            show PlI (T (f i)).I
            rw [FI.out i hi]; exact ⟨by omega, by omega⟩, fun i i' hi hi' e => by
            have e1 : (T (f i')).I = (T (f i)).I := e
            rw [FI.out i hi, FI.out i' (by omega)] at e1
            have := HI.out i' i (by omega) hi (by omega)
            omega⟩ fun i hi => LT.out (f i) (HR.out i hi))
        have CV := Lib.hid (show cbN d.Q (fun i => (T (f i)).I) (fun i => (T (f i)).N) m m = (scN (Sa 0)).N % d.Q from
          back_first (x := fun i => (T (f i)).I) (v := fun i => (T (f i)).N) (a := fun i => (scN (Sa i)).N) SAFE.out.qr Q5.out (fun i hi => by show 1 ≤ (T (f i)).I ∧ (T (f i)).I ≤ 255; rw [FI.out i hi]; have := HR.out i hi; omega) (fun i i' hi hi' hne e => by
            have e2 : (T (f i)).I = (T (f i')).I := e
            rw [FI.out i hi, FI.out i' hi'] at e2
            exact hne (HI.out i i' hi hi' (by omega))) g0 km (fun i hi => by show (T (f i)).N = pvl (fun i => (scN (Sa i)).N) k (T (f i)).I % d.Q; rw [FI.out i hi]; exact (PUB.out (f i) (HR.out i hi)).1))
        have LTD := Lib.hid (LT.out 0 (by omega))
        have PUB0 := Lib.hid (PUB.out 0 (by omega))
        have DP0 := Lib.hid (DP.out 0 g0)
        have SFI := Lib.hid (SF.out 0 (by omega))
        clear HR HI FI SF LT PUB DP PP SH7
        obtain ⟨bA, oA, rfl, lA, hcA⟩ := NP9.out.ex g0
        have X0 := Lib.hid (hcA 0 g0)
        have N0 := Lib.hid (NP9.out.at_ 0 g0)
        obtain ⟨bT, oT, rfl, lT, hcT⟩ := SH9.out.ex (by omega)
        have T0 := Lib.hid (hcT 0 (by omega))
        have NT0 := Lib.hid (SH9.out.at_ 0 (by omega)).2
        clear hcA hcT
        go_wp2_with fail
        refine (pcomb_any G9.out SS.out (by omega)).mono ?_
        rintro e wA hA
        obtain ⟨A1, m1, c1, rfl, k1, b1, -⟩ := Or.elim hA (fun h => h.2) (fun h => absurd CC.out h.1)
        have KA := Lib.hid (show Cn wA A1 m1 c1 ((scN (Sa 0)).N % d.Q) from by
          have k2 : Cn wA A1 m1 c1 (cbN d.Q (fun i => (T (f i)).I) (fun i => (T (f i)).N) m m) := k1
          rw [CV.out] at k2
          exact k2)
        have BA := Lib.hid b1
        clear hA k1 b1 CC CV SS
        go_wp2_with fail
        refine (gscalars_any (G9.out.below BA.out).toGr0).mono ?_
        rintro e wB ⟨bs, Am, cm, low, Bm, cB, Sm, cS, rfl, md, b2, -⟩
        have q2 := mp_eqB bs
        have BB := Lib.hid (BA.out.trans (b2.mono BA.out.size))
        have MD := Lib.hid md
        have KB := Lib.hid (KA.out.below b2)
        clear md b2 KA
        have x1 := (BB.out.cell (p := ⟨bA, oA + 0, none⟩) lA).trans X0.out
        have x2 := (BB.out.cell (p := ⟨bA, oA, none⟩) lA).trans X0.out
        clear X0
        go_wp2_with fail
        refine (reduce_any MD.out (N0.out.below BB.out) DP0.out).mono ?_
        rintro e wC ⟨A2, m2, c2, rfl, k2, b3, -⟩
        have BC := Lib.hid (BB.out.trans (b3.mono BB.out.size))
        have KC := Lib.hid (KB.out.below b3)
        have MC := Lib.hid (MD.out.below b3)
        have K2 := Lib.hid k2
        clear k2 b3 MD KB x1 x2 BB BA
        go_wp2_with fail
        refine (same9 KC.out K2.out rfl).mono ?_
        rintro e wS ⟨rfl, qq, rfl⟩
        clear KC K2
        obtain ⟨wD, hwD⟩ : ∃ wD, wD = wC.drewN qq := ⟨_, rfl⟩
        have b4 := Lib.hid (show Below wC.heap.size wC wD from by rw [hwD]; exact below_drewN (Below.refl _ _) _)
        rw [← hwD]
        clear hwD
        have BD := Lib.hid (BC.out.trans (b4.out.mono BC.out.size))
        have ME := Lib.hid (MC.out.below b4.out)
        clear b4 MC BC
        have O10 := Lib.hid (O9.out.below BD.out)
        have nO := O9.out.nc
        go_wp2_with fail
        refine (scalar_any ⟨Ao, no, co, O⟩ wD nO).mono ?_
        rintro e wX ⟨rfl, rfl⟩
        obtain ⟨O', hO'⟩ : ∃ O', O' = (scN ⟨Ao, no, co, O⟩).N := ⟨_, rfl⟩
        have OO := Lib.hid (Nm.scN (s := ⟨Ao, no, co, O⟩) O10.out)
        have OL := Lib.hid (Nm.dlsc (s := ⟨Ao, no, co, O⟩) O10.out)
        clear nO
        go_wp2_with fail
        refine (reduce_any ME.out OO.out OL.out).mono ?_
        rintro e wE ⟨A3, m3, c3, rfl, k3, b5, -⟩
        have BE := Lib.hid (BD.out.trans (b5.mono BD.out.size))
        have MF := Lib.hid (ME.out.below b5)
        have K3 := Lib.hid k3
        have L3 := k3.len_
        have QQ := ME.out.m3
        have x0 := Int.emod_nonneg (scN ⟨Ao, no, co, O⟩).N (show d.Q ≠ 0 by omega)
        have x1 := Int.emod_lt_of_pos (scN ⟨Ao, no, co, O⟩).N (show 0 < d.Q by omega)
        clear k3 b5 OO ME BD hO' QQ
        by_cases hby : (scN ⟨Ao, no, co, O⟩).N % d.Q = 0
        · have m0' : m3 = 0 := by rw [L3, hby]; exact (dl_zero (Int.le_refl 0)).2 rfl
          have d3 : ((m3 : Int) == 0) = true := by rw [m0']; rfl
          clear L3 m0' hby x0 x1
          go_wp2_with fail
          go_ret
          exact ⟨rfl, B9.out.trans (BE.out.mono B9.out.size)⟩
        · have m0' : m3 ≠ 0 := by
            intro e
            rw [L3] at e
            exact hby ((dl_zero x0).1 e)
          have d3 : ((m3 : Int) == 0) = false := by simp; omega
          have i1 := (BE.out.cell (p := ⟨bT, oT + 0 * 2, none⟩) lT).trans T0.out.1
          have v1 := (BE.out.cell (p := ⟨bT, oT + 0 * 2 + 1, none⟩) lT).trans T0.out.2
          have I0 : (T 0).I = 1 := by have := SFI.out.1; omega
          rw [I0, Nat.zero_mul, Nat.add_zero] at i1
          rw [Nat.zero_mul, Nat.add_zero] at v1
          have j0 : (0 : Int) < (j : Int) := by omega
          clear L3 m0' T0
          go_wp2_with fail
          have bx := below_al wE (.cells #[.int .i64 1, .slice (T 0).A (T 0).n (T 0).c] 42)
          have BF := Lib.hid (BE.out.trans (bx.mono BE.out.size))
          have K4 := Lib.hid (K3.out.below bx)
          have MG := Lib.hid (MF.out.below bx)
          have DO : dl ((scN ⟨Ao, no, co, O⟩).N % d.Q) ≤ 64 := by have := dl_mono x0 (Int.le_of_lt x1); have := LQ.out; omega
          have hb0 := sh_box9 wE (.int .i64 1) (.slice (T 0).A (T 0).n (T 0).c) 0 _ rfl
          have hb1 := sh_box9 wE (.int .i64 1) (.slice (T 0).A (T 0).n (T 0).c) 1 _ rfl
          have szE : wE.heap.size < (wE.alloc (.cells #[.int .i64 1, .slice (T 0).A (T 0).n (T 0).c] 42)).heap.size := by simp
          clear MF K3 bx i1 v1
          refine (madd_any MG.out (NT0.out.below BF.out) K4.out.nm LTD.out DO).mono ?_
          rintro e wG ⟨A4, m4, c4, rfl, k4, b6, hA4⟩
          have BG := Lib.hid (BF.out.trans (b6.mono BF.out.size))
          have y0 := (b6.cell (p := ⟨wE.heap.size, 0, none⟩) szE).trans hb0
          have y1 := (b6.cell (p := ⟨wE.heap.size, 1, none⟩) szE).trans hb1
          have y2 : wG.heap[wE.heap.size]? = some (.cells #[.int .i64 1, .slice (T 0).A (T 0).n (T 0).c] 42 (0, 0)) := (b6.block _ szE).trans (box_heap9 _ _)
          have y3 : wG.frozen? ⟨wE.heap.size, 1, none⟩ = false := frozen_of_row wG _ 1 _ _ y2
          have ne4 : ∀ a, A4 = some a → a.block ≠ wE.heap.size := fun a ha e => by have := hA4 a ha; omega
          have z0 : (wG.setCell ⟨wE.heap.size, 1, none⟩ (.slice A4 m4 c4)).cell? ⟨wE.heap.size, 0, none⟩ = some (.int .i64 1) := (World.cell?_setCell_other wG _ _ _ (show (⟨wE.heap.size, 1, none⟩ : Addr) ≠ ⟨wE.heap.size, 0, none⟩ from by simp)).trans y0
          have z1 : (wG.setCell ⟨wE.heap.size, 1, none⟩ (.slice A4 m4 c4)).cell? ⟨wE.heap.size, 1, none⟩ = some (.slice A4 m4 c4) := World.cell?_setCell_same wG _ _ y1
          have K5 := Lib.hid (k4.nm.set (g := wE.heap.size) ne4 1 (.slice A4 m4 c4))
          have BH := Lib.hid ((Bo.set wE.heap.size 1 wG (.slice A4 m4 c4)).below BG.out BE.out.size)
          have V0 := Int.emod_nonneg ((T 0).N + (scN ⟨Ao, no, co, O⟩).N % d.Q) (show d.Q ≠ 0 by omega)
          have V1 := Int.emod_lt_of_pos ((T 0).N + (scN ⟨Ao, no, co, O⟩).N % d.Q) (show 0 < d.Q by omega)
          have DV : dl (((T 0).N + (scN ⟨Ao, no, co, O⟩).N % d.Q) % d.Q) ≤ dl d.Q := dl_mono V0 (Int.le_of_lt V1)
          have CH := chC_no (P := d.P) (Q := d.Q) (G := d.G) (I := 1) (V := ((T 0).N + (scN ⟨Ao, no, co, O⟩).N % d.Q) % d.Q) (N := fun i => (U i).N) (n := k) ⟨by omega, by omega, by omega, by omega⟩ (by have := LQ.out; omega) ELU.out (fun e => by
            have p1 : gx d.P d.Q d.G (T 0).N = pubI d.P d.Q (fun i => (U i).N) 1 k := PUB0.out.2
            have e1 := gx_inj SAFE.out EG.out G1.out (e.trans p1.symm)
            rw [Int.emod_emod] at e1
            have e2 := Int.emod_eq_emod_iff_emod_sub_eq_zero.1 e1
            rw [show (T 0).N + (scN ⟨Ao, no, co, O⟩).N % d.Q - (T 0).N = (scN ⟨Ao, no, co, O⟩).N % d.Q by omega, Int.emod_emod] at e2
            exact hby e2)
          have q7 : ∀ w : World, (binOp .eql 29 (.iface 51 (.int .i64 7)) (.iface 51 (.int .i64 7))).run Try.prog w = .ok (.bool true) w := eq_err9 7
          clear hb0 hb1 szE BF K4 MG DO k4 b6 hA4 ne4 V0 V1 DV x0 x1 hby
          go_wp2_with fail
          refine (pcheck_any (G9.out.below BH.out) (NS9.out.below BH.out) (s := ⟨1, A4, m4, c4, _⟩) ⟨⟨by show -9223372036854775808 ≤ (1 : Int); omega, by show (1 : Int) ≤ 9223372036854775807; omega⟩, K5.out⟩).mono ?_
          rintro e wZ ⟨he, b8⟩
          rw [show erv9 _ = _ from congrArg erv9 CH] at he
          rw [show erv9 7 = .iface 51 (.int .i64 7) from rfl] at he
          subst he
          go_wp2_with fail
          go_ret
          exact ⟨rfl, B9.out.trans ((BH.out.trans (b8.mono BH.out.size)).mono B9.out.size)⟩
end Go.Proofs.Ytkecfdeepmhggaa
