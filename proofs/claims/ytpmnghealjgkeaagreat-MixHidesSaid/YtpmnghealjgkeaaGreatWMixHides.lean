/-
  MixHides answers true: where two letters of a batch have swapped what they say, the mixer's permutation, with these two exchanged, and its scalars, with theirs made up for, answer the very same batch.
-/
import Derived.Test.YtpmnghealjgkeaaGreatTw7
import Derived.Test.YtpmnghealjgkeaaGreatBv7
import Derived.Test.YtpmnghealjgkeaaGreatWMixTwice
namespace Go.Proofs.YtpmnghealjgkeaaGreat
open Go.RowKit
set_option linter.unusedVariables false
/-- Two places exchanged. -/
def tauN (u v p : Nat) : Nat := if p = u then v else if p = v then u else p
def tauI (u v : Nat) (x : Int) : Int := if x = u then v else if x = v then u else x
theorem tauI_nat {u v p : Nat} : tauI u v (p : Int) = (tauN u v p : Nat) := by
  unfold tauI tauN
  by_cases h1 : p = u
  · subst h1; simp
  · rw [if_neg (by omega), if_neg h1]
    by_cases h2 : p = v
    · subst h2; simp
    · rw [if_neg (by omega), if_neg h2]
theorem tauN_lt {u v p n : Nat} (hu : u < n) (hv : v < n) (hp : p < n) : tauN u v p < n := by unfold tauN; split <;> (try split) <;> omega
theorem tauN_tau {u v p : Nat} : tauN u v (tauN u v p) = p := by
  unfold tauN
  by_cases h1 : p = u
  · subst h1
    rw [if_pos rfl]
    by_cases h2 : v = p
    · rw [if_pos h2, h2]
    · rw [if_neg h2, if_pos rfl]
  · rw [if_neg h1]
    by_cases h2 : p = v
    · subst h2
      rw [if_pos rfl, if_pos rfl]
    · rw [if_neg h2, if_neg h1, if_neg h2]
theorem tauI_tau {u v : Nat} {x : Int} : tauI u v (tauI u v x) = x := by
  unfold tauI
  by_cases h1 : x = u
  · subst h1
    rw [if_pos rfl]
    by_cases h2 : (v : Int) = u
    · rw [if_pos h2, h2]
    · rw [if_neg h2, if_pos rfl]
  · rw [if_neg h1]
    by_cases h2 : x = v
    · subst h2
      rw [if_pos rfl, if_pos rfl]
    · rw [if_neg h2, if_neg h1, if_neg h2]
theorem tauI_in {u v n : Nat} (hu : u < n) (hv : v < n) {x : Int} : (0 ≤ tauI u v x ∧ tauI u v x < n) ↔ (0 ≤ x ∧ x < n) := by
  unfold tauI
  by_cases h1 : x = u
  · rw [if_pos h1]; omega
  · rw [if_neg h1]
    by_cases h2 : x = v
    · rw [if_pos h2]; omega
    · rw [if_neg h2]
theorem permF_tau {u v n : Nat} (hu : u < n) (hv : v < n) {f : Nat → Int} : PermF n (fun p => tauI u v (f p)) ↔ PermF n f := by
  constructor
  · intro k
    exact ⟨fun i hi => (tauI_in hu hv).1 (k.1 i hi), fun i j hj hi e => k.2 i j hj hi (by show tauI u v (f j) = tauI u v (f i); rw [e])⟩
  · intro k
    refine ⟨fun i hi => (tauI_in hu hv).2 (k.1 i hi), fun i j hj hi e => k.2 i j hj hi ?_⟩
    have e2 : tauI u v (tauI u v (f j)) = tauI u v (tauI u v (f i)) := congrArg (tauI u v) e
    rwa [tauI_tau, tauI_tau] at e2
theorem back_mod {Q a b t : Int} : (t + ((a + b) % Q - t) % Q) % Q = (b + a) % Q := by
  have h1 : ((a + b) % Q - t) % Q = (a + b - t) % Q := by rw [Int.sub_emod, Int.emod_emod_of_dvd _ (Int.dvd_refl Q), ← Int.sub_emod]
  rw [h1, Int.add_emod, Int.emod_emod_of_dvd _ (Int.dvd_refl Q), ← Int.add_emod]
  congr 1
  omega
/-- Some permutation's place, of the right length. -/
def PmL (q : Nat) (wb : World) (v i : Value) (wr : World) : Prop :=
  ∃ (j : Nat) (L : Nat → Int), j ≤ q ∧ i = .int .i64 j ∧ Owg kInt 3 wr wb.heap.size v j L ∧ B7 wb wr
def PmC (q : Nat) (wb : World) (v : Value) (wx : World) : Prop :=
  ∃ A c ps, v = .slice A q c ∧ Rd .i64 wx A q ps ∧ B7 wb wx
/-- The two batches, the lists of scalars and the other permutation, as they grow. -/
def HdR (T1 T2 : Nat → Trp) (F3 F4 H5 : Nat → Int) (q : Nat) (wb : World) (v1 v2 v3 v4 v5 i : Value) (wr : World) : Prop :=
  ∃ (j : Nat) (c : Nat → Nat) (B1 B2 : Nat → Lsl) (R S : Nat → Rsl) (L : Nat → Int), j ≤ q ∧ i = .int .i64 j ∧ Col wr c ∧ Old wb c ∧
    Lst kCh 25 1 c wr wb.heap.size v1 j B1 ∧ Lst kCh 25 2 c wr wb.heap.size v2 j B2 ∧ Lst kNs 24 3 c wr wb.heap.size v3 j R ∧ Lst kNs 24 4 c wr wb.heap.size v4 j S ∧ Lst kInt 3 5 c wr wb.heap.size v5 j L ∧
    (∀ p, p < j → ((B1 p).n = 1 ∧ Trp.of ((B1 p).S 0) = T1 p) ∧ ((B2 p).n = 1 ∧ Trp.of ((B2 p).S 0) = T2 p) ∧ ((R p).n = 1 ∧ ((R p).S 0).N = F3 p) ∧ ((S p).n = 1 ∧ ((S p).S 0).N = F4 p) ∧ L p = H5 p) ∧ B7 wb wr
/-- The scalar that makes up for the swap. -/
def backN (Q : Int) (u v q : Nat) (DD : Nat → Int) (f : Nat → Int) (p : Nat) : Int :=
  if 0 ≤ f p ∧ f p < q then ((DD (q + p) + DD (f p).toNat) % Q - DD (tauI u v (f p)).toNat) % Q else DD (q + p)
/-- A letter of one pair that was answered. -/
def LetC (T : Trp) (wb : World) (a e : Value) (wx : World) : Prop := ∃ A c S, a = .slice A 1 c ∧ e = .nilIface ∧ Lo wx wb.heap.size A 1 c S ∧ Trp.of (S 0) = T ∧ B7 wb wx
/-- The scalar that is handed on. -/
def MineC (c : Nat → Nat) (N : Int) (wb : World) (v : Value) (wx : World) : Prop := ∃ A n cp, v = .slice A n cp ∧ Nm wx A n cp N ∧ (∀ b, BlN A n b → c b = 0) ∧ B7 wb wx
theorem Kd.other {κ : Type} {K : Kd κ} {w w' : World} {s : κ} {c : Nat → Nat} {v2 : Value} {k2 : Nat} (hU : K.At w s) (hf : ∀ b, K.Bl s b → c b = 0) (hg : w.grownBy w' v2.ownBlock) (h2 : ∀ g, v2.ownBlock = some g → c g = k2) (h0 : k2 ≠ 0) : K.At w' s :=
  K.stay hU hg.size fun b hb => hg.block b (K.lt hU hb) (fun e => by have h1 := hf b hb; have h3 := h2 b e.symm; omega)
theorem Nm.other {w w' : World} {A : Option Addr} {n cp : Nat} {N : Int} {c : Nat → Nat} {v2 : Value} {k2 : Nat} (hU : Nm w A n cp N) (hf : ∀ b, BlN A n b → c b = 0) (hg : w.grownBy w' v2.ownBlock) (h2 : ∀ g, v2.ownBlock = some g → c g = k2) (h0 : k2 ≠ 0) : Nm w' A n cp N :=
  hU.stay hg.size fun b hb => hg.block b (hU.blt hb) (fun e => by have h1 := hf b hb; have h3 := h2 b e.symm; omega)
set_option maxHeartbeats 32000000 in
set_option maxRecDepth 100000 in
theorem mixHides_walk {w : World} (x : Int) (hx : -9223372036854775808 ≤ x ∧ x ≤ 9223372036854775807) {Am Ad Ak Ap : Option Addr} {nm cm nd cd nk ck np cp : Nat} {M D : Nat → Nsl} {K : Int} {ps : List Int}
    (hm : Ns w Am nm cm M) (hd : Ns w Ad nd cd D) (hk : Nm w Ak nk ck K) (hp : Rd .i64 w Ap np ps) (yu : Int) (hyu : -9223372036854775808 ≤ yu ∧ yu ≤ 9223372036854775807) (yv : Int) (hyv : -9223372036854775808 ≤ yv ∧ yv ≤ 9223372036854775807) :
    Calls Tryz.prog 7 #[.int .i64 x, .slice Am nm cm, .slice Ad nd cd, .slice Ak nk ck, .slice Ap np cp, .int .i64 yu, .int .i64 yv] w (AnsV (.bool true) w) := by
  have HM := Lib.hid hm
  have HD := Lib.hid hd
  have HK := Lib.hid hk
  have HP := Lib.hid hp
  have HX := Lib.hid hx
  have HYU := Lib.hid hyu
  have HYV := Lib.hid hyv
  have he := ne_err0
  have he1 := pm_ne 1
  have he2 := eql_code 1 1
  have he3 := eq_err0
  clear hm hd hk hp hx hyu hyv
  go_enter Tryz.func7, Tryz.ntmps7
  go_wp2_with fail
  refine (up7_any w).mono ?_
  rintro e w0 ⟨rfl, b0⟩
  have B0 := Lib.hid (show B7 w w0 from b0)
  clear b0
  go_wp2_with fail
  refine (known_any x HX.out w0).mono ?_
  rintro e w1 ⟨A, n, c, A', n', c', rfl, kg, b1⟩
  have B1 := Lib.hid (B0.out.trans b1)
  have KGG := Lib.hid kg
  clear b1 kg B0
  go_wp2_with fail
  refine (kg_new (kix_lt x) KGG.out).mono ?_
  rintro e w2 ⟨b, d, rfl, gr, -, -, -, b2, -, -⟩
  have B2 := Lib.hid (B1.out.trans b2)
  have GR := Lib.hid gr
  have SF := Lib.hid gr.safe
  have EG := Lib.hid gr.el
  clear b2 gr KGG B1
  rcases Nat.lt_or_ge 60 nk with g1 | g1
  · have e1 : decide ((60 : Int) < (nk : Int)) = true := by simp; omega
    go_wp2_with fail
    go_ret
    exact ⟨rfl, B2.out⟩
  have e1 : decide ((60 : Int) < (nk : Int)) = false := by simp; omega
  go_wp2_with fail
  obtain ⟨q, hq⟩ : ∃ q, min nm 6 = q := ⟨_, rfl⟩
  have q5 : q ≤ 6 := by omega
  refine (elements_any GR.out (B2.out.ns HM.out) 6 (by omega)).mono ?_
  rw [hq]
  rintro e w4 ⟨Al, cl, SL, rfl, hns, -, hel, -, b4⟩
  have b4 : B7 w2 w4 := b4
  have B4 := Lib.hid (B2.out.trans b4)
  have GR4 := Lib.hid (b4.gr GR.out)
  have SA := Lib.hid hns
  have SE := Lib.hid (show ElS d.P d.Q SL q from fun i hi => by rw [(hel i hi).1]; exact elN_el SF.out.p2 SF.out.q1 EG.out M i)
  clear hns hel b4 hq B2 GR
  have lK : dl K ≤ 64 := by have := HK.out.dl_le; omega
  go_wp2_with fail
  refine (gscalars_any GR4.out.toGr0).mono ?_
  rintro e w5 ⟨bs, As', cs', lows, Bs, cBs, Ss, cSs, rfl, md, b5, -⟩
  have b5 : B7 w4 w5 := b5
  have B5 := Lib.hid (B4.out.trans b5)
  have GR5 := Lib.hid (b5.gr GR4.out)
  have SA5 := Lib.hid (b5.ns SA.out)
  have MD5 := Lib.hid md
  clear md b5 B4 GR4 SA
  go_wp2_with fail
  refine (base_gx GR5.out (B5.out.nm HK.out) lK).mono ?_
  rintro e w6 ⟨Bk, mk, ck', rfl, hkey, b6, -⟩
  have b6 : B7 w5 w6 := b6
  have B6 := Lib.hid (B5.out.trans b6)
  have GR6 := Lib.hid (b6.gr GR5.out)
  have SA6 := Lib.hid (b6.ns SA5.out)
  have MD6 := Lib.hid (MD5.out.below b6)
  have KY := Lib.hid hkey.nm
  obtain ⟨kk, hkk⟩ : ∃ kk, gx d.P d.Q d.G K = kk := ⟨_, rfl⟩
  have EK := Lib.hid (show El d.P d.Q kk by rw [← hkk]; exact gx_el SF.out.p2 SF.out.q1 EG.out K)
  rw [hkk] at KY
  clear hkey b6 hkk B5 GR5 SA5 MD5 lK
  rcases Nat.eq_zero_or_pos q with g2 | g2
  · have e2 : ((q : Int) == 0) = true := by simp; omega
    go_wp2_with fail
    go_ret
    exact ⟨rfl, B6.out⟩
  have e2 : ((q : Int) == 0) = false := by simp; omega
  obtain ⟨zu, hzu⟩ : ∃ z : Int, (if yu < 0 then -(yu + 1) else yu) = z := ⟨_, rfl⟩
  have zu0 : 0 ≤ zu ∧ zu ≤ 9223372036854775807 := by have := HYU.out; rw [← hzu]; split <;> omega
  obtain ⟨zv, hzv⟩ : ∃ z : Int, (if yv < 0 then -(yv + 1) else yv) = z := ⟨_, rfl⟩
  have zv0 : 0 ≤ zv ∧ zv ≤ 9223372036854775807 := by have := HYV.out; rw [← hzv]; split <;> omega
  have HZU := Lib.hid hzu
  have HZV := Lib.hid hzv
  have ZU := Lib.hid zu0
  have ZV := Lib.hid zv0
  clear hzu hzv zu0 zv0 e1
  go_upto_if 116 with fail
  go_cut [5] from 117 to 119 (fun v wx => v = .int .i64 zu ∧ w6 = wx)
  case first =>
    rcases Int.lt_or_le yu 0 with g3 | g3
    · have e3 : decide (yu < 0) = true := by simp; omega
      have e4 : IntKind.i64.wrap (yu + 1) = yu + 1 := IntWalk.i64_in _ (by have := HYU.out; omega)
      have e5 : IntKind.i64.wrap (-(yu + 1)) = -(yu + 1) := IntWalk.i64_in _ (by have := HYU.out; omega)
      have E6 := Lib.hid (show -(yu + 1) = zu by rw [← HZU.out, if_pos g3])
      go_wp2_with fail
      go_meet
      exact ⟨by rw [E6.out], rfl⟩
    · have e3 : decide (yu < 0) = false := by simp; omega
      have E6 := Lib.hid (show yu = zu by rw [← HZU.out, if_neg (by omega)])
      go_wp2_with fail
      go_meet
      exact ⟨by rw [E6.out], rfl⟩
  case rest =>
  obtain ⟨rfl, rfl⟩ := hcut
  go_upto_if 121 with fail
  go_cut [6] from 122 to 124 (fun v wx => v = .int .i64 zv ∧ w6 = wx)
  case first =>
    rcases Int.lt_or_le yv 0 with g3 | g3
    · have e3 : decide (yv < 0) = true := by simp; omega
      have e4 : IntKind.i64.wrap (yv + 1) = yv + 1 := IntWalk.i64_in _ (by have := HYV.out; omega)
      have e5 : IntKind.i64.wrap (-(yv + 1)) = -(yv + 1) := IntWalk.i64_in _ (by have := HYV.out; omega)
      have E6 := Lib.hid (show -(yv + 1) = zv by rw [← HZV.out, if_pos g3])
      go_wp2_with fail
      go_meet
      exact ⟨by rw [E6.out], rfl⟩
    · have e3 : decide (yv < 0) = false := by simp; omega
      have E6 := Lib.hid (show yv = zv by rw [← HZV.out, if_neg (by omega)])
      go_wp2_with fail
      go_meet
      exact ⟨by rw [E6.out], rfl⟩
  case rest =>
  obtain ⟨rfl, rfl⟩ := hcut
  obtain ⟨u, hu⟩ : ∃ u : Nat, zu % (q : Int) = u := ⟨(zu % q).toNat, by have := Int.emod_nonneg zu (show (q : Int) ≠ 0 by omega); omega⟩
  obtain ⟨v, hv⟩ : ∃ v : Nat, zv % (q : Int) = v := ⟨(zv % q).toNat, by have := Int.emod_nonneg zv (show (q : Int) ≠ 0 by omega); omega⟩
  have uq : u < q := by have := Int.emod_lt_of_pos zu (show (0 : Int) < q by omega); omega
  have vq : v < q := by have := Int.emod_lt_of_pos zv (show (0 : Int) < q by omega); omega
  have n0 : ((q : Int) == 0) = false := e2
  have n1 : ¬ (q : Int) = 0 := by omega
  have n2 : zu.tmod (q : Int) = (u : Int) := by rw [Int.tmod_eq_emod_of_nonneg ZU.out.1]; exact hu
  have n3 : zv.tmod (q : Int) = (v : Int) := by rw [Int.tmod_eq_emod_of_nonneg ZV.out.1]; exact hv
  have n4 : IntKind.i64.wrap (u : Int) = (u : Int) := IntWalk.i64_in _ (by omega)
  have n5 : IntKind.i64.wrap (v : Int) = (v : Int) := IntWalk.i64_in _ (by omega)
  clear hu hv HZU HZV ZU ZV HYU HYV
  go_upto_if 134 with fail
  clear n0 n1 n2 n3 n4 n5 e2
  obtain ⟨bq, hbq⟩ : ∃ bq : Bool, ((np : Int) != (q : Int)) = bq := ⟨_, rfl⟩
  rw [hbq]
  have HBQ := Lib.hid hbq
  clear hbq
  go_cut [4, 24] from 135 to 146 (fun v i wx => PmC q w6 v wx)
  case first =>
    cases bq with
    | false =>
      obtain rfl : np = q := by have h := HBQ.out; simp at h; omega
      go_wp2_with fail
      go_meet
      exact ⟨_, _, _, rfl, HP.out.below B6.out, B7.refl _⟩
    | true =>
      go_wp2_with fail
      go_loopw [4, 24] (fun v i wr => PmL q w6 v i wr) (fun _ i _ => q - (intOf i).toNat)
      case atStart => exact ⟨0, fun _ => 0, Nat.zero_le _, rfl, Owg.nil _ _ _ _ _, B7.refl _⟩
      case round =>
        obtain ⟨j, L, hj, rfl, hown, hbl⟩ := hrel
        have HO := Lib.hid hown
        have BL := Lib.hid hbl
        clear hown hbl
        rcases Nat.lt_or_ge j q with hlt | hge
        · have hjq : (j : Int) < (q : Int) := by omega
          have e3 : IntKind.i64.wrap ((q : Int) - 1) = (q : Int) - 1 := IntWalk.i64_in _ (by omega)
          have e4 : IntKind.i64.wrap ((q : Int) - 1 - (j : Int)) = (q : Int) - 1 - (j : Int) := IntWalk.i64_in _ (by omega)
          have bx := B7.alloc wr (.cells #[.int .i64 ((q : Int) - 1 - (j : Int))] 3)
          have O1 := Lib.hid (HO.out.below bx)
          have BX := Lib.hid (BL.out.trans bx)
          have szb := BX.out.sz
          have U1 := Lib.hid (show (wr.alloc (.cells #[.int .i64 ((q : Int) - 1 - (j : Int))] 3)).cell? ⟨wr.heap.size, 0, none⟩ = some (kInt.v ((q : Int) - 1 - (j : Int))) from one_at wr _ _)
          clear bx
          go_wp2_with (at_builtin; refine wpList_owg rfl (.tmp 140) (.tmp 145) 46 rfl w6.heap.size 3 8 (.int .i64 0) Tryz.underlying46 infoI7 rfl u4 j 1 L ((q : Int) - 1 - (j : Int)) rfl O1.out wr.heap.size rfl U1.out trivial (fun b hb => hb.elim) (by unfold maxLen; omega) (by omega) szb ?_)
          rintro v' w5' hown5 hg5
          have HO5 := Lib.hid hown5
          have HB5 := Lib.hid (BX.out.grown hg5 (fun g e => (HO.out.lt e).1))
          clear hown5 hg5 e3 e4
          go_wp2_with fail
          go_roundw
          case rel => exact ⟨j + 1, _, by omega, by go_num, HO5.out, HB5.out⟩
          case measure => simp [intOf]; omega
        · obtain rfl : j = q := by omega
          have hjq : decide ((j : Int) < (j : Int)) = false := by simp
          obtain ⟨Aa, ca, rfl, -, -, hints⟩ := HO.out.ints
          have INT := Lib.hid hints
          clear hints
          go_wp2_with fail
          go_meet
          exact ⟨Aa, ca, _, rfl, INT.out, BL.out⟩
  case rest =>
  obtain ⟨Aq, cq, qs, rfl, hqs, hbq⟩ := hcut
  obtain ⟨f, hf⟩ : ∃ f, dig qs = f := ⟨_, rfl⟩
  have HFF := Lib.hid hf
  have PR := Lib.hid hqs
  have BQ := Lib.hid (B6.out.trans hbq)
  have GRQ := Lib.hid (hbq.gr GR6.out)
  have SAQ := Lib.hid (hbq.ns SA6.out)
  have MDQ := Lib.hid (MD6.out.below hbq)
  have KYQ := Lib.hid (hbq.nm KY.out)
  obtain ⟨DD, hDD⟩ : ∃ DD, atN D nd = DD := ⟨_, rfl⟩
  have HDD := Lib.hid hDD
  have D0 := Lib.hid (show ∀ i, 0 ≤ DD i from fun i => by rw [← hDD]; exact atN_pos HD.out i)
  have DL := Lib.hid (show ∀ i, dl (DD i) ≤ 64 from fun i => by rw [← hDD]; exact atN_dl HD.out i)
  clear hf hqs hbq hDD GR6 SA6 MD6 KY B6 HBQ HP
  go_wp2_with fail
  obtain ⟨wb, rfl⟩ : ∃ wb, wb = wc := ⟨_, rfl⟩
  go_loopw [25, 26, 27, 28, 29, 30] (fun v1 v2 v3 v4 v5 i wr => HdR (fun p => sealN d.P d.Q d.G kk (SL p).N (DD p)) (fun p => sealN d.P d.Q d.G kk (SL (tauN u v p)).N (DD p)) (fun p => DD (q + p)) (backN d.Q u v q DD f) (fun p => tauI u v (f p)) q wb v1 v2 v3 v4 v5 i wr) (fun _ _ _ _ _ i _ => q - (intOf i).toNat)
  case atStart => exact ⟨0, fun _ => 0, fun _ => lsl0, fun _ => lsl0, fun _ => rsl0, fun _ => rsl0, fun _ => 0, Nat.zero_le _, rfl, Col.none _, fun _ _ => rfl, Lst.nil _ _ _ _ _ _ _, Lst.nil _ _ _ _ _ _ _, Lst.nil _ _ _ _ _ _ _, Lst.nil _ _ _ _ _ _ _, Lst.nil _ _ _ _ _ _ _, fun p hp => absurd hp (Nat.not_lt_zero p), B7.refl _⟩
  case round =>
    obtain ⟨j, c, B1, B2, R, S, L, hj, rfl, hcol, hold, hl1, hl2, hl3, hl4, hl5, hfa, hbl⟩ := hrel
    have COL := Lib.hid hcol
    have OLD := Lib.hid hold
    have L1 := Lib.hid hl1
    have L2 := Lib.hid hl2
    have L3 := Lib.hid hl3
    have L4 := Lib.hid hl4
    have L5 := Lib.hid hl5
    have FA := Lib.hid hfa
    have BL := Lib.hid hbl
    have BX := Lib.hid (BQ.out.trans hbl)
    clear hcol hold hl1 hl2 hl3 hl4 hl5 hfa hbl
    rcases Nat.lt_or_ge j q with hlt | hge
    · --<L1
      have hjq : (j : Int) < (q : Int) := by omega
      have gns := BL.out.ns SAQ.out
      obtain ⟨bo, off, rfl, lo, yo⟩ := gns.ex (by omega)
      have YO := Lib.hid yo
      have kA := yo j hlt
      have nj := gns.at_ j hlt
      have ee := SE.out j hlt
      obtain ⟨s, hs⟩ : ∃ s, SL j = s := ⟨_, rfl⟩
      have HSJ := Lib.hid hs
      rw [hs] at kA nj ee
      obtain ⟨Aj, n_j, cj, Nj⟩ := s
      simp only at kA nj ee
      have EE := Lib.hid ee
      have HDA := Lib.hid (show B7 wr (wr.alloc (.cells #[.slice Aj n_j cj] 23)).drew from (B7.alloc wr _).trans (B7.drewN _ 1))
      have HD1 := Lib.hid (show B7 wr wr.drew from B7.drewN _ 1)
      have NJ := Lib.hid nj
      have NSA := Lib.hid (show Ns (wr.alloc (.cells #[.slice Aj n_j cj] 23)).drew (some ⟨wr.heap.size, 0, none⟩) 1 1 (fun _ => ⟨Aj, n_j, cj, Nj⟩) from (B7.drewN _ 1).ns (ns_one nj))
      have SC := Lib.hid (show ∀ W, B7 wr W → Calls Tryz.prog 37 #[.slice Ad nd cd, .int .i64 (j : Int), .int .i64 1] W (ScP (fun t => DD (j + t)) 1 w.heap.size W) from fun W hW => by
        have h := scalars_any ((BX.out.trans hW).ns HD.out) HD.out.base (BX.out.trans hW).sz j 1 (by omega) (by omega)
        rw [HDD.out] at h
        exact h)
      clear yo nj ee hs gns
      go_upto_region 31 with fail
      go_cut [31, 32] from 152 to 165 (fun a e wx => LetC (sealN d.P d.Q d.G kk Nj (DD j)) wr a e wx)
      case first =>
       go_region_held3 (fun w' => w'.cell? ⟨bo, off + j, none⟩ = some (.slice Aj n_j cj)) (first | exact kA | exact kB | go_keep | assumption)
        (first
        | (go_at_call 37; (with_reducible refine (SC.out _ HDA.out).mono ?_); rintro e w6' ⟨AS, cS, SS, rfl, hS, hSF, -, b6⟩; have b6 : B7 (wr.alloc (.cells #[.slice Aj n_j cj] 23)).drew w6' := b6; have B6 := Lib.hid (HDA.out.trans b6); have NS := Lib.hid (b6.ns NSA.out); have RL := Lib.hid hS; have RF := Lib.hid (show (SS 0).N = DD j from (hSF 0 (by decide)).1); have kB := (Below.cell B6.out (p := ⟨bo, off + j, none⟩) lo).trans kA; clear hS hSF b6)
        | (go_at_call 37; (with_reducible refine (SC.out _ HD1.out).mono ?_); rintro e w6' ⟨AS, cS, SS, rfl, hS, hSF, -, b6⟩; have b6 : B7 wr.drew w6' := b6; have B6 := Lib.hid (HD1.out.trans b6); have NN := Lib.hid (B6.out.nm NJ.out); have RL := Lib.hid hS; have RF := Lib.hid (show (SS 0).N = DD j from (hSF 0 (by decide)).1); have kB := (Below.cell B6.out (p := ⟨bo, off + j, none⟩) lo).trans kA; clear hS hSF b6)
        | (go_at_call 16; (with_reducible refine (seal_one ((BL.out.trans B6.out).gr GRQ.out) ((BL.out.trans B6.out).nm KYQ.out) NS.out RL.out (by rw [RF.out]; exact DL.out j) EK.out EE.out).mono ?_); rintro e w7 ⟨A7, c7, S7, rfl, lo7, hT7, b7⟩; have LO7 := Lib.hid (show Lo w7 wr.heap.size A7 1 c7 S7 from lo7.base B6.out.sz); have T7 := Lib.hid (show Trp.of (S7 0) = sealN d.P d.Q d.G kk Nj (DD j) from by rw [hT7, RF.out]); have B7' := Lib.hid (B6.out.trans b7); have kC := (Below.cell B7'.out (p := ⟨bo, off + j, none⟩) lo).trans kA; clear lo7 hT7 b7)
        | (go_at_call 16; (with_reducible refine (seal_one (((BL.out.trans B6.out).trans (B7.alloc w6' _)).gr GRQ.out) (((BL.out.trans B6.out).trans (B7.alloc w6' _)).nm KYQ.out) (ns_one NN.out) ((B7.alloc w6' _).ns RL.out) (by rw [RF.out]; exact DL.out j) EK.out EE.out).mono ?_); rintro e w7 ⟨A7, c7, S7, rfl, lo7, hT7, b7⟩; have b6' := B6.out.trans (B7.alloc w6' (.cells #[.slice Aj n_j cj] 23)); have LO7 := Lib.hid (show Lo w7 wr.heap.size A7 1 c7 S7 from lo7.base b6'.sz); have T7 := Lib.hid (show Trp.of (S7 0) = sealN d.P d.Q d.G kk Nj (DD j) from by rw [hT7, RF.out]); have B7' := Lib.hid (b6'.trans b7); have kC := (Below.cell B7'.out (p := ⟨bo, off + j, none⟩) lo).trans kA; clear lo7 hT7 b7 b6'))
       all_goals
        clear kA kB kC
        go_wp2_with fail
        go_meet
        exact ⟨A7, c7, S7, rfl, rfl, LO7.out, T7.out, B7'.out⟩
      case rest =>
        obtain ⟨A7, c7, S7, rfl, rfl, hlo7, hT7, hb7⟩ := hcut
        obtain ⟨w7, rfl⟩ : ∃ w7, w7 = wc := ⟨_, rfl⟩
        have LO7 := Lib.hid hlo7
        have T7 := Lib.hid hT7
        have B7' := Lib.hid hb7
        clear hlo7 hT7 hb7 kA NSA NJ HD1 HDA
        obtain ⟨so, hso⟩ : ∃ so, SL (tauN u v j) = so := ⟨_, rfl⟩
        have HSO := Lib.hid hso
        have tq := tauN_lt uq vq hlt
        have zj := (Below.cell B7'.out (p := ⟨bo, off + j, none⟩) lo).trans (YO.out j hlt)
        have zu := (Below.cell B7'.out (p := ⟨bo, off + u, none⟩) lo).trans (YO.out u uq)
        have zv := (Below.cell B7'.out (p := ⟨bo, off + v, none⟩) lo).trans (YO.out v vq)
        have hu2 : (u : Int) < (q : Int) := by omega
        have hv2 : (v : Int) < (q : Int) := by omega
        have nso := (BL.out.trans B7'.out).ns SAQ.out
        have NSO := Lib.hid (show Nm w7 so.A so.n so.c so.N from by rw [← hso]; exact nso.at_ _ tq)
        have ESO := Lib.hid (show El d.P d.Q so.N from by rw [← hso]; exact SE.out _ tq)
        clear nso
        go_upto_if 172 with fail
        go_cut [33] from 170 to 183 (fun x wx => x = .slice so.A so.n so.c ∧ w7 = wx)
        case first =>
          by_cases h1 : j = u
          · have t1 : ((j : Int) == (u : Int)) = true := by simp; omega
            have h2 : tauN u v j = v := by unfold tauN; rw [if_pos h1]
            rw [h2] at hso
            rw [hso] at zv
            clear h1 h2
            go_wp2_with fail
            go_meet
            exact ⟨rfl, rfl⟩
          · have t1 : ((j : Int) == (u : Int)) = false := by simp; omega
            by_cases h2 : j = v
            · have t2 : ((j : Int) == (v : Int)) = true := by simp; omega
              have h3 : tauN u v j = u := by unfold tauN; rw [if_neg h1, if_pos h2]
              rw [h3] at hso
              rw [hso] at zu
              clear h1 h2 h3
              go_wp2_with fail
              go_meet
              exact ⟨rfl, rfl⟩
            · have t2 : ((j : Int) == (v : Int)) = false := by simp; omega
              have h3 : tauN u v j = j := by unfold tauN; rw [if_neg h1, if_neg h2]
              rw [h3] at hso
              have HS3 := Lib.hid hso
              clear h1 h2 h3 hso
              go_wp2_with fail
              go_meet
              exact ⟨by first | rw [HS3.out] | rw [← HS3.out, HSJ.out], rfl⟩
        case rest =>
        obtain ⟨rfl, rfl⟩ := hcut
        clear zj zu zv hso hu2 hv2
        go_wp2_with fail
        refine (SC.out _ (B7'.out.trans (B7.alloc w7 _))).mono ?_
        rintro e w8 ⟨AS, cS, SS, rfl, hS, hSF, -, b8⟩
        have b8 : B7 (w7.alloc (.cells #[.slice so.A so.n so.c] 23)) w8 := b8
        have b78 := (B7.alloc w7 (.cells #[.slice so.A so.n so.c] 23)).trans b8
        have B8 := Lib.hid (B7'.out.trans b78)
        have NS8 := Lib.hid (b8.ns (ns_one NSO.out))
        have RL := Lib.hid hS
        have RF := Lib.hid (show (SS 0).N = DD j from (hSF 0 (by decide)).1)
        have LO8 := Lib.hid (LO7.out.below b78)
        clear hS hSF b8 b78 LO7
        go_wp2_with fail
        refine (seal_one ((BL.out.trans B8.out).gr GRQ.out) ((BL.out.trans B8.out).nm KYQ.out) NS8.out RL.out (by rw [RF.out]; exact DL.out j) EK.out ESO.out).mono ?_
        rintro e w9 ⟨A9, c9, S9, rfl, lo9, hT9, b9⟩
        have LO9 := Lib.hid (show Lo w9 wr.heap.size A9 1 c9 S9 from lo9.base B8.out.sz)
        have T9 := Lib.hid (show Trp.of (S9 0) = sealN d.P d.Q d.G kk so.N (DD j) from by rw [hT9, RF.out])
        have B9 := Lib.hid (B8.out.trans b9)
        have LOA := Lib.hid (LO8.out.below b9)
        have bx := b9.trans (B7.alloc w9 (.cells #[.slice A7 1 c7] 25))
        have BXA := Lib.hid (B8.out.trans bx)
        have BLA := Lib.hid (BL.out.trans BXA.out)
        have szA := BLA.out.sz
        have CA := Lib.hid (COL.out.below BXA.out.sz)
        have M1 := Lib.hid (L1.out.below BXA.out)
        have M2 := Lib.hid (L2.out.below BXA.out)
        have M3 := Lib.hid (L3.out.below BXA.out)
        have M4 := Lib.hid (L4.out.below BXA.out)
        have M5 := Lib.hid (L5.out.below BXA.out)
        have U1 := Lib.hid (show (w9.alloc (.cells #[.slice A7 1 c7] 25)).cell? ⟨w9.heap.size, 0, none⟩ = some (kCh.v ⟨A7, 1, c7, S7⟩) from one_at w9 _ _)
        have U2 := Lib.hid (show kCh.At (w9.alloc (.cells #[.slice A7 1 c7] 25)) ⟨A7, 1, c7, S7⟩ from LOA.out.ch.below (below_al _ _))
        have U3 := Lib.hid (show ∀ b, kCh.Bl ⟨A7, 1, c7, S7⟩ b → c b = 0 from fun b hb => COL.out b (LOA.out.bl hb))
        have V2 := Lib.hid (show kCh.At (w9.alloc (.cells #[.slice A7 1 c7] 25)) ⟨A9, 1, c9, S9⟩ from LO9.out.ch.below (below_al _ _))
        have V3 := Lib.hid (show ∀ b, kCh.Bl ⟨A9, 1, c9, S9⟩ b → c b = 0 from fun b hb => COL.out b (LO9.out.bl hb))
        clear lo9 hT9 b9 bx NS8 RL RF LO8 NSO ESO
        go_wp2_with (at_builtin; refine wpList_lst rfl (.tmp 201) (.tmp 203) 45 rfl wb.heap.size 25 24 (.slice none 0 0) Tryz.underlying45 infoL7 rfl 1 c (by decide) CA.out u25 j 1 B1 ⟨A7, 1, c7, S7⟩ rfl M1.out w9.heap.size rfl U1.out U2.out U3.out (by unfold maxLen; omega) (by omega) szA ?_)
        rintro v10 w10 c10 n1 hg sc cl10
        have N1 := Lib.hid n1
        have N2 := Lib.hid (M2.out.other hg M1.out.row (by decide) (by decide) sc)
        have N3 := Lib.hid (M3.out.other hg M1.out.row (by decide) (by decide) sc)
        have N4 := Lib.hid (M4.out.other hg M1.out.row (by decide) (by decide) sc)
        have N5 := Lib.hid (M5.out.other hg M1.out.row (by decide) (by decide) sc)
        have OLD10 := Lib.hid (OLD.out.same sc szA)
        have COL10 := Lib.hid cl10
        have BL10 := Lib.hid (BLA.out.grown hg (fun g e => (M1.out.l.lt e).1))
        have W2 := Lib.hid (Kd.other V2.out V3.out hg M1.out.row (by decide))
        have W3 := Lib.hid (show ∀ b, kCh.Bl ⟨A9, 1, c9, S9⟩ b → c10 b = 0 from fun b hb => (sc b (kCh.lt V2.out hb)).trans (V3.out b hb))
        have bx := B7.alloc w10 (.cells #[.slice A9 1 c9] 25)
        have BLB := Lib.hid (BL10.out.trans bx)
        have szB := BLB.out.sz
        have CB := Lib.hid (COL10.out.below bx.sz)
        have P1 := Lib.hid (N1.out.below bx)
        have P2 := Lib.hid (N2.out.below bx)
        have P3 := Lib.hid (N3.out.below bx)
        have P4 := Lib.hid (N4.out.below bx)
        have P5 := Lib.hid (N5.out.below bx)
        have X1 := Lib.hid (show (w10.alloc (.cells #[.slice A9 1 c9] 25)).cell? ⟨w10.heap.size, 0, none⟩ = some (kCh.v ⟨A9, 1, c9, S9⟩) from one_at w10 _ _)
        have X2 := Lib.hid (show kCh.At (w10.alloc (.cells #[.slice A9 1 c9] 25)) ⟨A9, 1, c9, S9⟩ from Ch.below W2.out bx)
        clear n1 hg sc cl10 M1 M2 M3 M4 M5 N1 N2 N3 N4 N5 U1 U2 U3 V2 V3 CA bx W2 LO9 LOA
        go_wp2_with (at_builtin; refine wpList_lst rfl (.tmp 205) (.tmp 207) 45 rfl wb.heap.size 25 24 (.slice none 0 0) Tryz.underlying45 infoL7 rfl 2 c10 (by decide) CB.out u26 j 1 B2 ⟨A9, 1, c9, S9⟩ rfl P2.out w10.heap.size rfl X1.out X2.out W3.out (by unfold maxLen; omega) (by omega) szB ?_)
        rintro v11 w11 c11 n2 hg sc cl11
        have N2 := Lib.hid n2
        have N1 := Lib.hid (P1.out.other hg P2.out.row (by decide) (by decide) sc)
        have N3 := Lib.hid (P3.out.other hg P2.out.row (by decide) (by decide) sc)
        have N4 := Lib.hid (P4.out.other hg P2.out.row (by decide) (by decide) sc)
        have N5 := Lib.hid (P5.out.other hg P2.out.row (by decide) (by decide) sc)
        have OLD11 := Lib.hid (OLD10.out.same sc szB)
        have COL11 := Lib.hid cl11
        have BL11 := Lib.hid (BLB.out.grown hg (fun g e => (P2.out.l.lt e).1))
        have BX11 := Lib.hid (BQ.out.trans BL11.out)
        clear n2 hg sc cl11 P1 P2 P3 P4 P5 X1 X2 W3 CB BLA BLB BXA
        have e1 : IntKind.i64.wrap ((q : Int) + (j : Int)) = ((q + j : Nat) : Int) := by rw [IntWalk.i64_in _ (by omega)]; omega
        go_wp2_with fail
        have con := at7_any (BX11.out.ns HD.out) HD.out.base (q + j) (by omega)
        rw [HDD.out] at con
        refine con.mono ?_
        clear con
        rintro e w12 ⟨A12, n12, c12, rfl, h12, -, hl12, b12⟩
        have b12 : B7 w11 w12 := b12
        clear e1
        have b13 := (b12.trans (B7.alloc w12 (.cells #[.slice A12 n12 c12] 23))).trans (B7.alloc (w12.alloc (.cells #[.slice A12 n12 c12] 23)) (.cells #[.slice (some ⟨w12.heap.size, 0, none⟩) 1 1] 24))
        have sz12 := b12.sz
        have MB := Lib.hid (show ∀ b, BlN A12 n12 b → c11 b = 0 from fun b hb => by
          obtain ⟨a, ea, h0, rfl⟩ := hb
          rcases hl12 a ea h0 with g | g
          · exact OLD11.out _ (Nat.lt_of_lt_of_le g BQ.out.sz)
          · exact COL11.out _ g)
        have MN := Lib.hid (h12.below ((below_al w12 (.cells #[.slice A12 n12 c12] 23)).trans (Below.mono (below_al _ (.cells #[.slice (some ⟨w12.heap.size, 0, none⟩) 1 1] 24)) (by simp))))
        have BL13 := Lib.hid (BL11.out.trans b13)
        have szC := BL13.out.sz
        have CC := Lib.hid (COL11.out.below b13.sz)
        have P1 := Lib.hid (N1.out.below b13)
        have P2 := Lib.hid (N2.out.below b13)
        have P3 := Lib.hid (N3.out.below b13)
        have P4 := Lib.hid (N4.out.below b13)
        have P5 := Lib.hid (N5.out.below b13)
        have X1 := Lib.hid (show ((w12.alloc (.cells #[.slice A12 n12 c12] 23)).alloc (.cells #[.slice (some ⟨w12.heap.size, 0, none⟩) 1 1] 24)).cell? ⟨w12.heap.size + 1, 0, none⟩ = some (kNs.v ⟨some ⟨w12.heap.size, 0, none⟩, 1, 1, fun _ => ⟨A12, n12, c12, DD (q + j)⟩⟩) from by
          have h := one_at (w12.alloc (.cells #[.slice A12 n12 c12] 23)) (.slice (some ⟨w12.heap.size, 0, none⟩) 1 1) 24
          rw [show (w12.alloc (.cells #[.slice A12 n12 c12] 23)).heap.size = w12.heap.size + 1 by simp] at h
          exact h)
        have X2 := Lib.hid (show kNs.At ((w12.alloc (.cells #[.slice A12 n12 c12] 23)).alloc (.cells #[.slice (some ⟨w12.heap.size, 0, none⟩) 1 1] 24)) ⟨some ⟨w12.heap.size, 0, none⟩, 1, 1, fun _ => ⟨A12, n12, c12, DD (q + j)⟩⟩ from (ns_one h12).below (below_al _ _))
        have X3 := Lib.hid (show ∀ b, kNs.Bl ⟨some ⟨w12.heap.size, 0, none⟩, 1, 1, fun _ => ⟨A12, n12, c12, DD (q + j)⟩⟩ b → c11 b = 0 from fun b hb => by
          rcases hb with ⟨a, ea, -, rfl⟩ | ⟨t, -, hb⟩
          · injection ea with ea
            subst ea
            exact COL11.out _ sz12
          · exact MB.out b hb)
        have szC2 : wb.heap.size ≤ ((w12.alloc (.cells #[.slice A12 n12 c12] 23)).alloc (.cells #[.slice (some ⟨w12.heap.size, 0, none⟩) 1 1] 24)).heap.size := szC
        clear h12 hl12 b12 b13 N1 N2 N3 N4 N5 szC
        go_wp2_with (at_builtin; refine wpList_lst rfl (.tmp 214) (.tmp 217) 47 rfl wb.heap.size 24 24 (.slice none 0 0) Tryz.underlying47 infoR7 rfl 3 c11 (by decide) CC.out u27 j 1 R ⟨some ⟨w12.heap.size, 0, none⟩, 1, 1, fun _ => ⟨A12, n12, c12, DD (q + j)⟩⟩ rfl P3.out (w12.heap.size + 1) rfl X1.out X2.out X3.out (by unfold maxLen; omega) (by omega) szC2 ?_)
        rintro v14 w14 c14 n3 hg sc cl14
        have N3 := Lib.hid n3
        have N1 := Lib.hid (P1.out.other hg P3.out.row (by decide) (by decide) sc)
        have N2 := Lib.hid (P2.out.other hg P3.out.row (by decide) (by decide) sc)
        have N4 := Lib.hid (P4.out.other hg P3.out.row (by decide) (by decide) sc)
        have N5 := Lib.hid (P5.out.other hg P3.out.row (by decide) (by decide) sc)
        have OLD14 := Lib.hid (OLD11.out.same sc szC2)
        have COL14 := Lib.hid cl14
        have BL14 := Lib.hid (BL13.out.grown hg (fun g e => (P3.out.l.lt e).1))
        have MN14 := Lib.hid (Nm.other MN.out MB.out hg P3.out.row (by decide))
        have MB14 := Lib.hid (show ∀ b, BlN A12 n12 b → c14 b = 0 from fun b hb => (sc b (MN.out.blt hb)).trans (MB.out b hb))
        clear n3 hg sc cl14 P1 P2 P3 P4 P5 X1 X2 X3 CC BL13 MN MB szC2
        have BX14 := Lib.hid (BQ.out.trans BL14.out)
        obtain ⟨bp, op, rfl, lp, yp⟩ := rd_ex PR.out (by omega)
        have yp1 := yp j hlt
        rw [HFF.out] at yp1
        have z1 := (BL14.out.cell (p := ⟨bp, op + j, none⟩) lp).trans yp1
        obtain ⟨x0, hx0⟩ : ∃ x0, f j = x0 := ⟨_, rfl⟩
        have HX0 := Lib.hid hx0
        rw [hx0] at z1
        obtain ⟨y0, hy0⟩ : ∃ y0, tauI u v x0 = y0 := ⟨_, rfl⟩
        have HY0 := Lib.hid hy0
        clear yp yp1 hx0 hy0
        go_upto_if 226 with fail
        go_cut [38] from 224 to 231 (fun x wx => x = .int .i64 y0 ∧ w14 = wx)
        case first =>
          by_cases h1 : x0 = (u : Int)
          · have t1 : (x0 == (u : Int)) = true := by simp; exact h1
            have h2 := Lib.hid (show (v : Int) = y0 by rw [← HY0.out]; unfold tauI; rw [if_pos h1])
            clear h1
            go_wp2_with fail
            go_meet
            exact ⟨by rw [h2.out], rfl⟩
          · have t1 : (x0 == (u : Int)) = false := by simp; exact h1
            by_cases h2 : x0 = (v : Int)
            · have t2 : (x0 == (v : Int)) = true := by simp; exact h2
              have h3 := Lib.hid (show (u : Int) = y0 by rw [← HY0.out]; unfold tauI; rw [if_neg h1, if_pos h2])
              clear h1 h2
              go_wp2_with fail
              go_meet
              exact ⟨by rw [h3.out], rfl⟩
            · have t2 : (x0 == (v : Int)) = false := by simp; exact h2
              have h3 := Lib.hid (show x0 = y0 by rw [← HY0.out]; unfold tauI; rw [if_neg h1, if_neg h2])
              clear h1 h2
              go_wp2_with fail
              go_meet
              exact ⟨by rw [h3.out], rfl⟩
        case rest =>
        obtain ⟨rfl, rfl⟩ := hcut
        clear z1
        have bx := B7.alloc w14 (.cells #[.int .i64 y0] 3)
        have BLD := Lib.hid (BL14.out.trans bx)
        have szD := BLD.out.sz
        have CD := Lib.hid (COL14.out.below bx.sz)
        have P1 := Lib.hid (N1.out.below bx)
        have P2 := Lib.hid (N2.out.below bx)
        have P3 := Lib.hid (N3.out.below bx)
        have P4 := Lib.hid (N4.out.below bx)
        have P5 := Lib.hid (N5.out.below bx)
        have MN15 := Lib.hid (MN14.out.below bx)
        have X1 := Lib.hid (show (w14.alloc (.cells #[.int .i64 y0] 3)).cell? ⟨w14.heap.size, 0, none⟩ = some (kInt.v y0) from one_at w14 _ _)
        clear bx N1 N2 N3 N4 N5 MN14
        go_wp2_with (at_builtin; refine wpList_lst rfl (.tmp 232) (.tmp 234) 46 rfl wb.heap.size 3 8 (.int .i64 0) Tryz.underlying46 infoI7 rfl 5 c14 (by decide) CD.out u29 j 1 L y0 rfl P5.out w14.heap.size rfl X1.out trivial (fun b hb => hb.elim) (by unfold maxLen; omega) (by omega) szD ?_)
        rintro v16 w16 c16 n5 hg sc cl16
        have N5 := Lib.hid n5
        have N1 := Lib.hid (P1.out.other hg P5.out.row (by decide) (by decide) sc)
        have N2 := Lib.hid (P2.out.other hg P5.out.row (by decide) (by decide) sc)
        have N3 := Lib.hid (P3.out.other hg P5.out.row (by decide) (by decide) sc)
        have N4 := Lib.hid (P4.out.other hg P5.out.row (by decide) (by decide) sc)
        have OLD16 := Lib.hid (OLD14.out.same sc szD)
        have COL16 := Lib.hid cl16
        have BL16 := Lib.hid (BLD.out.grown hg (fun g e => (P5.out.l.lt e).1))
        have BX16 := Lib.hid (BQ.out.trans BL16.out)
        have MN16 := Lib.hid (Nm.other MN15.out MB14.out hg P5.out.row (by decide))
        have MB16 := Lib.hid (show ∀ b, BlN A12 n12 b → c16 b = 0 from fun b hb => (sc b (MN15.out.blt hb)).trans (MB14.out b hb))
        clear n5 hg sc cl16 P1 P2 P3 P4 P5 X1 CD BLD MN15 MB14 szD
        obtain ⟨inr, hinr⟩ := bool_of (0 ≤ x0 ∧ x0 < (q : Int))
        have HIN := Lib.hid hinr
        have HYI := Lib.hid (show (0 ≤ y0 ∧ y0 < (q : Int)) ↔ (0 ≤ x0 ∧ x0 < (q : Int)) by rw [← HY0.out]; exact tauI_in uq vq)
        have HYE := Lib.hid (show ¬ (0 ≤ x0 ∧ x0 < (q : Int)) → y0 = x0 from fun h => by
          rw [← HY0.out]; unfold tauI
          rw [if_neg (by omega), if_neg (by omega)])
        clear hinr
        go_upto_region 51 with fail
        go_cut [251] from 236 to 250 (fun x wx => x = .bool inr ∧ w16 = wx)
        case first =>
          cases inr with
          | true =>
            have h1 := HIN.out.1 rfl
            have h2 := HYI.out.2 h1
            have t1 : decide (0 ≤ y0) = true := by simp; omega
            have t2 : decide (y0 < (q : Int)) = true := by simp; omega
            have t3 : decide (0 ≤ x0) = true := by simp; omega
            have t4 : decide (x0 < (q : Int)) = true := by simp; omega
            clear h1 h2
            go_wp2_with fail
            go_meet
            exact ⟨rfl, rfl⟩
          | false =>
            have h1 : ¬ (0 ≤ x0 ∧ x0 < (q : Int)) := fun h => by have := HIN.out.2 h; cases this
            have h2 := HYE.out h1
            rcases Int.lt_or_le y0 0 with g | g
            · have t1 : decide (0 ≤ y0) = false := by simp; omega
              clear h1 h2 g
              go_wp2_with fail
              go_meet
              exact ⟨rfl, rfl⟩
            · have t1 : decide (0 ≤ y0) = true := by simp; omega
              have t2 : decide (y0 < (q : Int)) = false := by simp; omega
              clear h1 h2 g
              go_wp2_with fail
              go_meet
              exact ⟨rfl, rfl⟩
        case rest =>
        obtain ⟨rfl, rfl⟩ := hcut
        go_upto_if 251 with fail
        go_cut [36, 39, 40, 41, 42] from 252 to 276 (fun x _ _ _ _ wx => MineC c16 (backN d.Q u v q DD f j) w16 x wx)
        case first =>
          cases inr with
          | false =>
            have h1 : ¬ (0 ≤ f j ∧ f j < (q : Int)) := fun h => by rw [HX0.out] at h; have := HIN.out.2 h; cases this
            have hb := Lib.hid (show backN d.Q u v q DD f j = DD (q + j) from if_neg h1)
            clear h1
            go_wp2_with fail
            go_meet
            exact ⟨A12, n12, c12, rfl, by rw [hb.out]; exact MN16.out, MB16.out, B7.refl _⟩
          | true =>
            have h1 := HIN.out.1 rfl
            have h2 := HYI.out.2 h1
            obtain ⟨fv, hfv⟩ : ∃ fv : Nat, x0 = fv := ⟨x0.toNat, by omega⟩
            obtain ⟨tv, htv⟩ : ∃ tv : Nat, y0 = tv := ⟨y0.toNat, by omega⟩
            have fq : fv < q := by omega
            have tq2 : tv < q := by omega
            have hb := Lib.hid (show backN d.Q u v q DD f j = ((DD (q + j) + DD fv) % d.Q - DD tv) % d.Q by
              have e1 : f j = (fv : Int) := HX0.out.trans hfv
              have e2 : tauI u v (fv : Int) = (tv : Int) := by rw [← hfv, HY0.out]; exact htv
              unfold backN
              rw [e1, if_pos (by omega), e2]
              rfl)
            have AT1 := Lib.hid (show Calls Tryz.prog 35 #[.slice Ad nd cd, .int .i64 x0] w16 (AtP (DD fv) w.heap.size w16) by
              rw [hfv, ← HDD.out]; exact at7_any (BX16.out.ns HD.out) HD.out.base fv (by omega))
            have AT2 := Lib.hid (show ∀ W, B7 w16 W → Calls Tryz.prog 35 #[.slice Ad nd cd, .int .i64 y0] W (AtP (DD tv) w.heap.size W) from fun W hW => by
              rw [htv, ← HDD.out]; exact at7_any ((BX16.out.trans hW).ns HD.out) HD.out.base tv (by omega))
            clear h1 h2 hfv htv
            go_wp2_with fail
            refine AT1.out.mono ?_
            rintro e w17 ⟨A17, n17, c17, rfl, h17, -, -, b17⟩
            have b17 : B7 w16 w17 := b17
            have K17 := Lib.hid h17
            have B17 := Lib.hid b17
            clear h17 b17
            go_wp2_with fail
            refine (madd_any (MDQ.out.below (BL16.out.trans B17.out)) (B17.out.nm MN16.out) K17.out (DL.out _) (DL.out _)).mono ?_
            rintro e w18 ⟨A18, n18, c18, rfl, h18, b18, -⟩
            have b18 : B7 w17 w18 := b18
            have K18 := Lib.hid h18.nm
            have B18 := Lib.hid (B17.out.trans b18)
            clear h18 b18 K17 B17
            go_wp2_with fail
            refine (AT2.out _ B18.out).mono ?_
            rintro e w19 ⟨A19, n19, c19, rfl, h19, -, -, b19⟩
            have b19 : B7 w18 w19 := b19
            have K19 := Lib.hid h19
            have K18b := Lib.hid (b19.nm K18.out)
            have B19 := Lib.hid (B18.out.trans b19)
            clear h19 b19 K18 B18
            go_wp2_with fail
            refine (msub_any (MDQ.out.below (BL16.out.trans B19.out)) K18b.out K19.out (rest_dl GRQ.out _) (DL.out _)).mono ?_
            rintro e w20 ⟨A20, n20, c20, rfl, h20, b20, hn20⟩
            have b20 : B7 w19 w20 := b20
            have K20 := Lib.hid h20.nm
            have HN20 := Lib.hid hn20
            have B20 := Lib.hid (B19.out.trans b20)
            have szE := B19.out.sz
            clear h20 b20 hn20 K18b K19
            go_wp2_with fail
            go_meet
            exact ⟨A20, n20, c20, rfl, by rw [hb.out]; exact K20.out, fun b hb => by
              obtain ⟨a, ea, -, rfl⟩ := hb
              exact COL16.out _ (Nat.le_trans szE (HN20.out a ea)), B20.out⟩
        case rest =>
        obtain ⟨A21, n21, c21, rfl, hm21, hb21, b21⟩ := hcut
        obtain ⟨w21, rfl⟩ : ∃ w21, w21 = wc := ⟨_, rfl⟩
        have sz21 := b21.sz
        have bx := (b21.trans (B7.alloc w21 (.cells #[.slice A21 n21 c21] 23))).trans (B7.alloc (w21.alloc (.cells #[.slice A21 n21 c21] 23)) (.cells #[.slice (some ⟨w21.heap.size, 0, none⟩) 1 1] 24))
        have BLE := Lib.hid (BL16.out.trans bx)
        have szF := BLE.out.sz
        have CE := Lib.hid (COL16.out.below bx.sz)
        have P1 := Lib.hid (N1.out.below bx)
        have P2 := Lib.hid (N2.out.below bx)
        have P3 := Lib.hid (N3.out.below bx)
        have P4 := Lib.hid (N4.out.below bx)
        have P5 := Lib.hid (N5.out.below bx)
        have X1 := Lib.hid (show ((w21.alloc (.cells #[.slice A21 n21 c21] 23)).alloc (.cells #[.slice (some ⟨w21.heap.size, 0, none⟩) 1 1] 24)).cell? ⟨w21.heap.size + 1, 0, none⟩ = some (kNs.v ⟨some ⟨w21.heap.size, 0, none⟩, 1, 1, fun _ => ⟨A21, n21, c21, backN d.Q u v q DD f j⟩⟩) from by
          have h := one_at (w21.alloc (.cells #[.slice A21 n21 c21] 23)) (.slice (some ⟨w21.heap.size, 0, none⟩) 1 1) 24
          rw [show (w21.alloc (.cells #[.slice A21 n21 c21] 23)).heap.size = w21.heap.size + 1 by simp] at h
          exact h)
        have X2 := Lib.hid (show kNs.At ((w21.alloc (.cells #[.slice A21 n21 c21] 23)).alloc (.cells #[.slice (some ⟨w21.heap.size, 0, none⟩) 1 1] 24)) ⟨some ⟨w21.heap.size, 0, none⟩, 1, 1, fun _ => ⟨A21, n21, c21, backN d.Q u v q DD f j⟩⟩ from (ns_one hm21).below (below_al _ _))
        have X3 := Lib.hid (show ∀ b, kNs.Bl ⟨some ⟨w21.heap.size, 0, none⟩, 1, 1, fun _ => ⟨A21, n21, c21, backN d.Q u v q DD f j⟩⟩ b → c16 b = 0 from fun b hb => by
          rcases hb with ⟨a, ea, -, rfl⟩ | ⟨t, -, hb⟩
          · injection ea with ea
            subst ea
            exact COL16.out _ sz21
          · exact hb21 b hb)
        have szF2 : wb.heap.size ≤ ((w21.alloc (.cells #[.slice A21 n21 c21] 23)).alloc (.cells #[.slice (some ⟨w21.heap.size, 0, none⟩) 1 1] 24)).heap.size := szF
        clear bx N1 N2 N3 N4 N5 hm21 hb21 b21 szF HIN HYI HYE
        go_wp2_with (at_builtin; refine wpList_lst rfl (.tmp 277) (.tmp 280) 47 rfl wb.heap.size 24 24 (.slice none 0 0) Tryz.underlying47 infoR7 rfl 4 c16 (by decide) CE.out u28 j 1 S ⟨some ⟨w21.heap.size, 0, none⟩, 1, 1, fun _ => ⟨A21, n21, c21, backN d.Q u v q DD f j⟩⟩ rfl P4.out (w21.heap.size + 1) rfl X1.out X2.out X3.out (by unfold maxLen; omega) (by omega) szF2 ?_)
        rintro v22 w22 c22 n4 hg sc cl22
        have N4 := Lib.hid n4
        have N1 := Lib.hid (P1.out.other hg P4.out.row (by decide) (by decide) sc)
        have N2 := Lib.hid (P2.out.other hg P4.out.row (by decide) (by decide) sc)
        have N3 := Lib.hid (P3.out.other hg P4.out.row (by decide) (by decide) sc)
        have N5 := Lib.hid (P5.out.other hg P4.out.row (by decide) (by decide) sc)
        have OLD22 := Lib.hid (OLD16.out.same sc szF2)
        have COL22 := Lib.hid cl22
        have BL22 := Lib.hid (BLE.out.grown hg (fun g e => (P4.out.l.lt e).1))
        clear n4 hg sc cl22 P1 P2 P3 P4 P5 X1 X2 X3 CE BLE szF2
        go_wp2_with fail
        go_roundw
        case rel =>
          refine ⟨j + 1, c22, _, _, _, _, _, by omega, by go_num, COL22.out, OLD22.out, N1.out, N2.out, N3.out, N4.out, N5.out, fun p hp => ?_, BL22.out⟩
          rcases Nat.lt_or_ge p j with g | g
          · rw [snocG_lt g, snocG_lt g, snocG_lt g, snocG_lt g, snocG_lt g]
            exact FA.out p g
          · obtain rfl : p = j := by omega
            rw [snocG_at, snocG_at, snocG_at, snocG_at, snocG_at]
            refine ⟨⟨rfl, ?_⟩, ⟨rfl, ?_⟩, ⟨rfl, rfl⟩, ⟨rfl, rfl⟩, ?_⟩
            · show _ = sealN d.P d.Q d.G kk (SL p).N (DD p); rw [HSJ.out]; exact T7.out
            · show _ = sealN d.P d.Q d.G kk (SL (tauN u v p)).N (DD p); rw [HSO.out]; exact T9.out
            · show y0 = tauI u v (f p); rw [HX0.out, HY0.out]
        case measure => simp [intOf]; omega
      --L1>
    obtain rfl : j = q := by omega
    have hjq : decide ((j : Int) < (j : Int)) = false := by simp
    obtain ⟨Ao, co, rfl, -, hb1⟩ := L1.out.l.bat (by omega)
    obtain ⟨At, ct, rfl, -, hb2⟩ := L2.out.l.bat (by omega)
    obtain ⟨Ar, cr, rfl, -, hrl⟩ := L3.out.l.rls (by omega)
    obtain ⟨As, cs, rfl, -, hsl⟩ := L4.out.l.rls (by omega)
    obtain ⟨Ai, ci, rfl, -, -, hin⟩ := L5.out.l.ints
    have BA1 := Lib.hid hb1
    have BA2 := Lib.hid hb2
    have RLS := Lib.hid hrl
    have SLS := Lib.hid hsl
    have INT := Lib.hid hin
    have GRX := Lib.hid (BL.out.gr GRQ.out)
    have KYX := Lib.hid (BL.out.nm KYQ.out)
    have PRX := Lib.hid (PR.out.below BL.out)
    have bn1 := Lib.hid (show ∀ i, i < j → (B1 i).n = 1 from fun i hi => (FA.out i hi).1.1)
    have bn2 := Lib.hid (show ∀ i, i < j → (B2 i).n = 1 from fun i hi => (FA.out i hi).2.1.1)
    have rn1 := Lib.hid (show ∀ i, i < j → (R i).n = 1 from fun i hi => (FA.out i hi).2.2.1.1)
    have sn1 := Lib.hid (show ∀ i, i < j → (S i).n = 1 from fun i hi => (FA.out i hi).2.2.2.1.1)
    have bkl := Lib.hid (show ∀ i, dl (backN d.Q u v j DD f i) ≤ 64 from fun i => by
      unfold backN
      split
      · exact rest_dl GRQ.out _
      · exact DL.out _)
    have bk0 := Lib.hid (show ∀ i, 0 ≤ backN d.Q u v j DD f i from fun i => by
      unfold backN
      split
      · exact Int.emod_nonneg _ (by have := SF.out.q1; omega)
      · exact D0.out _)
    have rdl := Lib.hid (show ∀ i, i < j → dl ((R i).S 0).N ≤ 64 from fun i hi => by rw [(FA.out i hi).2.2.1.2]; exact DL.out _)
    have sdl := Lib.hid (show ∀ i, i < j → dl ((S i).S 0).N ≤ 64 from fun i hi => by rw [(FA.out i hi).2.2.2.1.2]; exact bkl.out _)
    have el1 := Lib.hid (show ∀ i, i < j → ElT d.P d.Q (Trp.of ((B1 i).S 0)) from fun i hi => by rw [(FA.out i hi).1.2]; exact sealN_el SF.out.p2 SF.out.q1 EG.out EK.out (SE.out i hi) _)
    have el2 := Lib.hid (show ∀ i, i < j → ElT d.P d.Q (Trp.of ((B2 i).S 0)) from fun i hi => by rw [(FA.out i hi).2.1.2]; exact sealN_el SF.out.p2 SF.out.q1 EG.out EK.out (SE.out _ (tauN_lt uq vq hi)) _)
    have dm := Lib.hid (show ∀ p, p < j → dig ((List.range j).map L) p = tauI u v (f p) from fun p hp => by rw [dig_map hp]; exact (FA.out p hp).2.2.2.2)
    clear hb1 hb2 hrl hsl hin L1 L2 L3 L4 L5 COL OLD GRQ KYQ MDQ SAQ PR BQ BL
    by_cases hpf : PermF j f
    case neg =>
      have CON := Lib.hid (mix_no (cp := cq) GRX.out KYX.out BA1.out PRX.out RLS.out bn1.out rn1.out (by omega) (by rw [HFF.out]; exact hpf))
      have HNP := Lib.hid (show ¬ PermF j (dig ((List.range j).map L)) from fun h => hpf ((permF_tau uq vq).1 ((permF_dig dm.out).1 h)))
      clear hpf
      go_wp2_with fail
      refine CON.out.mono ?_
      rintro e w9 ⟨rfl, b9⟩
      have b9 : B7 wr w9 := b9
      have B9 := Lib.hid (BX.out.trans b9)
      have CON2 := Lib.hid (mix_no (cp := ci) (b9.gr GRX.out) (b9.nm KYX.out) (BA2.out.b7' b9) (INT.out.below b9) (SLS.out.b7' b9) bn2.out sn1.out (by omega) HNP.out)
      clear b9 CON
      go_wp2_with fail
      refine CON2.out.mono ?_
      rintro e w10 ⟨rfl, b10⟩
      have B10 := Lib.hid (B9.out.trans b10)
      clear b10 CON2
      go_wp2_with fail
      go_ret
      first
      | exact ⟨rfl, B10.out⟩
      | exact ⟨by simp, B10.out⟩
    case pos =>
    have PF := Lib.hid hpf
    have con := mix_yes (cp := cq) GRX.out KYX.out BA1.out PRX.out RLS.out bn1.out rn1.out (by omega) (by rw [HFF.out]; exact hpf) EK.out el1.out rdl.out
    rw [HFF.out] at con
    have CON := Lib.hid con
    have HNP := Lib.hid (show PermF j (dig ((List.range j).map L)) from (permF_dig dm.out).2 ((permF_tau uq vq).2 hpf))
    clear con hpf
    go_wp2_with fail
    refine CON.out.mono ?_
    rintro e w9 ⟨A9, c9, S9, rfl, h91, h92, b9⟩
    have b9 : B7 wr w9 := b9
    have B9 := Lib.hid (BX.out.trans b9)
    have BT9 := Lib.hid h91
    have F9 := Lib.hid h92
    have CON2 := Lib.hid (mix_yes (cp := ci) (b9.gr GRX.out) (b9.nm KYX.out) (BA2.out.b7' b9) (INT.out.below b9) (SLS.out.b7' b9) bn2.out sn1.out (by omega) HNP.out EK.out el2.out sdl.out)
    clear h91 h92 b9 CON GRX KYX BA1 BA2 RLS SLS INT PRX
    go_wp2_with fail
    refine CON2.out.mono ?_
    rintro e w10 ⟨A10, c10, S10, rfl, h101, h102, b10⟩
    have b10 : B7 w9 w10 := b10
    have B10 := Lib.hid (B9.out.trans b10)
    have BT10 := Lib.hid h101
    have BTZ := Lib.hid (BT9.out.b7' b10)
    have F10 := Lib.hid (show ∀ p, p < j → (S10 p).n = 1 ∧ CanL (S10 p).S 1 ∧ Trp.of ((S10 p).S 0) = Trp.of ((S9 p).S 0) from fun p hp => by
      obtain ⟨k1, k2, k3⟩ := h102 p hp
      refine ⟨k1, k2, ?_⟩
      have k4 : Trp.of ((S10 p).S 0) = anewN d.P d.Q d.G kk (Trp.of ((B2 (dig ((List.range j).map L) p).toNat).S 0)) ((S p).S 0).N := k3
      have k5 : Trp.of ((S9 p).S 0) = anewN d.P d.Q d.G kk (Trp.of ((B1 (f p).toNat).S 0)) ((R p).S 0).N := (F9.out p hp).2.2
      obtain ⟨g1, g2⟩ := PF.out.1 p hp
      obtain ⟨fv, hfv⟩ : ∃ fv : Nat, f p = fv := ⟨(f p).toNat, by omega⟩
      have fq : fv < j := by omega
      have tq := tauN_lt uq vq fq
      have hb : backN d.Q u v j DD f p = ((DD (j + p) + DD fv) % d.Q - DD (tauN u v fv)) % d.Q := by
        unfold backN
        rw [hfv, if_pos (by omega), tauI_nat]
        rfl
      rw [k4, k5, dm.out p hp, hfv, tauI_nat]
      rw [show ((fv : Int)).toNat = fv from rfl, show (((tauN u v fv : Nat) : Int)).toNat = tauN u v fv from rfl]
      rw [(FA.out _ tq).2.1.2, (FA.out _ fq).1.2, (FA.out p hp).2.2.2.1.2, (FA.out p hp).2.2.1.2, tauN_tau]
      rw [anew_seal SF.out.p2 SF.out.q1 EG.out EK.out (D0.out _) (bk0.out _), anew_seal SF.out.p2 SF.out.q1 EG.out EK.out (D0.out _) (D0.out _), hb]
      rw [← sealN_mod SF.out.q1, back_mod, sealN_mod SF.out.q1])
    have t1 : ((j : Int) != (j : Int)) = false := by simp
    clear h101 h102 b10 CON2 FA BT9
    go_wp2_with fail
    obtain ⟨wd, rfl⟩ : ∃ wd, wd = w10 := ⟨_, rfl⟩
    go_loopw [47] (fun t wr => TwS j wd t wr) (fun t _ => j - (intOf t).toNat)
    case atStart => exact ⟨0, Nat.zero_le _, rfl, B7.refl _⟩
    case round =>
      clear t1 hjq
      obtain ⟨p, hp, rfl, hbl⟩ := hrel
      have HBD := Lib.hid hbl
      clear hbl
      rcases Nat.lt_or_ge p j with hlt | hge3
      · --<L3
        have hpn : (p : Int) < (j : Int) := by omega
        have h5 := BTZ.out.b7' HBD.out
        have h6 := BT10.out.b7' HBD.out
        obtain ⟨bo, of, rfl, lo, yo⟩ := h5.ex (by omega)
        obtain ⟨bo', of', rfl, lo', yo'⟩ := h6.ex (by omega)
        have z1 := yo p hlt
        have z2 := yo' p hlt
        have c1 := h5.at_ p hlt
        have c2 := h6.at_ p hlt
        obtain ⟨u1, u2, -⟩ := F9.out p hlt
        obtain ⟨v1, v2, v3⟩ := F10.out p hlt
        rw [u1] at z1 c1
        rw [v1] at z2 c2
        have SQ := Lib.hid (fun q => same7_q (q := q) c1 c2 u2 v2 (fun t ht => by obtain rfl : t = 0 := (by omega); exact v3.symm))
        clear yo yo' c1 c2 u1 u2 v1 v2 v3 h5 h6
        go_wp2_with fail
        go_quiet ((go_at_call 20; exact SQ.out _))
        go_wp2_with fail
        go_roundw
        case rel => exact ⟨p + 1, by omega, by go_num, HBD.out.trans (B7.drewN _ _)⟩
        case measure => simp [intOf]; omega
        --L3>
      obtain rfl : p = j := by omega
      have hpn : decide ((p : Int) < (p : Int)) = false := by simp
      go_wp2_with fail
      go_ret
      exact ⟨rfl, B10.out.trans HBD.out⟩
end Go.Proofs.YtpmnghealjgkeaaGreat
