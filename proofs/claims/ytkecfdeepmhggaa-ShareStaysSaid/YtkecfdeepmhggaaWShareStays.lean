/-
  ShareStays answers true: Deal keeps nothing of what it was given, and Combine turns nothing.
-/
import Derived.Test.YtkecfdeepmhggaaPnc
import Derived.Test.YtkecfdeepmhggaaPkm
import Derived.Test.YtkecfdeepmhggaaTn9
import Derived.Test.YtkecfdeepmhggaaPkf
import Derived.Deep.CutBlock
namespace Go.Proofs.Ytkecfdeepmhggaa
open Go.RowKit
set_option linter.unusedVariables false
set_option maxRecDepth 100000 in
theorem gp_eqY (b : Nat) : ∀ w : World, (binOp .eql 27 (.pointer (some ⟨b, 0, none⟩)) (.pointer none)).run Try.prog w = .ok (.bool false) w := fun _ => rfl
/-- Digits of one length and one value are the same. -/
theorem val_inj9 : ∀ (xs ys : List Int), xs.length = ys.length → Dig W xs → Dig W ys → val W xs = val W ys → xs = ys
  | [], [], _, _, _, _ => rfl
  | [], y :: ys, h, _, _, _ => by simp at h
  | x :: xs, [], h, _, _, _ => by simp at h
  | x :: xs, y :: ys, h, hx, hy, e => by
    have a := hx x (by simp)
    have b := hy y (by simp)
    simp only [val] at e
    generalize hp : val W xs = p at e
    generalize hq : val W ys = q at e
    have e1 : x = y := by unfold W at *; omega
    have e2 : p = q := by unfold W at *; omega
    subst e1
    rw [val_inj9 xs ys (by simpa using h) (fun z hz => hx z (by simp [hz])) (fun z hz => hy z (by simp [hz])) (by rw [hp, hq]; exact e2)]
/-- A copy: its slice, its digits. -/
structure Cpy where
  A : Option Addr
  n : Nat
  c : Nat
  xs : List Int
def kCp (base : Nat) : Kd Cpy := ⟨fun s => .slice s.A s.n s.c, fun w s => Mn 54 .u64 w base s.A s.n s.c s.xs, fun s b => BlN s.A s.n b, fun _ => rfl,
  fun {w s b} h ⟨a, e, _, eb⟩ => eb ▸ h.lt a e,
  fun {w w' s} h hs hb => ⟨h.len, h.nc, h.new, fun a ha => Nat.lt_of_lt_of_le (h.lt a ha) hs, fun hn => by
    obtain ⟨g, cur, e, hg, hc⟩ := h.row hn
    exact ⟨g, cur, e, (hb g ⟨_, e, hn, rfl⟩).trans hg, hc⟩⟩⟩
/-- A copy says what the scalar says. -/
structure CpS (s : Cpy) (n : Nat) (N : Int) : Prop where
  n40 : s.n ≤ 40
  len : s.n = n
  dig : Dig W s.xs
  val_ : val W s.xs = N
theorem CpS.nm {w : World} {base : Nat} {s : Cpy} {n : Nat} {N : Int} (h : CpS s n N) (hm : (kCp base).At w s) : Nm w s.A s.n s.c N :=
  ⟨⟨s.xs, Mn.rd hm, h.dig, h.val_⟩, Mn.nc hm, by have := h.n40; omega, h.val_ ▸ val_nonneg (by decide) h.dig⟩
/-- The list of copies, as a list of numbers. -/
theorem cps_ns {e : TypeId} {w : World} {base b2 : Nat} {v : Value} {n : Nat} {C : Nat → Cpy} {L : Nat → Nat} {N : Nat → Int} (h : Owg (kCp b2) e w base v n C) (h60 : n ≤ 17592186044416) (hs : ∀ u, u < n → CpS (C u) (L u) (N u)) :
    ∃ A c, v = .slice A n c ∧ (∀ a, A = some a → base ≤ a.block) ∧ Ns w A n c (fun j => ⟨(C j).A, (C j).n, (C j).c, N j⟩) := by
  obtain ⟨A, c, rfl, hnc, hb, hc⟩ := h.form
  refine ⟨A, c, rfl, hb, hnc, h60, fun hn => ?_, fun i hi => (hs i hi).nm (h.at_ i hi)⟩
  obtain ⟨g, eg, hl, hx⟩ := hc hn
  exact ⟨g, 0, eg, hl, fun i hi => by rw [Nat.zero_add]; exact hx i hi⟩
theorem Tn9.below9 {X : Nat → Prop} {a w0 w : World} (h : Tn9 X w0 w) (hb : Below a.heap.size a w0) (hX : ∀ b, X b → a.heap.size ≤ b) : Below a.heap.size a w :=
  ⟨h.os.trans hb.os, h.tape.trans hb.tape, h.output.trans hb.output, Nat.le_trans hb.size h.size, fun b hl => (h.block b (Nat.lt_of_lt_of_le hl hb.size) (fun hx => by have := hX b hx; omega)).trans (hb.block b hl)⟩
theorem Tn9.drewN {X : Nat → Prop} {w0 w : World} (h : Tn9 X w0 w) (n : Nat) : Tn9 X w0 (w.drewN n) := ⟨h.os, h.tape, h.output, h.size, h.block⟩
theorem Tn9.drew {X : Nat → Prop} {w0 w : World} (h : Tn9 X w0 w) : Tn9 X w0 w.drew := ⟨h.os, h.tape, h.output, h.size, h.block⟩
/-- The copies, turned up to t. -/
def StR (X : Nat → Prop) (C : Nat → Cpy) (k base : Nat) (w0 : World) (i : Value) (wr : World) : Prop :=
  ∃ t : Nat, t ≤ k ∧ i = .int .i64 t ∧ Tn9 X w0 wr ∧ ∀ j, t ≤ j → j < k → (kCp base).At wr (C j)
/-- The t'th, turned up to kk. -/
def SzR (X : Nat → Prop) (C : Nat → Cpy) (t k base : Nat) (w0 : World) (i : Value) (wr : World) : Prop :=
  ∃ (kk : Nat) (ys : List Int), kk ≤ (C t).n ∧ i = .int .i64 kk ∧ Tn9 X w0 wr ∧ Mn 54 .u64 wr base (C t).A (C t).n (C t).c ys ∧ ∀ j, t < j → j < k → (kCp base).At wr (C j)
theorem kcp_set9 {base : Nat} {w : World} {s : Cpy} (h : (kCp base).At w s) {g : Nat} (hg : ¬ BlN s.A s.n g) (i : Nat) (u : Value) : (kCp base).At (w.setCell ⟨g, i, none⟩ u) s :=
  (kCp base).stay h (by simp) fun b hb => heap_setCell_other w ⟨g, i, none⟩ b u (by rintro rfl; exact hg hb)
theorem same_cp9 {w : World} {base : Nat} {s : Cpy} {A' : Option Addr} {n c' : Nat} {N : Int} (h : (kCp base).At w s) (hs : CpS s n N) (h' : Nm w A' n c' N) :
    Calls Try.prog 16 #[.slice s.A s.n s.c, .slice A' n c'] w fun e w' => e = .returned (.bool true) ∧ ∃ q, w' = w.drewN q := by
  obtain ⟨⟨ys, h1, h2, h3⟩, -, h5, -⟩ := h'
  have e : s.xs = ys := val_inj9 _ _ (by rw [h1.len]; exact (Mn.len h).trans hs.len) hs.dig h2 (hs.val_.trans h3.symm)
  have hl := hs.len
  have r1 : Rd .u64 w s.A n s.xs := hl ▸ Mn.rd h
  rw [hl]
  exact same_yes (e ▸ r1) h1 h5
theorem Tn9.shs {X : Nat → Prop} {w0 w : World} {A : Option Addr} {n c : Nat} {T : Nat → Shr} (h : Tn9 X w0 w) (hs : Shs w0 A n c T) (hA : ∀ a, A = some a → ¬ X a.block) (hT : ∀ i, i < n → ∀ a, (T i).A = some a → ¬ X a.block) : Shs w A n c T :=
  ⟨hs.nc, hs.c60, fun hn => by
    obtain ⟨b, off, e, hl, hc⟩ := hs.ex hn
    exact ⟨b, off, e, Nat.lt_of_lt_of_le hl h.size, fun i hi => ⟨(h.cell hl (hA _ e)).trans (hc i hi).1, (h.cell hl (hA _ e)).trans (hc i hi).2⟩⟩,
   fun i hi => ⟨(hs.at_ i hi).1, Nm.stay (hs.at_ i hi).2 h.size fun b hb => h.block b (Nm.blt (hs.at_ i hi).2 hb) (by
     obtain ⟨a, ea, _, eb⟩ := hb
     exact eb ▸ hT i hi a ea)⟩⟩
theorem wgN_congr9 {Q y : Int} {x x' : Nat → Int} : ∀ n, (∀ i, i < n → x i = x' i) → wgN Q x y n = wgN Q x' y n
  | 0, _ => rfl
  | n + 1, h => by
    simp only [wgN]
    rw [wgN_congr9 n (fun i hi => h i (by omega)), h n (by omega)]
theorem cbN_congr9 {Q : Int} {x x' v v' : Nat → Int} {n : Nat} (hx : ∀ i, i < n → x i = x' i) (hv : ∀ i, i < n → v i = v' i) : ∀ m, m ≤ n → cbN Q x v n m = cbN Q x' v' n m
  | 0, _ => rfl
  | m + 1, h => by
    simp only [cbN]
    rw [cbN_congr9 hx hv m (by omega), hx m (by omega), hv m (by omega), wgN_congr9 n hx]
def BjY (q : Nat) (w : World) (i : Value) (wr : World) : Prop := ∃ j : Nat, j ≤ q ∧ i = .int .i64 j ∧ Below w.heap.size w wr
/-- The scalars and their copies, so far. -/
def SyR (Sa : Nat → Nsl) (k : Nat) (w : World) (v1 v2 i : Value) (wr : World) : Prop :=
  ∃ (t : Nat) (c : Nat → Nat) (C : Nat → Cpy), t ≤ k ∧ i = .int .i64 t ∧ Lst kNm 25 1 c wr w.heap.size v1 t (fun j => scN (Sa j)) ∧ Lst (kCp w.heap.size) 25 2 c wr w.heap.size v2 t C ∧
    (∀ u, u < t → CpS (C u) (scN (Sa u)).n (scN (Sa u)).N) ∧ (∀ i j b, i < t → j < t → BlN (C i).A (C i).n b → BlN (C j).A (C j).n b → i = j) ∧ Col wr c ∧ Old9 w c ∧ Below w.heap.size w wr
set_option maxHeartbeats 16000000 in
set_option maxRecDepth 100000 in
theorem shareStays_walk {w : World} (x : Int) (hx : -9223372036854775808 ≤ x ∧ x ≤ 9223372036854775807) {A : Option Addr} {na ca : Nat} {Sa : Nat → Nsl} (ha : Ns w A na ca Sa) (mo : Int) (hmo : -9223372036854775808 ≤ mo ∧ mo ≤ 9223372036854775807) :
    Calls Try.prog 6 #[.int .i64 x, .slice A na ca, .int .i64 mo] w (AnsV (.bool true) w) := by
  have HX := Lib.hid hx
  have HM := Lib.hid hmo
  have HA := Lib.hid ha
  have n60 := ha.c60
  have he0 := neq0_9
  have he1 := eq_nil9
  clear hx hmo ha
  go_enter Try.func6, Try.ntmps6
  go_wp2_with fail
  refine (up9_any _).mono ?_
  rintro e w1 ⟨rfl, b1⟩
  have B1 := Lib.hid b1
  clear b1
  go_wp2_with fail
  refine (known_any x HX.out w1).mono ?_
  rintro e w2 ⟨Ak, nk, ck, Ak', nk', ck', rfl, kg, b2⟩
  have B2 := Lib.hid (B1.out.trans (b2.mono B1.out.size))
  have KGG := Lib.hid kg
  clear kg b2
  go_wp2_with fail
  refine (kg_new (kix_lt x) KGG.out).mono ?_
  rintro e w3 ⟨b, d, rfl, gr, -, -, -, b3, -, -⟩
  have q1 := gp_eqY b
  have B3 := Lib.hid (B2.out.trans (b3.mono B2.out.size))
  have GR := Lib.hid gr
  clear gr b3 KGG B1 B2
  obtain ⟨k, hk⟩ : ∃ k, min na 5 = k := ⟨_, rfl⟩
  have KK := Lib.hid hk
  have k05 : k ≤ 5 := by omega
  clear hk
  go_upto_block 0 with fail
  go_cut [10, 11, 12] from 41 to 68 (fun v1 v2 i wx => ∃ (c : Nat → Nat) (C : Nat → Cpy), Lst kNm 25 1 c wx w3.heap.size v1 k (fun j => scN (Sa j)) ∧ Lst (kCp w3.heap.size) 25 2 c wx w3.heap.size v2 k C ∧
    (∀ u, u < k → CpS (C u) (scN (Sa u)).n (scN (Sa u)).N) ∧ (∀ i j b, i < k → j < k → BlN (C i).A (C i).n b → BlN (C j).A (C j).n b → i = j) ∧ Below w3.heap.size w3 wx)
  case first =>
    go_wp2_with fail
    go_loopw [10, 11, 12] (fun v1 v2 i wr => SyR Sa k w3 v1 v2 i wr) (fun _ _ i _ => k - (intOf i).toNat)
    case atStart => exact ⟨0, fun _ => 0, fun _ => ⟨none, 0, 0, []⟩, Nat.zero_le _, rfl, Lst.nil _ _ _ _ _ _ _, Lst.nil _ _ _ _ _ _ _, fun u h => absurd h (Nat.not_lt_zero u), fun i j b h => absurd h (Nat.not_lt_zero i), Col.none _, fun b _ => rfl, Below.refl _ _⟩
    case round =>
      obtain ⟨t, c, C, ht, rfl, hl1, hl2, hcs, hdi, hcol, hold, hbw⟩ := hrel
      have L1 := Lib.hid hl1
      have L2 := Lib.hid hl2
      have CS := Lib.hid hcs
      have DI := Lib.hid hdi
      have COL := Lib.hid hcol
      have OLD := Lib.hid hold
      have BW := Lib.hid hbw
      have BB := Lib.hid (B3.out.trans (hbw.mono B3.out.size))
      clear hl1 hl2 hcs hdi hcol hold hbw
      rcases Nat.lt_or_ge t k with hlt | hge
      · have hna : t < na := by have := KK.out; omega
        have htk : (t : Int) < (na : Int) := by omega
        have ht5 : (t : Int) < 5 := by omega
        obtain ⟨bA, oA, rfl, lA, hcA⟩ := HA.out.ex (by omega)
        have x1 := (BB.out.cell (p := ⟨bA, oA + t, none⟩) lA).trans (hcA t hna)
        have X0 := Lib.hid (And.intro lA (hcA t hna))
        have NA := Lib.hid (HA.out.at_ t hna)
        have nA := NA.out.nc
        clear hcA lA
        go_wp2_with fail
        refine (scalar_any (Sa t) wr nA).mono ?_
        rintro e wX ⟨rfl, rfl⟩
        clear x1
        have bx := below_al wr (.cells #[.slice (scN (Sa t)).A (scN (Sa t)).n (scN (Sa t)).c] 25)
        have WX := Lib.hid (BW.out.trans (bx.mono BW.out.size))
        have szA := WX.out.size
        have CA1 := Lib.hid (COL.out.below bx.size)
        have M1 := Lib.hid (L1.out.below bx)
        have M2 := Lib.hid (L2.out.below bx)
        have U1 := Lib.hid (show (wr.alloc (.cells #[.slice (scN (Sa t)).A (scN (Sa t)).n (scN (Sa t)).c] 25)).cell? ⟨wr.heap.size, 0, none⟩ = some (kNm.v (scN (Sa t))) from one_at9a wr _ _)
        have U2 := Lib.hid (show kNm.At (wr.alloc (.cells #[.slice (scN (Sa t)).A (scN (Sa t)).n (scN (Sa t)).c] 25)) (scN (Sa t)) from NA.out.scN.below (BB.out.trans (bx.mono BB.out.size)))
        have U3 := Lib.hid (show ∀ b, kNm.Bl (scN (Sa t)) b → c b = 0 from fun b hb => OLD.out b (Nat.lt_of_lt_of_le (NA.out.scN.blt hb) B3.out.size))
        clear bx
        go_wp2_with (at_builtin; refine wpList_lst rfl (.tmp 51) (.tmp 57) 22 rfl w3.heap.size 25 24 (.slice none 0 0) Try.underlying22 infoN9a rfl 1 c (by decide) CA1.out u10 t 1 (fun j => scN (Sa j)) (scN (Sa t)) rfl M1.out wr.heap.size rfl U1.out U2.out U3.out (by unfold maxLen; omega) (by omega) szA ?_)
        rintro v7 w7 c7 n1 hg sc cl7
        have R1 := Lib.hid (n1.congr9 (snoc_self9 (fun j => scN (Sa j)) t))
        have N2 := Lib.hid (M2.out.other hg M1.out.row (by decide) (by decide) sc)
        have OLD7 := Lib.hid (OLD.out.same sc szA)
        have COL7 := Lib.hid cl7
        have W7 := Lib.hid (WX.out.grown hg szA (fun g e => (M1.out.l.lt e).1))
        have BB7 := Lib.hid (B3.out.trans (W7.out.mono B3.out.size))
        clear n1 hg sc cl7 M1 M2 U1 U2 U3 CA1 szA
        obtain ⟨w8, hw8⟩ : ∃ w8, w7.alloc (.cells #[] 54) = w8 := ⟨_, rfl⟩
        have B78 := Lib.hid (show Below w7.heap.size w7 w8 from by rw [← hw8]; exact below_al _ _)
        have OW8 := Lib.hid (show w8.ownsRow w7.heap.size 54 1 (.slice (some ⟨w7.heap.size, 0, none⟩) 0 0) 0 (([] : List Int).map (Value.int .u64)) from by rw [← hw8]; exact World.ownsRow_lit w7 #[] 0 (Nat.le_refl _) (by unfold maxLen; omega) rfl)
        have BB8 := Lib.hid (BB7.out.trans (B78.out.mono BB7.out.size))
        have x1 := (BB8.out.cell (p := ⟨bA, oA + t, none⟩) X0.out.1).trans X0.out.2
        have N8 := Lib.hid (NA.out.scN.below BB8.out)
        obtain ⟨⟨xs, hrd, hdg, hvl⟩, -, -, -⟩ := N8.out
        have RD := Lib.hid hrd
        have DG := Lib.hid (And.intro hdg hvl)
        have S40 := scN_le (Sa t)
        have S8 := Lib.hid B78.out.size
        clear hrd hdg hvl
        go_wp2_with fail
        refine (scalar_any (Sa t) w8 nA).mono ?_
        rintro e wX ⟨rfl, rfl⟩
        clear x1
        have NN : (scN (Sa t)).n ≤ 8796093022208 := by omega
        go_wp2_with (at_builtin; refine wpList_cat _ rfl (.tmp 60) (.tmp 65) 25 rfl w7.heap.size 54 .u64 Try.underlying25 info62u (.slice (some ⟨w7.heap.size, 0, none⟩) 0 0) 0 [] rfl OW8.out (scN (Sa t)).A (scN (Sa t)).n (scN (Sa t)).c xs rfl RD.out (by omega) S8.out ?_)
        rintro v9 w9 hown hg9
        have hown2 : w9.ownsRow w7.heap.size 54 1 v9 (scN (Sa t)).n (xs.map (Value.int .u64)) := by simpa using hown
        have B79 := Lib.hid (show Below w7.heap.size w7 w9 from own_below B78.out OW8.out hg9 S8.out (Nat.le_refl _))
        obtain ⟨B9, c9, rfl, mn9⟩ := mn_own hown2
        have MN9 := Lib.hid mn9
        clear hown hg9 hown2 mn9 hw8
        have bx := below_al w9 (.cells #[.slice B9 (scN (Sa t)).n c9] 25)
        have B7X := Lib.hid (B79.out.trans (bx.mono B79.out.size))
        have WXB := Lib.hid (W7.out.trans (B7X.out.mono W7.out.size))
        have szB := WXB.out.size
        have CB1 := Lib.hid (COL7.out.below B7X.out.size)
        have P1 := Lib.hid (R1.out.below B7X.out)
        have P2 := Lib.hid (N2.out.below B7X.out)
        have U1 := Lib.hid (show (w9.alloc (.cells #[.slice B9 (scN (Sa t)).n c9] 25)).cell? ⟨w9.heap.size, 0, none⟩ = some ((kCp w3.heap.size).v ⟨B9, (scN (Sa t)).n, c9, xs⟩) from one_at9a w9 _ _)
        have U2 := Lib.hid (show (kCp w3.heap.size).At (w9.alloc (.cells #[.slice B9 (scN (Sa t)).n c9] 25)) ⟨B9, (scN (Sa t)).n, c9, xs⟩ from
          Mn.below ⟨MN9.out.len, MN9.out.nc, fun a ha => Nat.le_trans W7.out.size (MN9.out.new a ha), MN9.out.lt, MN9.out.row⟩ bx)
        have U3 := Lib.hid (show ∀ b, (kCp w3.heap.size).Bl ⟨B9, (scN (Sa t)).n, c9, xs⟩ b → c7 b = 0 from fun b ⟨a, ea, _, eb⟩ => COL7.out b (eb ▸ MN9.out.new a ea))
        clear bx
        go_wp2_with (at_builtin; refine wpList_lst rfl (.tmp 59) (.tmp 67) 22 rfl w3.heap.size 25 24 (.slice none 0 0) Try.underlying22 infoN9a rfl 2 c7 (by decide) CB1.out u11 t 1 C ⟨B9, (scN (Sa t)).n, c9, xs⟩ rfl P2.out w9.heap.size rfl U1.out U2.out U3.out (by unfold maxLen; omega) (by omega) szB ?_)
        rintro v11 w11 c11 n2 hg sc cl11
        have R2 := Lib.hid n2
        have E1 := Lib.hid (P1.out.other hg P2.out.row (by decide) (by decide) sc)
        have OLD8 := Lib.hid (OLD7.out.same sc szB)
        have COL8 := Lib.hid cl11
        have W8 := Lib.hid (WXB.out.grown hg szB (fun g e => (P2.out.l.lt e).1))
        clear n2 hg sc cl11 P1 P2 U1 U2 U3 CB1 szB
        go_wp2_with fail
        go_roundw
        case rel =>
          have CLT : ∀ j b, j < t → BlN (C j).A (C j).n b → b < w7.heap.size := fun j b hj hb => (kCp w3.heap.size).lt (N2.out.l.at_ j hj) hb
          refine ⟨t + 1, c11, _, by omega, by go_num, E1.out, R2.out, fun u hu => ?_, fun i j b hi hj h1 h2 => ?_, COL8.out, OLD8.out, W8.out⟩
          · rcases Nat.lt_or_ge u t with g | g
            · rw [snocG_lt g]; exact CS.out u g
            · obtain rfl : u = t := by omega
              rw [snocG_at]
              exact ⟨S40, rfl, DG.out.1, DG.out.2⟩
          · rcases Nat.lt_or_ge i t with g | g
            · rw [snocG_lt g] at h1
              rcases Nat.lt_or_ge j t with g' | g'
              · rw [snocG_lt g'] at h2; exact DI.out i j b g g' h1 h2
              · obtain rfl : j = t := by omega
                rw [snocG_at] at h2
                obtain ⟨a, ea, _, eb⟩ := h2
                have := MN9.out.new a ea
                have := CLT i b g h1
                omega
            · obtain rfl : i = t := by omega
              rw [snocG_at] at h1
              rcases Nat.lt_or_ge j i with g' | g'
              · rw [snocG_lt g'] at h2
                obtain ⟨a, ea, _, eb⟩ := h1
                have := MN9.out.new a ea
                have := CLT j b g' h2
                omega
              · omega
        case measure => simp [intOf]; omega
      · obtain rfl : t = k := by omega
        have KEY := KK.out
        rcases Nat.lt_or_ge t na with g | g
        · have d1 : decide ((t : Int) < (na : Int)) = true := by simp; omega
          have d2 : decide ((t : Int) < 5) = false := by simp; omega
          clear KEY
          go_wp2_with fail
          go_meet
          exact ⟨c, C, L1.out, L2.out, CS.out, DI.out, BW.out⟩
        · have d1 : decide ((t : Int) < (na : Int)) = false := by simp; omega
          clear KEY
          go_wp2_with fail
          go_meet
          exact ⟨c, C, L1.out, L2.out, CS.out, DI.out, BW.out⟩
  case rest =>
  obtain ⟨c, C, hl1, hl2, hcs, hdi, bw⟩ := hcut
  have L1 := Lib.hid hl1
  have L2 := Lib.hid hl2
  have CS := Lib.hid hcs
  have DI := Lib.hid hdi
  have B4 := Lib.hid bw
  clear hl1 hl2 hcs hdi bw
  obtain ⟨w4, hw4⟩ : ∃ w4, w4 = wc := ⟨_, rfl⟩
  subst hw4
  obtain ⟨z, hz⟩ : ∃ z : Int, (if mo < 0 then -(mo + 1) else mo) = z := ⟨_, rfl⟩
  have z0 : 0 ≤ z ∧ z ≤ 9223372036854775807 := by have := HM.out; rw [← hz]; split <;> omega
  have HZ := Lib.hid hz
  clear hz
  go_upto_if 70 with fail
  go_cut [2] from 71 to 73 (fun v wx => v = .int .i64 z ∧ w4 = wx)
  case first =>
    rcases Int.lt_or_le mo 0 with g3 | g3
    · have e3 : decide (mo < 0) = true := by simp; omega
      have e4 : IntKind.i64.wrap (mo + 1) = mo + 1 := IntWalk.i64_in _ (by have := HM.out; omega)
      have e5 : IntKind.i64.wrap (-(mo + 1)) = -(mo + 1) := IntWalk.i64_in _ (by have := HM.out; omega)
      have E6 := Lib.hid (show -(mo + 1) = z by rw [← HZ.out, if_pos g3])
      go_wp2_with fail
      go_meet
      exact ⟨by rw [E6.out], rfl⟩
    · have e3 : decide (mo < 0) = false := by simp; omega
      have E6 := Lib.hid (show mo = z by rw [← HZ.out, if_neg (by omega)])
      go_wp2_with fail
      go_meet
      exact ⟨by rw [E6.out], rfl⟩
  case rest =>
  obtain ⟨rfl, rfl⟩ := hcut
  obtain ⟨q, hq⟩ : ∃ q : Nat, 1 + z % 8 = (q : Int) := ⟨(1 + z % 8).toNat, by omega⟩
  have q18 : 1 ≤ q ∧ q ≤ 8 := by omega
  have Q18 := Lib.hid q18
  have e7 : z.tmod 8 = z % 8 := Int.tmod_eq_emod_of_nonneg z0.1
  have e8 : IntKind.i64.wrap (z % 8) = z % 8 := IntWalk.i64_in _ (by omega)
  have e9 : IntKind.i64.wrap (1 + z % 8) = (q : Int) := by rw [IntWalk.i64_in _ (by omega)]; exact hq
  obtain ⟨Ap, cp, rfl, hApn, nsp⟩ := L1.out.l.nsl (by omega)
  obtain ⟨Ao, co, rfl, hAon, nso⟩ := cps_ns L2.out.l (by omega) CS.out
  have NP := Lib.hid nsp
  have NO := Lib.hid nso
  have GW := Lib.hid (GR.out.below B4.out)
  have BB := Lib.hid (B3.out.trans (B4.out.mono B3.out.size))
  have DP := Lib.hid (show ∀ i, i < k → dl (scN (Sa i)).N ≤ 64 from fun i hi => (HA.out.at_ i (by have := KK.out; omega)).dlsc)
  have HAp := Lib.hid hApn
  have HAo := Lib.hid hAon
  clear nsp nso hApn hAon
  rcases Nat.eq_zero_or_pos k with g0 | g0
  · have d1 : ((k : Int) == 0) = true := by simp; omega
    go_wp2_with fail
    go_ret
    exact ⟨rfl, BB.out⟩
  have d1 : ((k : Int) == 0) = false := by simp; omega
  go_wp2_with fail
  clear e7 e8 e9 hq z0 d1
  refine (pdeal_ok GW.out NO.out g0 (by omega) DP.out q Q18.out.1 (by have := Q18.out; omega)).mono ?_
  rintro e w5 ⟨As, cs, T, Ac, cc, U, rfl, sh, sf, ns, cf, b5⟩
  have SH := Lib.hid sh
  have SF := Lib.hid sf
  have NS := Lib.hid ns
  have B45 := Lib.hid b5
  clear sh sf ns cf b5
  go_wp2_with fail
  obtain ⟨X, hX⟩ : ∃ X : Nat → Prop, X = fun b => ∃ i, i < k ∧ BlN (C i).A (C i).n b := ⟨_, rfl⟩
  have XB := Lib.hid (show ∀ b, X b → w3.heap.size ≤ b ∧ b < w4.heap.size ∧ c b = 0 from fun b hb => by
    rw [hX] at hb
    obtain ⟨i, hi, hb⟩ := hb
    have h0 := (kCp w3.heap.size).lt (L2.out.l.at_ i hi) hb
    have h1 := L2.out.con i hi b hb
    obtain ⟨a, ea, _, eb⟩ := hb
    exact ⟨eb ▸ (L2.out.l.at_ i hi).new a ea, h0, h1⟩)
  have XI := Lib.hid (show ∀ i b, i < k → BlN (C i).A (C i).n b → X b from fun i b hi hb => by rw [hX]; exact ⟨i, hi, hb⟩)
  clear hX
  obtain ⟨bO, oO, rfl, lO, hcO⟩ := NO.out.ex g0
  obtain ⟨bP, oP, rfl, lP, hcP⟩ := NP.out.ex g0
  have nXO := Lib.hid (show ¬ X bO from fun h => by have h1 := (XB.out bO h).2.2; have h2 := L2.out.row bO rfl; omega)
  have nXP := Lib.hid (show ¬ X bP from fun h => by have h1 := (XB.out bP h).2.2; have h2 := L1.out.row bP rfl; omega)
  have CO := Lib.hid hcO
  have CP := Lib.hid hcP
  have LO := Lib.hid lO
  have LP := Lib.hid lP
  have B35 := Lib.hid (B4.out.trans (B45.out.mono B4.out.size))
  have OCELL := Lib.hid (show ∀ W j, Tn9 X w5 W → j < k → W.cell? ⟨bO, oO + j, none⟩ = some (.slice (C j).A (C j).n (C j).c) from fun W j h hj =>
    (h.cell (Nat.lt_of_lt_of_le LO.out B45.out.size) nXO.out).trans ((B45.out.cell (p := ⟨bO, oO + j, none⟩) LO.out).trans (CO.out j hj)))
  have PCELL := Lib.hid (show ∀ W j, Tn9 X w5 W → j < k → W.cell? ⟨bP, oP + j, none⟩ = some (.slice (scN (Sa j)).A (scN (Sa j)).n (scN (Sa j)).c) from fun W j h hj =>
    (h.cell (Nat.lt_of_lt_of_le LP.out B45.out.size) nXP.out).trans ((B45.out.cell (p := ⟨bP, oP + j, none⟩) LP.out).trans (CP.out j hj)))
  have PNM := Lib.hid (show ∀ W j, Tn9 X w5 W → j < k → Nm W (scN (Sa j)).A (scN (Sa j)).n (scN (Sa j)).c (scN (Sa j)).N from fun W j h hj =>
    (HA.out.at_ j (by have := KK.out; omega)).scN.below (B3.out.trans ((h.below9 B35.out fun b hb => (XB.out b hb).1).mono B3.out.size)))
  have AT5 := Lib.hid (show ∀ j, j < k → (kCp w3.heap.size).At w5 (C j) from fun j hj => Mn.below (L2.out.l.at_ j hj) B45.out)
  clear hcO hcP lO lP
  go_loopw [16] (fun i wr => StR X C k w3.heap.size w5 i wr) (fun i _ => k - (intOf i).toNat)
  case atStart => exact ⟨0, Nat.zero_le _, rfl, Tn9.refl _ _, fun j _ hj => AT5.out j hj⟩
  case round =>
    obtain ⟨t, ht, rfl, htn, hat⟩ := hrel
    have TN := Lib.hid htn
    have AT := Lib.hid hat
    clear htn hat
    rcases Nat.lt_or_ge t k with hlt | hge
    · have c1 : (t : Int) < (k : Int) := by omega
      have v1 := OCELL.out wr.drew t TN.out.drew hlt
      have v2 := PCELL.out wr.drew t TN.out.drew hlt
      have v12 := And.intro v1 v2
      have A1 := Lib.hid (show (kCp w3.heap.size).At wr.drew (C t) from Mn.below (AT.out t (Nat.le_refl _) hlt) (Below.refl _ _).drew)
      have N1 := Lib.hid (PNM.out wr.drew t TN.out.drew hlt)
      have S1 := Lib.hid (CS.out t hlt)
      clear v1 v2
      go_wp2_with fail
      go_region_held3 (fun w' => w'.cell? ⟨bO, oO + t, none⟩ = some (.slice (C t).A (C t).n (C t).c) ∧ w'.cell? ⟨bP, oP + t, none⟩ = some (.slice (scN (Sa t)).A (scN (Sa t)).n (scN (Sa t)).c)) (first | exact v12 | exact h12 | go_keep | assumption)
        (first | (go_at_call 16; (with_reducible refine (same_cp9 A1.out S1.out N1.out).mono ?_); rintro e wS ⟨rfl, qj, rfl⟩; have h12 := v12))
      all_goals
        clear v12 h12
        go_wp2_with fail
        go_loopw [18] (fun i wr => SzR X C t k w3.heap.size w5 i wr) (fun i _ => (C t).n - (intOf i).toNat)
        case atStart => exact ⟨0, (C t).xs, Nat.zero_le _, rfl, TN.out.drewN _, Mn.below (AT.out t (Nat.le_refl _) hlt) (below_drewN (Below.refl _ _) _), fun j h1 h2 => Mn.below (AT.out j (by omega) h2) (below_drewN (Below.refl _ _) _)⟩
        case round =>
          obtain ⟨kk, ys, hkk, rfl, htz, hmn, haz⟩ := hrel
          have TZ := Lib.hid htz
          have AZ := Lib.hid haz
          have MZ := Lib.hid hmn
          have x1 := OCELL.out wr t TZ.out hlt
          have c40 := S1.out.n40
          clear htz haz hmn
          rcases Nat.lt_or_ge kk (C t).n with hkn | hkn
          · have c2 : (kk : Int) < ((C t).n : Int) := by omega
            obtain ⟨g, eA, -, -⟩ := MZ.out.at09 (by omega)
            have mn2 := MZ.out
            rw [eA] at mn2
            have M2 := Lib.hid mn2
            have y1 := mn2.cell9 hkn
            have f1 := mn2.frozen9 hkn
            have XG := Lib.hid (XI.out t g hlt ⟨_, eA, by omega, rfl⟩)
            have NG := Lib.hid (show ∀ j, t < j → j < k → ¬ BlN (C j).A (C j).n g from fun j h1 h2 hb => by
              have := DI.out t j g hlt h2 ⟨_, eA, by omega, rfl⟩ hb
              omega)
            have EA := Lib.hid eA
            rw [eA] at x1
            clear mn2 eA
            go_wp2_with fail
            go_region
            all_goals
              go_wp2_with fail
              go_roundw
              case rel => exact ⟨kk + 1, _, by omega, by go_num, (TZ.out.set XG.out kk _).drew, (by rw [EA.out]; exact (M2.out.set9 hkn _).below (Below.refl _ _).drew), fun j h1 h2 => Mn.below (kcp_set9 (AZ.out j h1 h2) (NG.out j h1 h2) _ _) (Below.refl _ _).drew⟩
              case measure => simp [intOf]; omega
          · obtain rfl : kk = (C t).n := by omega
            have c2 : decide (((C t).n : Int) < ((C t).n : Int)) = false := by simp
            go_wp2_with fail
            go_roundw
            case rel => exact ⟨t + 1, by omega, by go_num, TZ.out, fun j h1 h2 => AZ.out j (by omega) h2⟩
            case measure => simp [intOf]; omega
    · obtain rfl : t = k := by omega
      have c1 : decide ((t : Int) < (t : Int)) = false := by simp
      go_wp2_with fail
      clear c1
      have B3r := Lib.hid (show Below w3.heap.size w3 wr from TN.out.below9 B35.out fun b hb => (XB.out b hb).1)
      have BBr := Lib.hid (B3.out.trans (B3r.out.mono B3.out.size))
      have GWr := Lib.hid (GR.out.below B3r.out)
      have NPr := Lib.hid (show Ns wr (some ⟨bP, oP, none⟩) t cp (fun j => scN (Sa j)) from ⟨NP.out.nc, NP.out.c60, fun _ => ⟨bP, oP, rfl, Nat.lt_of_lt_of_le LP.out (Nat.le_trans B45.out.size TN.out.size), fun i hi => PCELL.out wr i TN.out hi⟩, fun i hi => PNM.out wr i TN.out hi⟩)
      have SHr := Lib.hid (TN.out.shs SH.out.sh (fun a ea hx => by have := SH.out.top a ea; have := (XB.out _ hx).2.1; omega) (fun i hi a ea hx => by have := SH.out.els i hi a ea; have := (XB.out _ hx).2.1; omega))
      refine (pdeal_ok GWr.out NPr.out g0 (by omega) DP.out q Q18.out.1 (by have := Q18.out; omega)).mono ?_
      rintro e w6 ⟨As2, cs2, T2, Ac2, cc2, U2, rfl, sh2, sf2, -, -, b6⟩
      have SH2 := Lib.hid sh2.sh
      have SH1 := Lib.hid (SHr.out.below b6)
      have BR6 := Lib.hid b6
      have VE := Lib.hid (show ∀ u, u < q → (T u).N = (T2 u).N ∧ (T u).I = (T2 u).I from fun u hu => ⟨by rw [(SF.out u hu).2.1, (sf2 u hu).2.1], by rw [(SF.out u hu).1, (sf2 u hu).1]⟩)
      have LE := Lib.hid (show ∀ u, u < q → (T u).n = dl (T u).N ∧ (T2 u).n = dl (T2 u).N from fun u hu => ⟨(SF.out u hu).2.2, (sf2 u hu).2.2⟩)
      have SAFE := Lib.hid GWr.out.safe
      have Q5 := Lib.hid GWr.out.q255
      have PLS := Lib.hid (show ∀ T' : Nat → Shr, (∀ u, u < q → (T' u).I = (u : Int) + 1) → PlsI d.Q (fun i => (T' i).I) q from fun T' h' => ⟨Q18.out.1, by have := Q18.out; omega, Q5.out, fun i hi => by
          show PlI (T' i).I
          rw [h' i hi]; exact ⟨by omega, by have := Q18.out; omega⟩, fun i i' hi hi' e => by
          have e1 : (T' i').I = (T' i).I := e
          rw [h' i hi, h' i' (by omega)] at e1
          omega⟩)
      have LT := Lib.hid (show ∀ u, u < q → dl (T u).N ≤ 64 ∧ dl (T2 u).N ≤ 64 from fun u hu => by
        have h1 : dl (T u).N ≤ dl d.Q := by
          rw [(SF.out u hu).2.1]
          exact dl_mono (vlN_rng SAFE.out.q1 t).1 (vlN_rng SAFE.out.q1 t).2
        have h2 := GWr.out.lq
        rw [← (VE.out u hu).1]
        omega)
      have CC1 := Lib.hid (show cbC d.Q T q = 0 from cbC_ok (PLS.out T fun u hu => (SF.out u hu).1) fun u hu => (LT.out u hu).1)
      have CC2 := Lib.hid (show cbC d.Q T2 q = 0 from cbC_ok (PLS.out T2 fun u hu => (sf2 u hu).1) fun u hu => (LT.out u hu).2)
      have CE := Lib.hid (show cbN d.Q (fun i => (T i).I) (fun i => (T i).N) q q = cbN d.Q (fun i => (T2 i).I) (fun i => (T2 i).N) q q from cbN_congr9 (fun i hi => (VE.out i hi).2) (fun i hi => (VE.out i hi).1) q (Nat.le_refl _))
      have ne1 : ((q : Int) != (q : Int)) = false := by simp
      have ne2 : ((t : Int) != (t : Int)) = false := by simp
      have Q1k : q ≤ 1000 := by have := Q18.out; omega
      clear sh2 sf2 b6 PLS LT OCELL PCELL PNM AT5 SHr
      go_wp2_with fail
      clear ne1 ne2
      refine (pcomb_any (GWr.out.below BR6.out) SH1.out Q1k).mono ?_
      rintro e w7 h7
      obtain ⟨D7, m7, c7, rfl, k7, b7, -⟩ := Or.elim h7 (fun h => h.2) (fun h => absurd CC1.out h.1)
      have K7 := Lib.hid k7
      have B67 := Lib.hid b7
      have BR7 := Lib.hid (BR6.out.trans (b7.mono BR6.out.size))
      have SH17 := Lib.hid (SH1.out.below b7)
      have SH27 := Lib.hid (SH2.out.below b7)
      clear h7 k7 b7
      go_wp2_with fail
      go_loopw [24] (fun i wr => BjY q w7 i wr) (fun i _ => q - (intOf i).toNat)
      case atStart => exact ⟨0, Nat.zero_le _, rfl, Below.refl _ _⟩
      case round =>
        obtain ⟨j, hj, rfl, hbw⟩ := hrel
        have HBJ := Lib.hid hbw
        clear hbw
        rcases Nat.lt_or_ge j q with hlt | hge
        · have hjq : (j : Int) < (q : Int) := by omega
          have j255 : j < 255 := by have := Q18.out; omega
          obtain ⟨g1, o1, rfl, lg1, hc1⟩ := SH17.out.ex (by omega)
          obtain ⟨g2, o2, rfl, lg2, hc2⟩ := SH27.out.ex (by omega)
          have BDJ := Lib.hid (show Below w7.heap.size w7 wr.drew from HBJ.out.trans (((Below.refl _ _).drew).mono (Nat.le_refl _)))
          have v1 := (BDJ.out.cell (p := ⟨g1, o1 + j * 2 + 1, none⟩) lg1).trans (hc1 j hlt).2
          have v2 := (BDJ.out.cell (p := ⟨g2, o2 + j * 2 + 1, none⟩) lg2).trans (hc2 j hlt).2
          have v3 := (BDJ.out.cell (p := ⟨g1, o1 + j * 2, none⟩) lg1).trans (hc1 j hlt).1
          have v4 := (BDJ.out.cell (p := ⟨g2, o2 + j * 2, none⟩) lg2).trans (hc2 j hlt).1
          have v12 := And.intro v1 (And.intro v2 (And.intro v3 v4))
          have K1 := Lib.hid (((SH17.out.at_ j hlt).2.cn9 (LE.out j hlt).1).below BDJ.out)
          have K2 := Lib.hid (((SH27.out.at_ j hlt).2.cn9 (LE.out j hlt).2).below BDJ.out)
          have VJ := Lib.hid (VE.out j hlt).1
          have eI : ((T j).I == (T2 j).I) = true := by rw [(VE.out j hlt).2]; simp
          clear hc1 hc2 v1 v2 v3 v4
          go_wp2_with fail
          go_region_held3 (fun w' => w'.cell? ⟨g1, o1 + j * 2 + 1, none⟩ = some (.slice (T j).A (T j).n (T j).c) ∧ w'.cell? ⟨g2, o2 + j * 2 + 1, none⟩ = some (.slice (T2 j).A (T2 j).n (T2 j).c) ∧ w'.cell? ⟨g1, o1 + j * 2, none⟩ = some (.int .i64 (T j).I) ∧ w'.cell? ⟨g2, o2 + j * 2, none⟩ = some (.int .i64 (T2 j).I)) (first | exact v12 | exact h12 | go_keep | assumption)
            (first | (go_at_call 16; (with_reducible refine (same9 K1.out K2.out VJ.out).mono ?_); rintro e wS ⟨rfl, qj, rfl⟩; have h12 := v12))
          all_goals
            clear v12 h12
            go_wp2_with fail
            go_roundw
            case rel => exact ⟨j + 1, by omega, by go_num, below_drewN HBJ.out _⟩
            case measure => simp [intOf]; omega
        · obtain rfl : j = q := by omega
          have hjq : decide ((j : Int) < (j : Int)) = false := by simp
          have BR8 := Lib.hid (BR7.out.trans (HBJ.out.mono BR7.out.size))
          go_wp2_with fail
          clear hjq
          refine (pcomb_any (GWr.out.below BR8.out) (SH27.out.below HBJ.out) Q1k).mono ?_
          rintro e w9 h9
          obtain ⟨D9, m9, c9, rfl, k9, b9, -⟩ := Or.elim h9 (fun h => h.2) (fun h => absurd CC2.out h.1)
          have K9 := Lib.hid k9
          have K79 := Lib.hid (K7.out.below (HBJ.out.trans (b9.mono HBJ.out.size)))
          have BR9 := Lib.hid (BR8.out.trans (b9.mono BR8.out.size))
          clear h9 k9 b9
          go_wp2_with fail
          refine (same9 K79.out K9.out CE.out).mono ?_
          rintro e wS ⟨rfl, qq, rfl⟩
          go_wp2_with fail
          go_ret
          exact ⟨rfl, below_drewN (BBr.out.trans (BR9.out.mono BBr.out.size)) _⟩
end Go.Proofs.Ytkecfdeepmhggaa
