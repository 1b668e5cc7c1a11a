/-
  The helpers of layer 7's laws: at, scalars, elements; treenailref07.Same of two letters that are alike.
-/
import Derived.Test.YtpmnghealjgkeaaGreatMxx
import Derived.Test.YtpmnghealjgkeaaGreatPm0
import Derived.Test.YtpmnghealjgkeaaGreatPm1
import Derived.Test.YtpmnghealjgkeaaGreatPkf
namespace Go.Proofs.YtpmnghealjgkeaaGreat
open Go.RowKit
set_option linter.unusedVariables false
/-! ### Numbers, cut -/
theorem Nm.take {w : World} {A : Option Addr} {n c : Nat} {N : Int} (h : Nm w A n c N) {m : Nat} (hm : m ≤ n) : Nm w A m c (N % W ^ m) := by
  obtain ⟨⟨xs, h1, h2, h3⟩, h4, h5, h6⟩ := h
  have hl := h1.len
  have ht : (xs.take m).length = m := by rw [List.length_take]; omega
  have hd : Dig W (xs.take m) := fun x hx => h2 x (List.mem_of_mem_take hx)
  have hv : val W (xs.take m) = N % W ^ m := by
    have e := val_append W (xs.take m) (xs.drop m)
    rw [List.take_append_drop, ht, h3] at e
    have b1 := val_lt (b := W) (by decide) hd
    rw [ht] at b1
    rw [e, Int.add_mul_emod_self_left]
    exact (Int.emod_eq_of_lt (val_nonneg (by decide) hd) b1).symm
  exact ⟨⟨xs.take m, h1.take hm, hd, hv⟩, by omega, by omega, hv ▸ val_nonneg (by decide) hd⟩
theorem Nm.small {w : World} {A : Option Addr} {n c : Nat} {N : Int} (h : Nm w A n c N) {m : Nat} (hm : n ≤ m) : N % W ^ m = N :=
  Int.emod_eq_of_lt h.pos (lt_dl h.pos (Nat.le_trans h.dl_le hm))
/-- A list's numbers, round and round, of 40 digits at most; 1 where there are none. -/
def atN (S : Nat → Nsl) (n i : Nat) : Int := if n = 0 then 1 else (S (i % n)).N % W ^ 40
theorem W40_pos : (0 : Int) < W ^ 40 := Int.pow_pos (by decide)
theorem dl_cut {N : Int} (h : 0 ≤ N) (m : Nat) : dl (N % W ^ m) ≤ m := dl_le (Int.emod_nonneg _ (by have : (0 : Int) < W ^ m := Int.pow_pos (by decide); omega)) (Int.emod_lt_of_pos _ (Int.pow_pos (by decide)))
/-- A number of at most 40 digits, that lies in old memory or in new. -/
def AtP (N : Int) (base : Nat) (w : World) (e : Ending) (w' : World) : Prop :=
  ∃ A n c, e = .returned (.slice A n c) ∧ Nm w' A n c N ∧ n ≤ 40 ∧ (∀ a, A = some a → 0 < n → a.block < base ∨ w.heap.size ≤ a.block) ∧ Below w.heap.size w w'
section
variable {w : World} {A : Option Addr} {n c : Nat} {S : Nat → Nsl}
set_option maxHeartbeats 2000000 in
theorem at7_any (hl : Ns w A n c S) {base : Nat} (hb : ∀ i, i < n → ∀ a, (S i).A = some a → 0 < (S i).n → a.block < base) (i : Nat) (hi : i ≤ 1000000) :
    Calls Tryz.prog 35 #[.slice A n c, .int .i64 i] w (AtP (atN S n i) base w) := by
  have h60 := hl.c60
  rcases Nat.eq_zero_or_pos n with g | g
  · subst g
    have hr := Row.new w 78 .u64 [1]
    have HR := Lib.hid hr
    clear hl hb hr
    go_enter Tryz.func35, Tryz.ntmps35
    go_wp2_with fail
    go_ret
    exact ⟨_, _, _, rfl, show Nm _ _ _ _ (1 : Int) from Nm.one HR.out (by decide) (by decide) (Nat.le_refl _) (by omega), by omega, fun a ha _ => .inr (by injection ha with ha; subst ha; exact Nat.le_refl _), below_al _ _⟩
  · obtain ⟨b, off, rfl, hlt, hc⟩ := hl.ex g
    obtain ⟨j, hj⟩ : ∃ j, i % n = j := ⟨_, rfl⟩
    have hjn : j < n := by rw [← hj]; exact Nat.mod_lt _ g
    have hcj := hc j hjn
    have e0 : ((n : Int) == 0) = false := by simp; omega
    have e1 : ¬ (n : Int) = 0 := by omega
    have e2 : ((i : Int)).tmod (n : Int) = (j : Int) := by rw [Int.tmod_eq_emod_of_nonneg (by omega), ← hj]; exact (Int.natCast_emod i n).symm
    have e3 : IntKind.i64.wrap (j : Int) = (j : Int) := IntWalk.i64_in _ (by omega)
    have e4 : (j : Int) < (n : Int) := by omega
    have e5 : ¬ n = 0 := by omega
    have HN := Lib.hid (hl.at_ j hjn)
    have HB := Lib.hid (hb j hjn)
    have HA := Lib.hid (show atN S n i = (S j).N % W ^ 40 by unfold atN; rw [if_neg e5, hj])
    obtain ⟨s, hs⟩ : ∃ s, S j = s := ⟨_, rfl⟩
    rw [hs] at hcj HN HB HA
    obtain ⟨Aj, nj, cj, Nj⟩ := s
    simp only at hcj HN HB HA
    clear hl hb hc hj hs e5
    rcases Nat.lt_or_ge 40 nj with g2 | g2
    · have e6 : decide ((40 : Int) < (nj : Int)) = true := by simp; omega
      have hnc : 40 ≤ cj := by have := HN.out.nc; omega
      have hnc2 : (40 : Int) ≤ (cj : Int) := by omega
      go_enter Tryz.func35, Tryz.ntmps35
      go_wp2_with fail
      go_ret
      exact ⟨Aj, 40, cj, rfl, by rw [HA.out]; exact HN.out.take (by omega), by omega, fun a ha _ => .inl (HB.out a ha (by omega)), Below.refl _ _⟩
    · have e6 : decide ((40 : Int) < (nj : Int)) = false := by simp; omega
      go_enter Tryz.func35, Tryz.ntmps35
      go_wp2_with fail
      go_ret
      exact ⟨Aj, nj, cj, rfl, by rw [HA.out, HN.out.small g2]; exact HN.out, g2, fun a ha h0 => .inl (HB.out a ha h0), Below.refl _ _⟩
/-! ### scalars -/
theorem info_nat24 : (Tryz.prog.info? 23).map (fun i => (i.zero, i.size, i.bytes)) = some (some (.slice none 0 0), 1, 24) := by kernel_rfl
/-- A list of numbers of at most 40 digits each, that lie in old memory or in new. -/
def ScP (F : Nat → Int) (k base : Nat) (w : World) (e : Ending) (w' : World) : Prop :=
  ∃ A c S', e = .returned (.slice A k c) ∧ Ns w' A k c S' ∧ (∀ j, j < k → (S' j).N = F j ∧ (S' j).n ≤ 40 ∧ ∀ a, (S' j).A = some a → 0 < (S' j).n → a.block < base ∨ w.heap.size ≤ a.block) ∧ (∀ a, A = some a → w.heap.size ≤ a.block) ∧ Below w.heap.size w w'
def ScR (F : Nat → Int) (k base : Nat) (w : World) (v i : Value) (wr : World) : Prop :=
  ∃ (j : Nat) (S' : Nat → Nsl), j ≤ k ∧ i = .int .i64 j ∧ Owc 23 1 wr w.heap.size v j S' ∧ (∀ p, p < j → (S' p).N = F p ∧ (S' p).n ≤ 40 ∧ ∀ a, (S' p).A = some a → 0 < (S' p).n → a.block < base ∨ w.heap.size ≤ a.block) ∧ Below w.heap.size w wr
theorem one_cell (w : World) (t : TypeId) (A : Option Addr) (n c : Nat) (N : Int) : ∀ i, i < 1 * 1 → (w.alloc (.cells #[.slice A n c] t)).cell? ⟨w.heap.size, i, none⟩ = some (.slice A n c) := by
  intro i hi
  obtain rfl : i = 0 := by omega
  simp [World.cell?_alloc_at]
theorem joinS_one {S U : Nat → Nsl} {j : Nat} : joinS S U j j = U 0 := joinS_ge (S := S) (U := U) (m := j) (i := 0)
theorem joinS_old {S U : Nat → Nsl} {j p : Nat} (h : p < j) : joinS S U j p = S p := joinS_lt h
set_option maxHeartbeats 4000000 in
set_option maxRecDepth 100000 in
theorem scalars_any (hl : Ns w A n c S) {base : Nat} (hb : ∀ i, i < n → ∀ a, (S i).A = some a → 0 < (S i).n → a.block < base) (hbase : base ≤ w.heap.size) (i k : Nat) (hi : i ≤ 1000) (hk : k ≤ 1000) :
    Calls Tryz.prog 37 #[.slice A n c, .int .i64 i, .int .i64 k] w (ScP (fun j => atN S n (i + j)) k base w) := by
  have HL := Lib.hid hl
  have HB := Lib.hid hb
  clear hl hb
  go_enter Tryz.func37, Tryz.ntmps37
  go_wp2_with fail
  go_loopw [7, 8] (fun v t wr => ScR (fun j => atN S n (i + j)) k base w v t wr) (fun _ t _ => k - (intOf t).toNat)
  case atStart => exact ⟨0, fun _ => ⟨none, 0, 0, 0⟩, Nat.zero_le _, rfl, Owc.nil _ _ _ _ _, fun p hp => absurd hp (Nat.not_lt_zero p), Below.refl _ _⟩
  case round =>
    obtain ⟨j, S', hj, rfl, hown, hS, hbl⟩ := hrel
    have HO := Lib.hid hown
    have HS := Lib.hid hS
    have HBL := Lib.hid hbl
    clear hown hS hbl
    rcases Nat.lt_or_ge j k with hlt | hge
    · have hjk : (j : Int) < (k : Int) := by omega
      have e1 : IntKind.i64.wrap ((i : Int) + (j : Int)) = ((i + j : Nat) : Int) := by rw [IntWalk.i64_in _ (by omega)]; omega
      go_wp2_with fail
      refine (at7_any (HL.out.below HBL.out) HB.out (i + j) (by omega)).mono ?_
      rintro e w4 ⟨A4, n4, c4, rfl, hn4, h40, hloc, hb4⟩
      have s0 := HBL.out.size
      have s4 := hb4.size
      have HN4 := Lib.hid hn4
      have HLO := Lib.hid hloc
      have HB4 := Lib.hid hb4
      clear hn4 hloc hb4 e1
      have U1 := Lib.hid (one_cell w4 23 A4 n4 c4 (atN S n (i + j)))
      have U2 := Lib.hid (show ∀ q, q < 1 * 1 → Nm (w4.alloc (.cells #[.slice A4 n4 c4] 23)) A4 n4 c4 (atN S n (i + j)) from fun q _ => HN4.out.below (below_al _ _))
      have U3 := Lib.hid (show ∀ q, q < 1 * 1 → ∀ a, A4 = some a → 0 < n4 → u7.ownBlock ≠ some a.block from fun q _ a ha h0 => by
        rcases HLO.out a ha h0 with g | g
        · exact HO.out.old (by omega)
        · exact HO.out.far g)
      go_wp2_with (at_builtin; refine wpList_owc rfl (.tmp 14) (.tmp 20) 24 rfl w.heap.size 23 1 24 (.slice none 0 0) Tryz.underlying24 info_nat24 rfl (by decide) _ j 1 1 S' (fun _ => ⟨A4, n4, c4, atN S n (i + j)⟩) rfl ((HO.out.below HB4.out).below (below_al _ _)) w4.heap.size rfl U1.out U2.out U3.out (by decide) (by unfold maxLen; omega) (by omega) (by simp; omega) ?_)
      rintro v' w5 hown5 hg5
      have hb5 : Below w.heap.size w w5 := ((HBL.out.trans (HB4.out.mono s0)).alloc (by omega) _).grown hg5 (by simp; omega) (fun b e => (HO.out.lt e).1)
      have HO5 := Lib.hid hown5
      have HB5 := Lib.hid hb5
      clear hown5 hg5 hb5
      go_wp2_with fail
      go_roundw
      case rel =>
        refine ⟨j + 1, _, by omega, by go_num, HO5.out, fun p hp => ?_, HB5.out⟩
        rcases Nat.lt_or_ge p j with g | g
        · rw [joinS_old g]; exact HS.out p g
        · obtain rfl : p = j := by omega
          rw [joinS_one]
          exact ⟨rfl, h40, fun a ha h0 => (HLO.out a ha h0).imp_right (Nat.le_trans s0)⟩
      case measure => simp [intOf]; omega
    · obtain rfl : j = k := by omega
      have hjk : decide ((j : Int) < (j : Int)) = false := by simp
      obtain ⟨A1, c1, rfl, hnew, hns⟩ := HO.out.ns (by omega)
      have HNS := Lib.hid hns
      have HNW := Lib.hid hnew
      clear hns hnew
      go_wp2_with fail
      go_ret
      exact ⟨A1, c1, S', rfl, HNS.out, HS.out, HNW.out, HBL.out⟩
/-! ### elements -/
/-- What elements answers: powers of G. -/
def EleP (F : Nat → Int) (q : Nat) (w : World) (e : Ending) (w' : World) : Prop :=
  ∃ A c S', e = .returned (.tuple #[.slice A q c, .bool true]) ∧ Ns w' A q c S' ∧ CanS S' q ∧ (∀ j, j < q → (S' j).N = F j ∧ ∀ a, (S' j).A = some a → w.heap.size ≤ a.block) ∧ (∀ a, A = some a → w.heap.size ≤ a.block) ∧ Below w.heap.size w w'
def EleR (F : Nat → Int) (q : Nat) (w : World) (v i : Value) (wr : World) : Prop :=
  ∃ (j : Nat) (S' : Nat → Nsl), j ≤ q ∧ i = .int .i64 j ∧ Owc 23 1 wr w.heap.size v j S' ∧ CanS S' j ∧ (∀ p, p < j → (S' p).N = F p ∧ ∀ a, (S' p).A = some a → w.heap.size ≤ a.block) ∧ Below w.heap.size w wr
/-- Power of G of a cut number. -/
def elN (P Q G : Int) (S : Nat → Nsl) (j : Nat) : Int := gx P Q G ((S j).N % W ^ 40)
set_option maxHeartbeats 8000000 in
set_option maxRecDepth 100000 in
theorem elements_any {b : Nat} {d : Gd} (h : Gr w b d) (hl : Ns w A n c S) (m : Nat) (hm : m ≤ 1000) :
    Calls Tryz.prog 32 #[.pointer (some ⟨b, 0, none⟩), .slice A n c, .int .i64 m] w (EleP (elN d.P d.Q d.G S) (min n m) w) := by
  have HG := Lib.hid h
  have HL := Lib.hid hl
  have hc60 := hl.c60
  have HSF := Lib.hid h.safe
  have HEL := Lib.hid h.el
  have he0 : ∀ w : World, (binOp .neq 35 .nilIface .nilIface).run Tryz.prog w = .ok (.bool false) w := fun _ => rfl
  obtain ⟨q, hq⟩ : ∃ q, min n m = q := ⟨_, rfl⟩
  rw [hq]
  have hqn : q ≤ n := by omega
  have hqm : q ≤ m := by omega
  have HQ := Lib.hid hq
  clear h hl hq
  go_enter Tryz.func32, Tryz.ntmps32
  go_wp2_with fail
  go_loopw [8, 9] (fun v t wr => EleR (elN d.P d.Q d.G S) q w v t wr) (fun _ t _ => q - (intOf t).toNat)
  case atStart => exact ⟨0, fun _ => ⟨none, 0, 0, 0⟩, Nat.zero_le _, rfl, Owc.nil _ _ _ _ _, fun p hp => absurd hp (Nat.not_lt_zero p), fun p hp => absurd hp (Nat.not_lt_zero p), Below.refl _ _⟩
  case round =>
    obtain ⟨j, S', hj, rfl, hown, hcan, hS, hbl⟩ := hrel
    have HO := Lib.hid hown
    have HC := Lib.hid hcan
    have HS := Lib.hid hS
    have HBL := Lib.hid hbl
    clear hown hcan hS hbl
    rcases Nat.lt_or_ge j q with hlt | hge
    · have hjn : (j : Int) < (n : Int) := by omega
      have hjm : (j : Int) < (m : Int) := by omega
      obtain ⟨b0, off, eA, hlt0, hcc⟩ := (HL.out.below HBL.out).ex (by omega)
      subst eA
      have hcj := hcc j (by omega)
      have HN := Lib.hid ((HL.out.below HBL.out).at_ j (by omega))
      have HE := Lib.hid (show elN d.P d.Q d.G S j = gx d.P d.Q d.G ((S j).N % W ^ 40) from rfl)
      obtain ⟨s, hs⟩ : ∃ s, S j = s := ⟨_, rfl⟩
      rw [hs] at hcj HN HE
      obtain ⟨Aj, nj, cj, Nj⟩ := s
      simp only at hcj HN HE
      clear hcc hs
      go_upto_if 30 with fail
      go_cut [10] (fun v wx => (∃ n', v = .slice Aj n' cj ∧ Nm wr Aj n' cj (Nj % W ^ 40) ∧ n' ≤ 40) ∧ wr = wx)
      case first =>
        rcases Nat.lt_or_ge 40 nj with g2 | g2
        · have e6 : decide ((40 : Int) < (nj : Int)) = true := by simp; omega
          have hnc : 40 ≤ cj := by have := HN.out.nc; omega
          have hnc2 : (40 : Int) ≤ (cj : Int) := by omega
          go_wp2_with fail
          go_meet
          exact ⟨⟨40, rfl, HN.out.take (by omega), by omega⟩, rfl⟩
        · have e6 : decide ((40 : Int) < (nj : Int)) = false := by simp; omega
          go_wp2_with fail
          go_meet
          exact ⟨⟨nj, rfl, by rw [HN.out.small g2]; exact HN.out, g2⟩, rfl⟩
      case rest =>
        obtain ⟨⟨n', rfl, hn', h40⟩, rfl⟩ := hcut
        have HN' := Lib.hid hn'
        have ly : dl (Nj % W ^ 40) ≤ 64 := by have := hn'.dl_le; omega
        clear hn' HN hcj
        go_wp2_with fail
        refine (base_gx (HG.out.below HBL.out) HN'.out ly).mono ?_
        rintro e w4 ⟨B, nb', cb, rfl, hcn, hb4, hnw⟩
        have s0 := HBL.out.size
        have s4 := hb4.size
        have HC4 := Lib.hid hcn
        have HB4 := Lib.hid hb4
        have HNW := Lib.hid hnw
        have HLEN := Lib.hid hcn.len_
        clear hcn hb4 hnw
        have U1 := Lib.hid (one_cell w4 23 B nb' cb (gx d.P d.Q d.G (Nj % W ^ 40)))
        have U2 := Lib.hid (show ∀ q, q < 1 * 1 → Nm (w4.alloc (.cells #[.slice B nb' cb] 23)) B nb' cb (gx d.P d.Q d.G (Nj % W ^ 40)) from fun q _ => HC4.out.nm.below (below_al _ _))
        have U3 := Lib.hid (show ∀ q, q < 1 * 1 → ∀ a, B = some a → 0 < nb' → u8.ownBlock ≠ some a.block from fun q _ a ha h0 => HO.out.far (HNW.out a ha))
        go_wp2_with (at_builtin; refine wpList_owc rfl (.tmp 41) (.tmp 43) 24 rfl w.heap.size 23 1 24 (.slice none 0 0) Tryz.underlying24 info_nat24 rfl (by decide) _ j 1 1 S' (fun _ => ⟨B, nb', cb, gx d.P d.Q d.G (Nj % W ^ 40)⟩) rfl ((HO.out.below HB4.out).below (below_al _ _)) w4.heap.size rfl U1.out U2.out U3.out (by decide) (by unfold maxLen; omega) (by omega) (by simp; omega) ?_)
        rintro v' w5 hown5 hg5
        have hb5 : Below w.heap.size w w5 := ((HBL.out.trans (HB4.out.mono s0)).alloc (by omega) _).grown hg5 (by simp; omega) (fun b e => (HO.out.lt e).1)
        have HO5 := Lib.hid hown5
        have HB5 := Lib.hid hb5
        clear hown5 hg5 hb5
        go_wp2_with fail
        go_roundw
        case rel =>
          refine ⟨j + 1, _, by omega, by go_num, HO5.out, fun p hp => ?_, fun p hp => ?_, HB5.out⟩
          · rcases Nat.lt_or_ge p j with g | g
            · rw [joinS_old g]; exact HC.out p g
            · obtain rfl : p = j := by omega
              rw [joinS_one]; exact HLEN.out
          · rcases Nat.lt_or_ge p j with g | g
            · rw [joinS_old g]; exact HS.out p g
            · obtain rfl : p = j := by omega
              rw [joinS_one]
              exact ⟨HE.out.symm, fun a ha => Nat.le_trans s0 (HNW.out a ha)⟩
        case measure => simp [intOf]; omega
    · obtain rfl : j = q := by omega
      obtain ⟨A1, c1, rfl, hnew, hns⟩ := HO.out.ns (by omega)
      have HNS := Lib.hid hns
      have HNEW := Lib.hid hnew
      clear hns hnew
      rcases Nat.lt_or_ge j n with g | g
      · have hjn : (j : Int) < (n : Int) := by omega
        have hjm : decide ((j : Int) < (m : Int)) = false := by have := HQ.out; simp; omega
        have hjm' : decide (j < m) = false := by have := HQ.out; simp; omega
        go_wp2_with fail
        go_ret2
        exact ⟨A1, c1, S', rfl, HNS.out, HC.out, HS.out, HNEW.out, HBL.out⟩
      · have hjn : decide ((j : Int) < (n : Int)) = false := by simp; omega
        go_wp2_with fail
        go_ret2
        exact ⟨A1, c1, S', rfl, HNS.out, HC.out, HS.out, HNEW.out, HBL.out⟩
/-! ### Same -/
theorem same_q {A' : Option Addr} {c' q : Nat} {xs : List Int} (h : Rd .u64 w A n xs) (h' : Rd .u64 w A' n xs) (hn : n ≤ 17592186044416) :
    Calls Tryz.prog 29 #[.slice A n c, .slice A' n c'] (w.drewN q) fun e w'' => e = .returned (.bool true) ∧ ∃ m, w'' = w.drewN m :=
  (same_yes (h.drewN q) (h'.drewN q) hn).mono fun _ _ ⟨he, m, hm⟩ => ⟨he, q + m, by rw [hm, World.drewN_drewN]⟩
theorem same_q2 {A' : Option Addr} {c' q r : Nat} {xs : List Int} (h : Rd .u64 w A n xs) (h' : Rd .u64 w A' n xs) (hn : n ≤ 17592186044416) :
    Calls Tryz.prog 29 #[.slice A n c, .slice A' n c'] (w.drewN (r + q)) fun e w'' => e = .returned (.bool true) ∧ ∃ m, w'' = w.drewN (r + m) :=
  (same_yes (h.drewN (r + q)) (h'.drewN (r + q)) hn).mono fun _ _ ⟨he, m, hm⟩ => ⟨he, q + m, by rw [hm, World.drewN_drewN, Nat.add_assoc]⟩
theorem Nm.can {N : Int} (h : Nm w A n c N) (hn : n = dl N) : Rd .u64 w A n (dg W N) := by
  have h1 := h.lim.rd
  rw [← hn] at h1
  exact h1
def S7R (n : Nat) (w : World) (i : Value) (wr : World) : Prop := ∃ k : Nat, k ≤ n ∧ i = .int .i64 k ∧ ∃ q, wr = w.drewN q
set_option maxHeartbeats 4000000 in
set_option maxRecDepth 100000 in
theorem same7_yes {a a' : Option Addr} {n c c' : Nat} {S S' : Nat → Stp} (h : Ch w a n c S) (h' : Ch w a' n c' S') (hc : CanL S n) (hc' : CanL S' n) (he : ∀ i, i < n → Trp.of (S i) = Trp.of (S' i)) :
    Calls Tryz.prog 20 #[.slice a n c, .slice a' n c'] w (AnsB true w) := by
  have hq : ((n : Int) != (n : Int)) = false := by simp
  have H := Lib.hid h
  have H' := Lib.hid h'
  have HC := Lib.hid hc
  have HC' := Lib.hid hc'
  have HE := Lib.hid he
  have h60 := h.c60
  clear h h' hc hc' he
  go_enter Tryz.func20, Tryz.ntmps20
  go_wp2_with fail
  go_loopw [5] (fun i wr => S7R n w i wr) (fun i _ => n - (intOf i).toNat)
  case atStart => exact ⟨0, Nat.zero_le _, rfl, 0, rfl⟩
  case round =>
    obtain ⟨k, hk, rfl, hqq⟩ := hrel
    rcases Nat.lt_or_ge k n with hlt | hge
    · have hw : Below w.heap.size w wr := by obtain ⟨q, rfl⟩ := hqq; exact below_drewN (Below.refl _ _) q
      have g := H.out.below hw
      have g' := H'.out.below hw
      obtain ⟨b, off, rfl, hb, hcell⟩ := g.ex (by omega)
      obtain ⟨b', off', rfl, hb', hcell'⟩ := g'.ex (by omega)
      obtain ⟨x0, x1, x2⟩ := hcell k hlt
      obtain ⟨y0, y1, y2⟩ := hcell' k hlt
      obtain ⟨p1, p2, p3⟩ := g.at_ k hlt
      obtain ⟨q1, q2, q3⟩ := g'.at_ k hlt
      obtain ⟨l1, l2, l3⟩ := HC.out k hlt
      obtain ⟨m1, m2, m3⟩ := HC'.out k hlt
      have ee := HE.out k hlt
      obtain ⟨s, hs⟩ : ∃ s, S k = s := ⟨_, rfl⟩
      obtain ⟨s', hs'⟩ : ∃ s', S' k = s' := ⟨_, rfl⟩
      rw [hs] at x0 x1 x2 p1 p2 p3 l1 l2 l3 ee
      rw [hs'] at y0 y1 y2 q1 q2 q3 m1 m2 m3 ee
      obtain ⟨A1, n1, c1, A2, n2, c2, A3, n3, c3, P, Q, R⟩ := s
      obtain ⟨A1', n1', c1', A2', n2', c2', A3', n3', c3', P', Q', R'⟩ := s'
      simp only [Trp.of, Trp.mk.injEq] at *
      obtain ⟨rfl, rfl, rfl⟩ := ee
      have t1 := p1.c60
      have t2 := p2.c60
      have t3 := p3.c60
      obtain rfl : n1' = n1 := by omega
      obtain rfl : n2' = n2 := by omega
      obtain rfl : n3' = n3 := by omega
      have R1 := Lib.hid (p1.can l1)
      have R2 := Lib.hid (p2.can l2)
      have R3 := Lib.hid (p3.can l3)
      have R1' := Lib.hid (q1.can m1)
      have R2' := Lib.hid (q2.can m2)
      have R3' := Lib.hid (q3.can m3)
      have hkn : (k : Int) < (n : Int) := by omega
      have HQ := Lib.hid hqq
      clear p1 p2 p3 q1 q2 q3 l1 l2 l3 m1 m2 m3 hs hs' hcell hcell' g g' hqq hw
      go_wp2_with fail
      go_quiet ((go_at_call 29; exact same_q R1.out R1'.out t1))
      go_wp2_with fail
      go_quiet ((go_at_call 29; exact same_q2 R2.out R2'.out t2))
      go_wp2_with fail
      go_quiet ((go_at_call 29; exact same_q2 R3.out R3'.out t3))
      go_wp2_with fail
      go_roundw
      case rel =>
        obtain ⟨q0, hq0⟩ := HQ.out
        exact ⟨k + 1, by omega, by go_num, _, by rw [hq0, World.drewN_drewN]⟩
      case measure => simp [intOf]; omega
    · obtain rfl : k = n := by omega
      have hkn : decide ((k : Int) < (k : Int)) = false := by simp
      go_wp2_with fail
      go_ret
      exact ⟨rfl, hqq⟩
end
end Go.Proofs.YtpmnghealjgkeaaGreat
