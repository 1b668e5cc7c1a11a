/-
  Several texts in one: Sg0, Sg1, Sg2, Sg3, Sg4, Sg5.
-/
import Derived.Test.YtloibmemlkfkfaaGreatDoorPkg
import Derived.Deep.QuietTactic
import Derived.BigQuiet
import Derived.Test.YtloibmemlkfkfaaGreatDoorOwb
import Derived.Test.YtloibmemlkfkfaaGreatDoorMxx
import Derived.Test.YtloibmemlkfkfaaGreatDoorGro
import Derived.Test.YtloibmemlkfkfaaGreatDoorPkm
import Derived.Lib.ConvBytes
import Derived.Laws.ResultCell
/-
  What the small calls of package sigma answer: limbs, same, byteCount, toBytes, fromBytes.
-/
namespace Go.Proofs.YtloibmemlkfkfaaGreatDoor
open Go.RowKit
set_option linter.unusedVariables false
/-! ### limbs -/
set_option maxHeartbeats 400000 in
theorem slimbs_any (A : Option Addr) (n c : Nat) (xs : List Int) (w : World) (h : Rd .u64 w A n xs) (hd : Dig W xs) (hnc : n ≤ c) (hc : n ≤ 17592186044416) :
    Calls Tryz.prog 75 #[.slice A n c] w fun e w' => e = .returned (.slice A (nl xs) c) ∧ w = w' := by
  go_enter Tryz.func75, Tryz.ntmps75
  go_wp2
  go_loop [3] (fun t => LimR xs n t) (fun t => (intOf t).toNat)
  case atStart => exact ⟨n, Nat.le_refl _, fun j h1 h2 => by omega, rfl⟩
  case round =>
    obtain ⟨k, hk, hz, rfl⟩ := hrel
    have HZ := Lib.hid hz
    clear hz
    rcases Nat.eq_zero_or_pos k with h0 | h0
    · subst h0
      go_wp2
      go_ret
      exact ⟨by rw [← limbs_end h hd hk HZ.out (fun h => absurd h (by omega))]; rfl, rfl⟩
    · obtain ⟨m, rfl⟩ : ∃ m, k = m + 1 := ⟨k - 1, by omega⟩
      obtain ⟨b, off, x, rfl, hb, hx, hcell⟩ := h.at_ (j := m) (by omega)
      have HX := Lib.hid hx
      clear hx
      by_cases hx0 : x = 0
      · subst hx0
        go_wp2
        go_round
        case rel =>
          refine ⟨m, by omega, fun j h1 h2 => ?_, by go_num⟩
          rcases Nat.lt_or_ge m j with h3 | h3
          · exact HZ.out j (by omega) h2
          · obtain rfl : j = m := by omega
            rw [List.getD_eq_getElem?_getD, HX.out]; rfl
        case measure => simp [intOf]
      · have hx1 : ((x : Int) == 0) = false := by simpa using hx0
        go_wp2
        go_ret
        exact ⟨by rw [← limbs_end h hd hk HZ.out (fun _ => by rw [Nat.add_sub_cancel, List.getD_eq_getElem?_getD, HX.out]; exact hx0)]; rfl, rfl⟩
theorem slimbs_nm {A : Option Addr} {n c : Nat} {N : Int} {w : World} (h : Nm w A n c N) :
    Calls Tryz.prog 75 #[.slice A n c] w fun e w' => e = .returned (.slice A (dl N) c) ∧ w = w' := by
  obtain ⟨⟨xs, h1, h2, h3⟩, h4, h5, h6⟩ := h
  refine (slimbs_any A n c xs w h1 h2 h4 h5).mono fun e w' ⟨he, hw⟩ => ⟨?_, hw⟩
  subst h3
  exact he
theorem drewN_two (w : World) (a b : Nat) : (w.drewN a).drewN b = w.drewN (a + b) := by
  simp [World.drewN, Nat.add_assoc]
/-! ### same -/
def EqsR (xs ys : List Int) (n : Nat) (w : World) (i : Value) (wr : World) : Prop := ∃ k : Nat, k ≤ n ∧ i = .int .i64 k ∧ (∀ j, j < k → dig xs j = dig ys j) ∧ ∃ q, wr = w.drewN q
/-- slices.Equal of two lists of limbs. -/
theorem eqs_any {A A' : Option Addr} {n n' c c' : Nat} {xs ys : List Int} {w : World} (h : Rd .u64 w A n xs) (h' : Rd .u64 w A' n' ys) (hn : n ≤ 17592186044416) (hn' : n' ≤ 17592186044416) :
    Calls Tryz.prog 123 #[.slice A n c, .slice A' n' c'] w (fun e w' => (∃ q : Bool, e = .returned (.bool q) ∧ (q = true ↔ xs = ys)) ∧ ∃ q, w' = w.drewN q) := by
  have hl := h.len
  have hl' := h'.len
  have HL := Lib.hid hl
  have HL' := Lib.hid hl'
  clear hl hl'
  by_cases hnn : n = n'
  · have hq : ((n : Int) != (n' : Int)) = false := by simp; omega
    have HN := Lib.hid hnn
    clear hnn
    go_enter Tryz.func123, Tryz.ntmps123
    go_wp2_with fail
    go_loopw [13] (fun i wr => EqsR xs ys n w i wr) (fun i _ => n - (intOf i).toNat)
    case atStart => exact ⟨0, Nat.zero_le _, rfl, fun j hj => absurd hj (Nat.not_lt_zero j), 0, rfl⟩
    case round =>
      obtain ⟨k, hk, rfl, hs, q, rfl⟩ := hrel
      have HS := Lib.hid hs
      clear hs
      rcases Nat.lt_or_ge k n with hlt | hge
      · obtain ⟨b, off, x, rfl, hb, hx, hcell⟩ := h.at_ hlt
        obtain ⟨b', off', y, rfl, hb', hy, hcell'⟩ := h'.at_ (j := k) (by have := HN.out; omega)
        have ex := dig_lt hx
        have ey := dig_lt hy
        have EX := Lib.hid ex
        have EY := Lib.hid ey
        have hkn : (k : Int) < (n : Int) := by omega
        have hkn' : (k : Int) < (n' : Int) := by have := HN.out; omega
        clear hx hy ex ey
        by_cases hxy : x = y
        · subst hxy
          have hne : ((x : Int) != x) = false := by simp
          go_wp2_with fail
          go_quiet (fail)
          go_wp2
          go_roundw
          case rel =>
            refine ⟨k + 1, by omega, by go_num, fun j hj => ?_, _, rfl⟩
            rcases Nat.lt_or_ge j k with g | g
            · exact HS.out j g
            · obtain rfl : j = k := by omega
              rw [EX.out, EY.out]
          case measure => simp [intOf]; omega
        · have hne : ((x : Int) != y) = true := by simpa using hxy
          have HXY := Lib.hid hxy
          clear hxy
          go_wp2_with fail
          go_quiet (fail)
          go_wp2
          go_ret
          refine ⟨⟨false, rfl, ?_⟩, _, drewN_two _ _ _⟩
          constructor
          · intro h; cases h
          · intro e
            exfalso
            apply HXY.out
            rw [← EX.out, ← EY.out, e]
      · obtain rfl : k = n := by omega
        go_wp2
        go_ret
        refine ⟨⟨true, rfl, fun _ => ?_, fun _ => rfl⟩, q, rfl⟩
        exact ext_dig (by rw [HL.out, HL'.out]; exact HN.out) (fun j hj => HS.out j (by have := HL.out; omega))
  · have hq : ((n : Int) != (n' : Int)) = true := by simp; omega
    have HN := Lib.hid hnn
    clear hnn h h'
    go_enter Tryz.func123, Tryz.ntmps123
    go_wp2
    go_ret
    refine ⟨⟨false, rfl, ?_⟩, 0, rfl⟩
    constructor
    · intro h; cases h
    · intro e
      exfalso
      apply HN.out
      rw [← HL.out, ← HL'.out, e]
theorem dg_inj {N M : Int} (h0 : 0 ≤ N) (h1 : 0 ≤ M) (h : dg W N = dg W M) : N = M := by
  rw [← val_dg W_two h0, ← val_dg W_two h1, h]
theorem ssame_any {A A' : Option Addr} {n n' c c' : Nat} {N M : Int} {w : World} (h : Nm w A n c N) (h' : Nm w A' n' c' M) :
    Calls Tryz.prog 88 #[.slice A n c, .slice A' n' c'] w (fun e w' => (∃ q : Bool, e = .returned (.bool q) ∧ (q = true ↔ N = M)) ∧ ∃ q, w' = w.drewN q) := by
  have hx := h.lim
  have hy := h'.lim
  have h60 : dl N ≤ 17592186044416 := Nat.le_trans h.dl_le h.c60
  have h60' : dl M ≤ 17592186044416 := Nat.le_trans h'.dl_le h'.c60
  go_enter Tryz.func88, Tryz.ntmps88
  go_wp2_with fail
  refine (slimbs_nm h).mono ?_
  rintro e w1 ⟨rfl, rfl⟩
  go_wp2_with fail
  refine (slimbs_nm h').mono ?_
  rintro e w1 ⟨rfl, rfl⟩
  go_wp2_with fail
  refine (eqs_any hx.rd hy.rd h60 h60').mono ?_
  rintro e w1 ⟨⟨q, rfl, hq⟩, r, rfl⟩
  have HQ := Lib.hid hq
  clear hq
  go_wp2_with fail
  go_ret
  exact ⟨⟨q, rfl, HQ.out.trans ⟨fun e => dg_inj hx.pos hy.pos e, fun e => by rw [e]⟩⟩, r, rfl⟩
/-! ### byteCount -/
theorem bcount_any {A : Option Addr} {c : Nat} {n : Nat} {N : Int} {w : World} (h : Cn w A n c N) (hN : 0 < N) :
    Calls Tryz.prog 76 #[.slice A n c] w fun e w' => e = .returned (.int .i64 ((nb N + 7) / 8 : Nat)) ∧ w = w' := by
  have hz : dl N ≠ 0 := fun e => by have := (dl_zero h.pos).1 e; omega
  obtain ⟨m, hm⟩ : ∃ m, dl N = m + 1 := ⟨dl N - 1, by omega⟩
  have hn := h.len_
  have hc := h.c60
  have hnb := nb_top hN hm
  obtain ⟨b, off, x, rfl, hb, hxx, hcell⟩ := h.rd.at_ (j := m) (by omega)
  have hxe := dig_lt hxx
  have hd := dig_W (dig_dg W_two h.pos) m
  rw [hxe] at hd hnb
  have hbl := Lib.bitLen_le x.toNat 64 (by omega) (by omega)
  obtain ⟨l, hl⟩ : ∃ l, Lib.bitLen x.toNat = l := ⟨_, rfl⟩
  rw [hl] at hnb hbl
  have e1 : (n : Int) - 1 = (m : Int) := by omega
  have e2 : IntKind.i64.wrap (m : Int) = (m : Int) := IntWalk.i64_in _ (by omega)
  have hmn : m < n := by omega
  have hmi : (m : Int) < (n : Int) := by omega
  have e4 : ((l : Int) + 7).tdiv 8 = (((l + 7) / 8 : Nat) : Int) := by
    rw [Int.tdiv_eq_ediv_of_nonneg (by omega)]; omega
  have e3 : 8 * (m : Int) + (((l + 7) / 8 : Nat) : Int) = (((nb N + 7) / 8 : Nat) : Int) := by omega
  have E3 := Lib.hid e3
  have HL := Lib.hid hl
  have d0 := hd.1
  have d1 := hd.2
  clear hnb hxx hxe hm hn hl e3 hz
  go_enter Tryz.func76, Tryz.ntmps76
  go_wp2_with fail
  refine (len64 x _ d0 d1).mono ?_
  rintro e w1 ⟨rfl, rfl⟩
  rw [HL.out]
  go_wp2
  go_ret
  exact ⟨by rw [← E3.out]; go_num, rfl⟩
end Go.Proofs.YtloibmemlkfkfaaGreatDoor
/-
  What toBytes and fromBytes of package sigma answer.
-/
namespace Go.Proofs.YtloibmemlkfkfaaGreatDoor
open Go.RowKit
set_option linter.unusedVariables false
/-! ### toBytes -/
def TobR (N : Int) (n : Nat) (w : World) (i : Value) (wr : World) : Prop :=
  ∃ (k : Nat) (zs : List Int), k ≤ n ∧ i = .int .i64 k ∧ Row wr w.heap.size 5 .u8 zs ∧ zs.length = n ∧ (∀ j, n - k ≤ j → j < n → dig zs j = N / 256 ^ (n - 1 - j) % 256) ∧ (∀ j, j < n - k → dig zs j = 0) ∧ Below w.heap.size w wr
/-- Bytes in a block just made. -/
def TobP (N : Int) (n : Nat) (w : World) (e : Ending) (w' : World) : Prop :=
  e = .returned (.slice (some ⟨w.heap.size, 0, none⟩) n n) ∧ Row w' w.heap.size 5 .u8 (bytesL N n) ∧ Below w.heap.size w w'
theorem lt_bytes {N : Int} {n k : Nat} (h0 : 0 ≤ N) (h : N < W ^ n) (hk : 8 * n ≤ k) : N / 256 ^ k % 256 = 0 := by
  have e1 : W ^ n = 256 ^ (8 * n) := by
    rw [pow256, show 8 * n % 8 = 0 by omega, show 8 * n / 8 = n by omega]
    unfold pw; simp
  have h2 := pow_mono (b := 256) (by decide) hk
  rw [Int.ediv_eq_zero_of_lt h0 (by omega)]; rfl
set_option maxHeartbeats 1000000 in
theorem tobytes_any {A : Option Addr} {n c : Nat} {N : Int} {w : World} (h : Nm w A n c N) (l : Nat) (hl : l ≤ 1024) :
    Calls Tryz.prog 78 #[.slice A n c, .int .i64 l] w (TobP N l w) := by
  have hlt := lt_dl h.pos h.dl_le
  obtain ⟨⟨xs, h1, h2, h3⟩, h4, h5, h6⟩ := id h
  have hmk := fun W => run_make8 l (C := (l : Int)) rfl (by omega) W
  obtain ⟨Z, hZ⟩ : ∃ Z : List Int, Z = List.replicate l 0 := ⟨_, rfl⟩
  rw [← hZ] at hmk
  obtain ⟨m, hm⟩ : ∃ m, min l (8 * n) = m := ⟨_, rfl⟩
  have hmin : min (l : Int) (8 * (n : Int)) = (m : Int) := by omega
  have ml : m ≤ l := by omega
  have mn : m ≤ 8 * n := by omega
  have HZ := Lib.hid hZ
  have H3 := Lib.hid h3
  have HM := Lib.hid hm
  have HLT := Lib.hid hlt
  clear hZ h3 hm hlt h
  go_enter Tryz.func78, Tryz.ntmps78
  go_wp2_with fail
  clear hmk hmin
  go_loopw [14] (fun i wr => TobR N l w i wr ∧ (intOf i).toNat ≤ m) (fun i _ => m - (intOf i).toNat)
  case atStart =>
    refine ⟨⟨0, Z, Nat.zero_le _, rfl, Row.new _ _ _ _, by rw [HZ.out]; simp, fun j h1 h2 => by omega, fun j _ => by rw [HZ.out]; exact dig_replicate _ _, (Below.refl _ _).alloc (Nat.le_refl _) _⟩, by simp [intOf]⟩
  case round =>
    obtain ⟨⟨k, zs, hk, rfl, hrow, hzl, hz, hz0, hb⟩, hkm⟩ := hrel
    have hkm : k ≤ m := by simpa [intOf] using hkm
    have HZE := Lib.hid hz
    have HZ0 := Lib.hid hz0
    have HZL := Lib.hid hzl
    clear hz hz0
    rcases Nat.lt_or_ge k m with hlt | hge
    · have hX := h1.below hb
      obtain ⟨p, hp⟩ : ∃ p, p + k + 1 = l := ⟨l - 1 - k, by omega⟩
      have e1 : (l : Int) - 1 - k = p := by omega
      have fz := hrow.frozen p
      have cz := hrow.cell (getElem?_dig (show p < zs.length by omega))
      have hpl : p < l := by omega
      have hd := dig_W h2 (k / 8)
      obtain ⟨b, off, x, rfl, hbb, hx, hcell⟩ := hX.at_ (j := k / 8) (by omega)
      have hxe := dig_lt hx
      rw [hxe] at hd
      have HXE := Lib.hid hxe
      have hne : b ≠ w.heap.size ∨ b = w.heap.size := by omega
      have HP := Lib.hid hp
      have hkn8 : k / 8 < n := by omega
      clear hzl hp hx hxe hne
      go_wp2_with fail
      go_roundw
      case rel =>
        have hps := HP.out
        refine ⟨⟨k + 1, _, by omega, by go_num, hrow.set _ _, by simpa using HZL.out, fun j j1 j2 => ?_, fun j j1 => ?_, hb.setCell (Nat.le_refl _) _⟩, by simp [intOf]; omega⟩
        · rcases Nat.lt_or_ge p j with g | g
          · rw [dig_set_ne (by omega)]; exact HZE.out j (by omega) j2
          · obtain rfl : j = p := by omega
            rw [dig_set_same (by rw [HZL.out]; exact hpl), ← H3.out, show l - 1 - j = k by omega, ← byte_split h2 k, HXE.out]
        · rw [dig_set_ne (by omega)]; exact HZ0.out j (by omega)
      case measure => simp [intOf]; omega
    · obtain rfl : k = m := by omega
      have hzs : zs = bytesL N l := ext_dig (by rw [hzl, bytesL_len]) (fun j hj => by
        have hj2 : j < l := by omega
        rw [bytesL_dig hj2]
        rcases Nat.lt_or_ge j (l - k) with g | g
        · rw [HZ0.out j g, lt_bytes h6 HLT.out (by have := HM.out; omega)]
        · exact HZE.out j g hj2)
      subst hzs
      go_wp2
      go_ret
      exact ⟨rfl, hrow, hb⟩
/-! ### fromBytes -/
set_option maxHeartbeats 4000000 in
theorem frombytes_any {A : Option Addr} {n c : Nat} {bs : List Int} {w : World} (h : Rd .u8 w A n bs) (hd : Dig 256 bs) (hn : n ≤ 512) :
    Calls Tryz.prog 79 #[.slice A n c] w (fun e w' => e = .returned (.slice (some ⟨w.heap.size, 0, none⟩) ((n + 7) / 8) ((n + 7) / 8)) ∧ Nm w' (some ⟨w.heap.size, 0, none⟩) ((n + 7) / 8) ((n + 7) / 8) (low bs n n) ∧ Below w.heap.size w w') := by
  obtain ⟨L, hL⟩ : ∃ L, (n + 7) / 8 = L := ⟨_, rfl⟩
  rw [hL]
  have e1 : ((n : Int) + 7) / 8 = (L : Int) := by omega
  have hmk := fun W => run_make64 L (C := (L : Int)) rfl (by omega) W
  obtain ⟨Z, hZ⟩ : ∃ Z : List Int, Z = List.replicate L 0 := ⟨_, rfl⟩
  rw [← hZ] at hmk
  have HZ := Lib.hid hZ
  have HL := Lib.hid hL
  clear hZ hL
  go_enter Tryz.func79, Tryz.ntmps79
  go_wp2_with fail
  clear hmk e1
  go_loopw [12] (fun i wr => FrR bs n L w i wr) (fun i _ => n - (intOf i).toNat)
  case atStart =>
    refine ⟨0, Z, Nat.zero_le _, rfl, Row.new _ _ _ _, by rw [HZ.out]; simp, by rw [HZ.out]; intro x hx; simp at hx; rw [hx.2]; exact ⟨by decide, by decide⟩, fun j _ => by rw [HZ.out]; exact dig_replicate _ _, by rw [HZ.out, dig_replicate]; exact pw_pos _, ?_, (Below.refl _ _).alloc (Nat.le_refl _) _⟩
    rw [HZ.out, vf_zero W (k := 0) (Nat.zero_le _) (fun j _ => dig_replicate _ j)]; simp [vf, low]
  case round =>
    obtain ⟨k, zs, hk, rfl, hrow, hzl, hzd, hz0, hz1, hv, hb⟩ := hrel
    have HV := Lib.hid hv
    have HZ0 := Lib.hid hz0
    have HZL := Lib.hid hzl
    clear hv hz0
    rcases Nat.lt_or_ge k n with hlt | hge
    · obtain ⟨p, hp⟩ : ∃ p, p + k + 1 = n := ⟨n - 1 - k, by omega⟩
      have hm1 : k / 8 < L := by have := HL.out; omega
      obtain ⟨ba, oa, b, rfl, hba, hbx, hcb⟩ := h.at_ (j := p) (by omega)
      have hcb2 := (hb.cell (p := ⟨ba, oa + p, none⟩) hba).trans hcb
      have hbe := dig_lt hbx
      have db := dig_bd (b := 256) (by decide) hd p
      rw [hbe] at db
      have fz := hrow.frozen (k / 8)
      have cz := hrow.cell (getElem?_dig (show k / 8 < zs.length by omega))
      have dz := dig_W hzd (k / 8)
      obtain ⟨z, hz⟩ : ∃ z, dig zs (k / 8) = z := ⟨_, rfl⟩
      rw [hz] at cz dz hz1
      obtain ⟨o1, o2, o3, o4⟩ := or_byte (r := k % 8) (by omega) dz.1 hz1 db.1 db.2
      have HO1 := Lib.hid o1
      have HP := Lib.hid hp
      have HZZ := Lib.hid hz
      have HBE := Lib.hid hbe
      have hnb : ba ≠ w.heap.size := Nat.ne_of_lt hba
      have g1 : (n : Int) - 1 - (k : Int) = (p : Int) := by omega
      have g2 : IntKind.i64.wrap ((n : Int) - 1) = (n : Int) - 1 := IntWalk.i64_in _ (by omega)
      have g3 : IntKind.i64.wrap (p : Int) = (p : Int) := IntWalk.i64_in _ (by omega)
      have g4 : (p : Int) < (n : Int) := by omega
      clear o1 hp hz hbe hbx hcb hzl
      have FR := Lib.hid (fr_round (bs := bs) HZL.out hm1 HZZ.out HO1.out o2 HZ0.out HV.out (show dig bs (n - 1 - k) = b by rw [show n - 1 - k = p by have := HP.out; omega]; exact HBE.out))
      have hvb : 0 ≤ bits .or .u64 z (IntKind.u64.wrap (b * 2 ^ (8 * (k % 8)))) ∧ bits .or .u64 z (IntKind.u64.wrap (b * 2 ^ (8 * (k % 8)))) < W := by rw [HO1.out]; exact ⟨o3, by omega⟩
      have HVB := Lib.hid hvb
      clear hvb o2 o3 o4
      go_wp2_with fail
      go_region
      all_goals
        clear g1 g2 g3
        go_wp2
        go_roundw
        case rel => exact ⟨k + 1, _, by omega, by go_num, (hrow.set _ _).drew, by simpa using HZL.out, hzd.set HVB.out.1 HVB.out.2 _, FR.out.1, FR.out.2.1, FR.out.2.2, (hb.setCell (Nat.le_refl _) _).drew⟩
        case measure => simp [intOf]; omega
    · obtain rfl : k = n := by omega
      have hnm : Nm wr (some ⟨w.heap.size, 0, none⟩) L L (low bs k k) :=
        ⟨⟨zs, hrow.rd hzl (fun j x hx => by rwa [Nat.zero_add]), hzd, by rw [val_vf W zs (m := L) (by omega)]; exact HV.out⟩, Nat.le_refl _, by have := HL.out; omega, by rw [← HV.out]; exact (vf_bd (b := W) (by decide) (fun j => dig_bd (b := W) (by decide) hzd j) L).1⟩
      clear hzl
      go_wp2
      go_ret
      exact ⟨rfl, hnm, hb⟩
end Go.Proofs.YtloibmemlkfkfaaGreatDoor
/-
  What refusal and challenge of package sigma answer.
-/
namespace Go.Proofs.YtloibmemlkfkfaaGreatDoor
open Go.RowKit
set_option linter.unusedVariables false
/-! ### Lists of numbers that a call has laid out -/
def lstN (L : List Nsl) : Nat → Nsl := fun i => L.getD i ⟨none, 0, 0, 0⟩
theorem ns_lit {w : World} (L : List Nsl) (h : ∀ s ∈ L, Nm w s.A s.n s.c s.N) (hn : L.length ≤ 100) (t : TypeId) {g : Nat} (hg : w.heap.size = g) {n : Nat} (hL : L.length = n) :
    Ns (w.alloc (.cells (L.map Nsl.v).toArray t)) (some ⟨g, 0, none⟩) n n (lstN L) := by
  subst hg hL
  refine ⟨Nat.le_refl _, by omega, fun _ => ⟨w.heap.size, 0, rfl, by simp, fun i hi => ?_⟩, fun i hi => ?_⟩
  · rw [Nat.zero_add, World.cell?_alloc_at]
    · simp [lstN, hi, Nsl.v]
    · rfl
  · have e : lstN L i = L[i] := by simp [lstN, hi]
    rw [e]
    exact (h _ (List.getElem_mem hi)).below (below_al _ _)
theorem ns_lit2 {w : World} {A1 A2 : Option Addr} {n1 c1 n2 c2 : Nat} {X Y : Int} (h1 : Nm w A1 n1 c1 X) (h2 : Nm w A2 n2 c2 Y) {g : Nat} (hg : w.heap.size = g) :
    Ns (w.alloc (.cells #[.slice A1 n1 c1, .slice A2 n2 c2] 24)) (some ⟨g, 0, none⟩) 2 2 (lstN [⟨A1, n1, c1, X⟩, ⟨A2, n2, c2, Y⟩]) :=
  ns_lit [⟨A1, n1, c1, X⟩, ⟨A2, n2, c2, Y⟩] (fun s hs => by
    rcases List.mem_cons.1 hs with rfl | hs
    · exact h1
    · rw [List.mem_singleton] at hs; subst hs; exact h2) (by simp) _ hg rfl
theorem ns_lit5 {w : World} {A1 A2 A3 A4 A5 : Option Addr} {n1 c1 n2 c2 n3 c3 n4 c4 n5 c5 : Nat} {X Y Z U V : Int} (h1 : Nm w A1 n1 c1 X) (h2 : Nm w A2 n2 c2 Y) (h3 : Nm w A3 n3 c3 Z) (h4 : Nm w A4 n4 c4 U) (h5 : Nm w A5 n5 c5 V) {g : Nat} (hg : w.heap.size = g) :
    Ns (w.alloc (.cells #[.slice A1 n1 c1, .slice A2 n2 c2, .slice A3 n3 c3, .slice A4 n4 c4, .slice A5 n5 c5] 24)) (some ⟨g, 0, none⟩) 5 5 (lstN [⟨A1, n1, c1, X⟩, ⟨A2, n2, c2, Y⟩, ⟨A3, n3, c3, Z⟩, ⟨A4, n4, c4, U⟩, ⟨A5, n5, c5, V⟩]) :=
  ns_lit [⟨A1, n1, c1, X⟩, ⟨A2, n2, c2, Y⟩, ⟨A3, n3, c3, Z⟩, ⟨A4, n4, c4, U⟩, ⟨A5, n5, c5, V⟩] (fun s hs => by
    rcases List.mem_cons.1 hs with rfl | hs
    · exact h1
    rcases List.mem_cons.1 hs with rfl | hs
    · exact h2
    rcases List.mem_cons.1 hs with rfl | hs
    · exact h3
    rcases List.mem_cons.1 hs with rfl | hs
    · exact h4
    · rw [List.mem_singleton] at hs; subst hs; exact h5) (by simp) _ hg rfl
theorem one_at8 (w : World) (u : Value) (t : TypeId) : (w.alloc (.cells #[u] t)).cell? ⟨w.heap.size, 0, none⟩ = some u := by simp [World.cell?_alloc_at]
/-! ### refusal -/
set_option maxRecDepth 100000 in
theorem g8_eq (b : Nat) : ∀ w : World, (binOp .eql 26 (.pointer (some ⟨b, 0, none⟩)) (.pointer none)).run Tryz.prog w = .ok (.bool false) w := fun _ => rfl
set_option maxRecDepth 100000 in
theorem g8_eq0 : ∀ w : World, (binOp .eql 26 (.pointer none) (.pointer none)).run Tryz.prog w = .ok (.bool true) w := fun _ => rfl
def RefR (R : Nat → Nsl) (n : Nat) (w : World) (i : Value) (wr : World) : Prop := ∃ j : Nat, j ≤ n ∧ i = .int .i64 j ∧ (∀ m, m < j → dl (R m).N ≤ 64) ∧ w = wr
set_option maxHeartbeats 1000000 in
set_option maxRecDepth 100000 in
theorem refusal_any {w : World} {b : Nat} {A : Option Addr} {n c : Nat} {R : Nat → Nsl} (h : Ns w A n c R) :
    Calls Tryz.prog 40 #[.pointer (some ⟨b, 0, none⟩), .slice A n c] w (fun e w' => ((∃ i, i < n ∧ 64 < dl (R i).N) ∧ e = .returned (.iface 71 (.int .i64 2)) ∨ (∀ i, i < n → dl (R i).N ≤ 64) ∧ e = .returned .nilIface) ∧ w = w') := by
  have hex := h.ex
  have h60 := h.c60
  have HAT := Lib.hid h.at_
  have q := g8_eq b
  clear h
  go_enter Tryz.func40, Tryz.ntmps40
  go_wp2_with fail
  go_loopw [12] (fun i wr => RefR R n w i wr) (fun i _ => n - (intOf i).toNat)
  case atStart => exact ⟨0, Nat.zero_le _, rfl, fun m hm => absurd hm (Nat.not_lt_zero m), rfl⟩
  case round =>
    obtain ⟨j, hj, rfl, hno, rfl⟩ := hrel
    have HNO := Lib.hid hno
    clear hno
    rcases Nat.lt_or_ge j n with hlt | hge
    · obtain ⟨b', off, rfl, hb, hc⟩ := hex (by omega)
      have hcj := hc j hlt
      have hjn : (j : Int) < (n : Int) := by omega
      go_wp2_with fail
      refine (slimbs_nm (HAT.out j hlt)).mono ?_
      rintro e w1 ⟨rfl, rfl⟩
      rcases Nat.lt_or_ge 64 (dl (R j).N) with g | g
      · have t1 : decide ((64 : Int) < ((dl (R j).N : Nat) : Int)) = true := by simp; omega
        have G := Lib.hid g
        clear g
        go_wp2_with fail
        go_ret
        exact ⟨.inl ⟨⟨j, hlt, G.out⟩, rfl⟩, rfl⟩
      · have t1 : decide ((64 : Int) < ((dl (R j).N : Nat) : Int)) = false := by simp; omega
        have G := Lib.hid g
        clear g
        go_wp2_with fail
        go_roundw
        case rel =>
          refine ⟨j + 1, by omega, by go_num, fun m hm => ?_, rfl⟩
          rcases Nat.lt_or_ge m j with g | g
          · exact HNO.out m g
          · obtain rfl : m = j := by omega
            exact G.out
        case measure => simp [intOf]; omega
    · obtain rfl : n = j := by omega
      go_wp2_with fail
      go_ret
      exact ⟨.inr ⟨HNO.out, rfl⟩, rfl⟩
theorem refusal_nil {w : World} {A : Option Addr} {n c : Nat} :
    Calls Tryz.prog 40 #[.pointer none, .slice A n c] w (fun e w' => e = .returned (.iface 71 (.int .i64 1)) ∧ w = w') := by
  have q := g8_eq0
  go_enter Tryz.func40, Tryz.ntmps40
  go_wp2_with fail
  go_ret
  exact ⟨rfl, rfl⟩
/-! ### The bytes of a label -/
def strB (s : ByteArray) : List Int := s.data.toList.map fun b => ((b.toNat : Nat) : Int)
theorem strB_len (s : ByteArray) : (strB s).length = s.size := by
  unfold strB; rw [List.length_map, Array.length_toList]; rfl
theorem strB_dig (s : ByteArray) : Dig 256 (strB s) := fun x hx => by
  obtain ⟨b, -, rfl⟩ := List.mem_map.1 hx
  have := b.toNat_lt
  omega
theorem conv_str (s : ByteArray) (W : World) : ∃ Wc cap, (convert 9 22 (.string s)).run Tryz.prog W = .ok (.slice (some ⟨W.heap.size, 0, none⟩) s.size cap) Wc ∧
    Bz Wc (some ⟨W.heap.size, 0, none⟩) s.size (strB s) ∧ Below W.heap.size W Wc ∧ Wc.heap.size = W.heap.size + 1 := by
  refine ⟨_, _, Lib.run_convert_string_bytes W 9 22 5 s Tryz.underlying9 Tryz.underlying22 Tryz.underlying5, ⟨⟨strB_len s, fun hn => ⟨W.heap.size, 0, rfl, by rw [Lib.bytesWorld_size]; omega, fun j x hx => ?_⟩⟩, strB_dig s⟩, ?_, Lib.bytesWorld_size _ _ _⟩
  · have hj : j < s.size := by
      have := (List.getElem?_eq_some_iff.1 hx).1
      rwa [strB_len] at this
    rw [Nat.zero_add, Lib.bytesWorld_cell W _ s j hj]
    simp only [strB, List.getElem?_map] at hx
    cases hq : s.data.toList[j]? with
    | none => rw [hq] at hx; cases hx
    | some b =>
      rw [hq] at hx
      injection hx with hx
      rw [List.getD_eq_getElem?_getD, hq, ← hx]
      rfl
  · exact ⟨rfl, rfl, rfl, by rw [Lib.bytesWorld_size]; omega, fun j hj => Lib.bytesWorld_at_old W _ s j hj⟩
/-! ### A list of slices of bytes, laid out -/
def twoB (A1 : Option Addr) (c1 : Nat) (xs : List Int) (A2 : Option Addr) (c2 : Nat) (ys : List Int) : Nat → Bsl := fun i => if i = 0 then ⟨A1, c1, xs⟩ else ⟨A2, c2, ys⟩
theorem owg_two {w : World} {base : Nat} {A1 A2 : Option Addr} {n1 c1 n2 c2 : Nat} {xs ys : List Int} (h1 : Bz w A1 n1 xs) (h2 : Bz w A2 n2 ys) (hb : base ≤ w.heap.size) :
    Owg kBy 22 (w.alloc (.cells #[.slice A1 n1 c1, .slice A2 n2 c2] 22)) base (.slice (some ⟨w.heap.size, 0, none⟩) 2 2) 2 (twoB A1 c1 xs A2 c2 ys) := by
  have l1 := h1.rd.len
  have l2 := h2.rd.len
  have key : ∀ i, i < 2 → kBy.At w (twoB A1 c1 xs A2 c2 ys i) := fun i hi => by
    rcases (show i = 0 ∨ i = 1 by omega) with rfl | rfl
    · show Bz w A1 xs.length xs; rw [l1]; exact h1
    · show Bz w A2 ys.length ys; rw [l2]; exact h2
  refine ⟨⟨by simp [owgC], .inr ⟨w.heap.size, 2, #[.slice A1 n1 c1, .slice A2 n2 c2], rfl, hb, heap_alloc_new _ _, Nat.le_refl _, by decide, rfl, ?_⟩⟩, fun i hi => kBy.stay (key i hi) (by simp) fun b hb' => heap_alloc_old _ _ (kBy.lt (key i hi) hb'), fun i hi b hb' e => ?_⟩
  · rw [← l1, ← l2]; rfl
  · have h3 := kBy.lt (key i hi) hb'
    have e3 : w.heap.size = b := by injection e
    omega
/-! ### challenge -/
/-- The parts of a challenge. -/
def chP (P : Int) (lab ctx : List Int) (E : Nat → Int) (n : Nat) : List (List Int) := lab :: ctx :: (List.range n).map fun i => bytesL (E i) ((nb P + 7) / 8)
/-- A challenge. -/
def chl (P Q : Int) (lab ctx : List Int) (E : Nat → Int) (n : Nat) : Int := low (parts (chP P lab ctx E n)) 32 32 % Q
theorem fr_bd {m : Nat} {L : List (List Int)} (h : ∀ xs ∈ L, xs.length ≤ m) : (fr L).length ≤ (m + 8) * L.length := by
  induction L with
  | nil => simp [fr]
  | cons x l ih =>
    have h1 := ih fun xs hx => h xs (List.mem_cons_of_mem _ hx)
    have h2 := h x List.mem_cons_self
    rw [show x :: l = [x] ++ l from rfl, fr_append, fr_one]
    simp only [List.length_append, be8_len, List.length_cons, List.length_nil, Nat.zero_add]
    rw [Nat.mul_add]
    omega
theorem chP_len {P : Int} {lab ctx : List Int} {E : Nat → Int} {n : Nat} (h1 : lab.length ≤ 100) (h2 : nb P ≤ 4096) (hn : n ≤ 16) : (fr (chP P lab ctx E n)).length ≤ ctx.length + 10000 := by
  unfold chP
  rw [show ∀ l : List (List Int), lab :: ctx :: l = [lab] ++ ([ctx] ++ l) from fun l => rfl, fr_append, fr_append, fr_one, fr_one]
  simp only [List.length_append, be8_len]
  have h3 := fr_bd (m := 512) (L := (List.range n).map fun i => bytesL (E i) ((nb P + 7) / 8)) (fun xs hx => by
    obtain ⟨i, -, rfl⟩ := List.mem_map.1 hx
    rw [bytesL_len]; omega)
  rw [List.length_map, List.length_range] at h3
  omega
theorem bytesL_d {N : Int} {n : Nat} : Dig 256 (bytesL N n) := fun x hx => by
  obtain ⟨j, -, rfl⟩ := List.mem_map.1 hx
  omega
theorem chP_dig {P : Int} {lab ctx : List Int} {E : Nat → Int} {n : Nat} (h1 : Dig 256 lab) (h2 : Dig 256 ctx) : ∀ xs ∈ chP P lab ctx E n, Dig 256 xs := fun xs hx => by
  rcases List.mem_cons.1 hx with rfl | hx
  · exact h1
  rcases List.mem_cons.1 hx with rfl | hx
  · exact h2
  obtain ⟨i, -, rfl⟩ := List.mem_map.1 hx
  exact bytesL_d
theorem parts_l (L : List (List Int)) : (parts L).length = 32 := sha_len _
theorem parts_d (L : List (List Int)) : Dig 256 (parts L) := sha_dig _
/-- The parts, while they grow. -/
def ChR (P : Int) (lab ctx : List Int) (E : Nat → Int) (n : Nat) (w : World) (v i : Value) (wr : World) : Prop :=
  ∃ (j : Nat) (S : Nat → Bsl), j ≤ n ∧ i = .int .i64 j ∧ Owg kBy 22 wr w.heap.size v (j + 2) S ∧ (S 0).xs = lab ∧ (S 1).xs = ctx ∧ (∀ p, p < j → (S (p + 2)).xs = bytesL (E p) ((nb P + 7) / 8)) ∧ Below w.heap.size w wr
theorem chR_parts {P : Int} {lab ctx : List Int} {E : Nat → Int} {n : Nat} {S : Nat → Bsl} (h0 : (S 0).xs = lab) (h1 : (S 1).xs = ctx) (h2 : ∀ p, p < n → (S (p + 2)).xs = bytesL (E p) ((nb P + 7) / 8)) :
    ((List.range (n + 2)).map fun i => (S i).xs) = chP P lab ctx E n := by
  unfold chP
  rw [List.range_succ_eq_map, List.range_succ_eq_map]
  simp only [List.map_cons, List.map_map]
  rw [h0]
  congr 1
  rw [show (S (Nat.succ 0)).xs = (S 1).xs from rfl, h1]
  congr 1
  exact List.map_congr_left fun i hi => h2 i (List.mem_range.1 hi)
theorem info8by : (Tryz.prog.info? 22).map (fun i => (i.zero, i.size, i.bytes)) = some (some (.slice none 0 0), 1, 24) := by kernel_rfl
set_option maxHeartbeats 4000000 in
set_option maxRecDepth 100000 in
theorem chal_any {w : World} {b : Nat} {d : Gd} (h : Gr0 w b d) (hT : Tabs w) (s : ByteArray) (hs : s.size ≤ 100) {Ac : Option Addr} {nc cc : Nat} {ctx : List Int} (hc : Bz w Ac nc ctx) (hnc : nc ≤ 140737488355328)
    {A : Option Addr} {n c : Nat} {E : Nat → Nsl} (hE : Ns w A n c E) (hn : n ≤ 16) :
    Calls Tryz.prog 43 #[.pointer (some ⟨b, 0, none⟩), .string s, .slice Ac nc cc, .slice A n c] w (Ans1 (chl d.P d.Q (strB s) ctx (fun i => (E i).N) n) w) := by
  have HG := Lib.hid h
  have HT := Lib.hid hT
  have HC := Lib.hid hc
  have HE := Lib.hid hE
  have P0 : 0 < d.P := by have := h.safe.p2; omega
  have nbP : nb d.P ≤ 2048 := by
    have h1 := nb_le (N := d.P) (by omega)
    have h2 := h.lp
    omega
  obtain ⟨k, hk⟩ : ∃ k, (nb d.P + 7) / 8 = k := ⟨_, rfl⟩
  have k1 : k ≤ 300 := by omega
  have HK := Lib.hid hk
  have PP := Lib.hid P0
  have NB := Lib.hid nbP
  have lc := hc.rd.len
  have LC := Lib.hid lc
  clear h hT hc hE P0 nbP hk lc
  go_enter Tryz.func43, Tryz.ntmps43
  go_wp2_with fail
  refine (gp_any HG.out).mono ?_
  rintro e w1 ⟨B1, m1, d1, rfl, hcn, b1, -⟩
  go_wp2_with fail
  refine (bcount_any hcn PP.out).mono ?_
  rintro e w2 ⟨rfl, rfl⟩
  rw [HK.out]
  obtain ⟨Wc, cap, hcv, hlab, bc, hsz⟩ := conv_str s w1
  have B1c := Lib.hid (b1.trans (bc.mono b1.size))
  have hctx : Bz Wc Ac nc ctx := HC.out.below B1c.out
  obtain ⟨g, hg⟩ : ∃ g, Wc.heap.size = g := ⟨_, rfl⟩
  have hbase : w.heap.size ≤ Wc.heap.size := B1c.out.size
  have OW := Lib.hid (owg_two (c1 := cap) (c2 := cc) hlab hctx hbase)
  rw [hsz] at OW
  have BA := Lib.hid (B1c.out.trans ((below_al Wc (.cells #[.slice (some ⟨w1.heap.size, 0, none⟩) s.size cap, .slice Ac nc cc] 22)).mono hbase))
  clear hlab bc hctx hcn b1 B1c
  go_wp2_with fail
  clear hcv
  go_loopw [10, 24] (fun v i wr => ChR d.P (strB s) ctx (fun i => (E i).N) n w v i wr) (fun _ i _ => n - (intOf i).toNat)
  case atStart => exact ⟨0, _, Nat.zero_le _, rfl, OW.out, rfl, rfl, fun p hp => absurd hp (Nat.not_lt_zero p), BA.out⟩
  case round =>
    obtain ⟨j, S, hj, rfl, hown, hS0, hS1, hS2, hb⟩ := hrel
    have HO := Lib.hid hown
    have HB := Lib.hid hb
    have HS := Lib.hid (And.intro hS0 (And.intro hS1 hS2))
    clear hown hb hS0 hS1 hS2
    rcases Nat.lt_or_ge j n with hlt | hge
    · have hjn : (j : Int) < (n : Int) := by omega
      have hE2 := HE.out.below HB.out
      obtain ⟨be, off, rfl, hbe, hce⟩ := hE2.ex (by omega)
      have hcj := hce j hlt
      have HN := Lib.hid (hE2.at_ j hlt)
      clear hE2 hce
      go_wp2_with fail
      refine (tobytes_any HN.out k (by omega)).mono ?_
      rintro e u ⟨rfl, hrow, hu⟩
      have szu := hu.size
      have szb := HB.out.size
      have hlt2 : wr.heap.size < u.heap.size := hrow.lt
      have rdu : Bz u (some ⟨wr.heap.size, 0, none⟩) k (bytesL (E j).N k) := ⟨rowAll hrow (bytesL_len _ _), bytesL_d⟩
      have lk := bytesL_len (E j).N k
      have hcell := one_at8 u (.slice (some ⟨wr.heap.size, 0, none⟩) k k) 22
      have U1 := Lib.hid (show (u.alloc (.cells #[.slice (some ⟨wr.heap.size, 0, none⟩) k k] 22)).cell? ⟨u.heap.size, 0, none⟩ = some (kBy.v ⟨some ⟨wr.heap.size, 0, none⟩, k, bytesL (E j).N k⟩) by
        rw [hcell]; show _ = some (Value.slice _ (bytesL (E j).N k).length k); rw [lk])
      have U2 := Lib.hid (show kBy.At (u.alloc (.cells #[.slice (some ⟨wr.heap.size, 0, none⟩) k k] 22)) ⟨some ⟨wr.heap.size, 0, none⟩, k, bytesL (E j).N k⟩ by
        show Bz _ _ (bytesL (E j).N k).length _; rw [lk]; exact rdu.alloc _)
      have U3 := Lib.hid (show ∀ b, kBy.Bl ⟨some ⟨wr.heap.size, 0, none⟩, k, bytesL (E j).N k⟩ b → u10.ownBlock ≠ some b from fun b hb' => by
        obtain ⟨a, ea, -, rfl⟩ := hb'
        injection ea with ea
        subst ea
        exact HO.out.far (Nat.le_refl _))
      have O1 := Lib.hid ((HO.out.below hu).below (below_al u (.cells #[.slice (some ⟨wr.heap.size, 0, none⟩) k k] 22)))
      have hb5 : w.heap.size ≤ (u.alloc (.cells #[.slice (some ⟨wr.heap.size, 0, none⟩) k k] 22)).heap.size := by simp; omega
      have BU := Lib.hid ((HB.out.trans (hu.mono HB.out.size)).trans ((below_al u (.cells #[.slice (some ⟨wr.heap.size, 0, none⟩) k k] 22)).mono (Nat.le_trans szb szu)))
      clear hrow hu rdu lk hcell
      go_wp2_with (at_builtin; refine wpList_owg rfl (.tmp 28) (.tmp 32) 119 rfl w.heap.size 22 24 (.slice none 0 0) Tryz.underlying119 info8by rfl _ (j + 2) 1 S ⟨some ⟨wr.heap.size, 0, none⟩, k, bytesL (E j).N k⟩ rfl O1.out u.heap.size rfl U1.out U2.out U3.out (by unfold maxLen; omega) (by omega) hb5 ?_)
      intro vz wz hownz hgz
      have HOZ := Lib.hid hownz
      have BZ := Lib.hid (BU.out.grown hgz hb5 (fun b e => (HO.out.lt e).1))
      clear hownz hgz hb5
      go_wp2_with fail
      go_roundw
      case rel =>
        refine ⟨j + 1, _, by omega, by go_num, HOZ.out, ?_, ?_, fun p hp => ?_, BZ.out⟩
        · rw [snocG_lt (by omega)]; exact HS.out.1
        · rw [snocG_lt (by omega)]; exact HS.out.2.1
        · rcases Nat.lt_or_ge p j with g | g
          · rw [snocG_lt (by omega)]; exact HS.out.2.2 p g
          · obtain rfl : p = j := by omega
            rw [snocG_at, HK.out]
      case measure => simp [intOf]; omega
    · obtain rfl : j = n := by omega
      have hjn : decide ((j : Int) < (j : Int)) = false := by simp
      obtain ⟨Ap, cp, rfl, -, hpts⟩ := HO.out.pts
      rw [chR_parts HS.out.1 HS.out.2.1 HS.out.2.2] at hpts
      have HP := Lib.hid hpts
      clear hpts
      go_wp2_with fail
      refine (gscalars_any (HG.out.below HB.out)).mono ?_
      rintro e u1 ⟨bs, As, cs, lows, Bs, cBs, Ss, cSs, rfl, md, c1, -⟩
      have MD := Lib.hid md
      have C1 := Lib.hid (HB.out.trans (c1.mono HB.out.size))
      have HP1 := Lib.hid (HP.out.below c1)
      clear md c1 HP
      go_wp2_with fail
      refine (parts_L (HT.out.below C1.out) HP1.out (by
        have := chP_len (P := d.P) (lab := strB s) (ctx := ctx) (E := fun i => (E i).N) (n := j) (by rw [strB_len]; exact hs) (by have := NB.out; omega) hn
        have := LC.out; omega) (by omega) (chP_dig (strB_dig s) HC.out.dig_)).mono ?_
      rintro e u2 ⟨v2, rfl, ho2, c2⟩
      obtain ⟨A2, c2', rfl, hr2, -, -⟩ := ho2.rd
      rw [parts_l] at hr2 ⊢
      have MD2 := Lib.hid (MD.out.below c2)
      have C2 := Lib.hid (C1.out.trans (c2.mono C1.out.size))
      have HR2 := Lib.hid hr2
      clear hr2 c2 ho2 MD C1 HP1
      go_wp2_with fail
      refine (frombytes_any HR2.out (parts_d _) (by omega)).mono ?_
      rintro e u3 ⟨rfl, hnm, c3⟩
      have MD3 := Lib.hid (MD2.out.below c3)
      have C3 := Lib.hid (C2.out.trans (c3.mono C2.out.size))
      have HNM := Lib.hid hnm
      clear hnm c3 MD2 C2
      go_wp2_with fail
      refine (reduce_any MD3.out HNM.out (by have := HNM.out.dl_le; omega)).mono ?_
      rintro e u4 ⟨B4, m4, d4, rfl, hc4, c4, hn4⟩
      have C4 := Lib.hid (C3.out.trans (c4.mono C3.out.size))
      have HC4 := Lib.hid hc4
      have HN4 := Lib.hid (show ∀ a, B4 = some a → w.heap.size ≤ a.block from fun a ha => Nat.le_trans C3.out.size (hn4 a ha))
      clear hc4 c4 hn4 C3 MD3
      go_wp2_with fail
      go_ret
      exact ⟨B4, m4, d4, rfl, HC4.out, C4.out, HN4.out⟩
end Go.Proofs.YtloibmemlkfkfaaGreatDoor
/-
  What begun, powers, answered and verdict of package sigma answer.
-/
namespace Go.Proofs.YtloibmemlkfkfaaGreatDoor
open Go.RowKit
set_option linter.unusedVariables false
/-- Nothing that was there has turned. -/
def B8 (W W' : World) : Prop := Below W.heap.size W W'
section
variable {a b c w w' : World}
theorem B8.refl (w : World) : B8 w w := Below.refl _ _
theorem B8.trans (h : B8 a b) (k : B8 b c) : B8 a c := Below.trans h (Below.mono k h.size)
theorem B8.alloc (w : World) (o : Obj) : B8 w (w.alloc o) := below_al w o
theorem B8.drew (w : World) : B8 w w.drew := below_dr w
theorem B8.drewN (w : World) (q : Nat) : B8 w (w.drewN q) := below_drewN (Below.refl _ _) q
theorem B8.sz (h : B8 a b) : a.heap.size ≤ b.heap.size := Below.size h
theorem B8.gr0 (hb : B8 w w') {g : Nat} {d : Gd} (h : Gr0 w g d) : Gr0 w' g d := h.below hb
theorem B8.gr (hb : B8 w w') {g : Nat} {d : Gd} (h : Gr w g d) : Gr w' g d := h.below hb
theorem B8.nm (hb : B8 w w') {A : Option Addr} {n c : Nat} {N : Int} (h : Nm w A n c N) : Nm w' A n c N := h.below hb
theorem B8.cn (hb : B8 w w') {A : Option Addr} {n c : Nat} {N : Int} (h : Cn w A n c N) : Cn w' A n c N := h.below hb
theorem B8.bz (hb : B8 w w') {A : Option Addr} {n : Nat} {xs : List Int} (h : Bz w A n xs) : Bz w' A n xs := h.below hb
theorem B8.ns (hb : B8 w w') {A : Option Addr} {n c : Nat} {S : Nat → Nsl} (h : Ns w A n c S) : Ns w' A n c S := h.below hb
theorem B8.tabs (hb : B8 w w') (h : Tabs w) : Tabs w' := h.below hb
theorem B8.cell (hb : B8 w w') {g o : Nat} (hg : g < w.heap.size) : w'.cell? ⟨g, o, none⟩ = w.cell? ⟨g, o, none⟩ := Below.cell hb (p := ⟨g, o, none⟩) hg
theorem B8.row (hb : B8 w w') {g : Nat} (hg : g < w.heap.size) : w'.heap[g]? = w.heap[g]? := Below.block hb g hg
end
theorem Cn.d64 {w : World} {A : Option Addr} {n c : Nat} {N M : Int} (h : Cn w A n c N) (hq : N < M) (hM : dl M ≤ 64) : dl N ≤ 64 := by
  have := dl_mono h.pos (Int.le_of_lt hq)
  omega
theorem gx_pow {P Q a s : Int} (hP : 2 ≤ P) (hQ : 1 ≤ Q) (h : El P Q a) (hs : 0 ≤ s) : a ^ s.toNat % P = gx P Q a s := by
  have h1 := (gx_eqm hP hQ h hs).emod
  have h2 : gx P Q a s % P = gx P Q a s := by unfold gx; exact Int.emod_emod_of_dvd _ (Int.dvd_refl P)
  rw [← h1, h2]
set_option maxRecDepth 100000 in
theorem ne_err8 (c : Int) : ∀ w : World, (binOp .neq 35 (.iface 71 (.int .i64 c)) .nilIface).run Tryz.prog w = .ok (.bool true) w := fun _ => rfl
set_option maxRecDepth 100000 in
theorem ne_nil8 : ∀ w : World, (binOp .neq 35 .nilIface .nilIface).run Tryz.prog w = .ok (.bool false) w := fun _ => rfl
/-! ### A proof in memory -/
theorem two_row {w : World} {g : Nat} {t : TypeId} {a b x y : Value} (hg : w.heap[g]? = some (.cells #[a, b] t (0, 0))) :
    ((w.setCell ⟨g, 0, none⟩ x).setCell ⟨g, 1, none⟩ y).heap[g]? = some (.cells #[x, y] t (0, 0)) := by
  have h1 := heap_setCell_same w g 0 _ _ x hg
  exact heap_setCell_same _ g 1 _ _ y h1
theorem Cn.far8 {w : World} {A : Option Addr} {n c g i : Nat} {N : Int} (h : Cn w A n c N) (hA : ∀ a, A = some a → 0 < n → a.block ≠ g) (v : Value) : Cn (w.setCell ⟨g, i, none⟩ v) A n c N :=
  ⟨⟨h.rd.len, fun hn => by
    obtain ⟨b, off, e, hb, hc⟩ := h.rd.cells hn
    have hne : b ≠ g := hA _ e hn
    exact ⟨b, off, e, by simpa using hb, fun j x hj => (World.cell?_of_block (heap_setCell_other w ⟨g, i, none⟩ b v hne)).trans (hc j x hj)⟩⟩, h.nc, h.c60, h.pos⟩
theorem sizePf : (Tryz.prog.info? 33).map (·.size) = some 2 := by kernel_rfl
theorem results_pf {fn : Func} {p u : Tmp} {ty : TypeId} (h : fn.results = #[.cell p ty, .tmp u]) (tmps : Array Value) (P : Program) (w : World) (g : Nat) (cs : Array Value)
    (hp : tmps.getD p undef = .pointer (some ⟨g, 0, none⟩)) (hl : (loadVar ty ⟨g, 0, none⟩).run P w = .ok (.agg cs) w) {v : Value} (hv : tmps.getD u undef = v) :
    (results fn tmps).run P w = .ok (.tuple #[.agg cs, v]) w := by
  rw [results_cell_tmp h, hp, hv]
  simp [asAddr, hl, Result.andThen]
theorem load_pf {w : World} {g : Nat} {x y : Value} (hg : w.heap[g]? = some (.cells #[x, y] 33 (0, 0))) : (loadVar 33 ⟨g, 0, none⟩).run Tryz.prog w = .ok (.agg #[x, y]) w :=
  run_loadVar_row w g _ _ _ _ _ hg Tryz.underlying33 rfl sizePf
/-- A proof was answered, in new memory. -/
def PrfA (E Z : Int) (w : World) (e : Ending) (w' : World) : Prop :=
  ∃ A1 n1 c1 A2 n2 c2, e = .returned (.tuple #[.agg #[.slice A1 n1 c1, .slice A2 n2 c2], .nilIface]) ∧ Cn w' A1 n1 c1 E ∧ Cn w' A2 n2 c2 Z ∧ B8 w w' ∧ (∀ a, A1 = some a → w.heap.size ≤ a.block) ∧ ∀ a, A2 = some a → w.heap.size ≤ a.block
/-- None was, and why. -/
def PrfE (code : Int) (w : World) (e : Ending) (w' : World) : Prop :=
  e = .returned (.tuple #[.agg #[.slice none 0 0, .slice none 0 0], .iface 71 (.int .i64 code)]) ∧ B8 w w'
/-- What lies behind the stores into the answer's own cells. -/
theorem B8.set2 {w w' : World} (h : B8 w w') {g : Nat} (hg : w.heap.size ≤ g) (x y : Value) : B8 w ((w'.setCell ⟨g, 0, none⟩ x).setCell ⟨g, 1, none⟩ y) :=
  Below.setCell (Below.setCell h hg x) hg y
theorem Cn.set2 {w : World} {A : Option Addr} {n c g : Nat} {N : Int} (h : Cn w A n c N) (hA : ∀ a, A = some a → 0 < n → a.block ≠ g) (x y : Value) : Cn ((w.setCell ⟨g, 0, none⟩ x).setCell ⟨g, 1, none⟩ y) A n c N :=
  (h.far8 hA x).far8 hA y
section
variable {w : World} {b : Nat} {d : Gd} {A A' Ae Az : Option Addr} {n c n' c' ne ce nz cz : Nat} {X Y E Z S K : Int}
/-! ### verdict -/
theorem verdict_any (h : Nm w A n c X) (h' : Nm w A' n' c' Y) :
    Calls Tryz.prog 52 #[.slice A n c, .slice A' n' c'] w (fun e w' => (∃ v, e = .returned v ∧ (X = Y ∧ v = .nilIface ∨ X ≠ Y ∧ v = .iface 71 (.int .i64 7))) ∧ B8 w w') := by
  go_enter Tryz.func52, Tryz.ntmps52
  go_wp2_with fail
  refine (ssame_any h h').mono ?_
  rintro e w1 ⟨⟨q, rfl, hq⟩, r, rfl⟩
  cases q with
  | true =>
    have HQ := Lib.hid (hq.1 rfl)
    clear hq
    go_wp2_with fail
    go_ret
    exact ⟨⟨_, rfl, .inl ⟨HQ.out, rfl⟩⟩, B8.drewN _ _⟩
  | false =>
    have HQ := Lib.hid (show X ≠ Y from fun e => by have := hq.2 e; cases this)
    clear hq
    go_wp2_with fail
    go_ret
    exact ⟨⟨_, rfl, .inr ⟨HQ.out, rfl⟩⟩, B8.drewN _ _⟩
/-! ### answered -/
set_option maxHeartbeats 1000000 in
theorem answered_any (h : Gr0 w b d) (he : Cn w A n c E) (hE : dl E ≤ 64) (hs : Nm w A' n' c' S) (hS : dl S ≤ 64) (hk : Nm w Az nz cz K) (hK : dl K ≤ 64) :
    Calls Tryz.prog 42 #[.pointer (some ⟨b, 0, none⟩), .slice A n c, .slice A' n' c', .slice Az nz cz] w
      (fun e w' => ∃ B m cap, e = .returned (.tuple #[.agg #[.slice A n c, .slice B m cap], .nilIface]) ∧ Cn w' A n c E ∧ Cn w' B m cap (respN d.Q E S K) ∧ B8 w w' ∧ ∀ a, B = some a → w.heap.size ≤ a.block) := by
  have HG := Lib.hid h
  have HE := Lib.hid he
  have HS := Lib.hid hs
  have HK := Lib.hid hk
  have lq : dl d.Q ≤ 64 := by have := h.lq; omega
  have q0 : 0 < d.Q := by have := h.safe.q3; omega
  have LQ := Lib.hid lq
  have Q0 := Lib.hid q0
  have q := ne_nil8
  have B0 := Lib.hid (B8.alloc w (.cells #[.slice none 0 0, .slice none 0 0] 33))
  have R0 := Lib.hid (heap_alloc_new w (.cells #[.slice none 0 0, .slice none 0 0] 33))
  clear h he hs hk lq q0
  go_enter Tryz.func42, Tryz.ntmps42
  go_wp2_with fail
  refine (gscalars_any (B0.out.gr0 HG.out)).mono ?_
  rintro e w1 ⟨bs, As, cs, lows, Bs, cBs, Ss, cSs, rfl, md, b1, -⟩
  have MD := Lib.hid md
  have B1 := Lib.hid (show B8 (w.alloc (.cells #[.slice none 0 0, .slice none 0 0] 33)) w1 from b1)
  clear md b1
  go_wp2_with fail
  refine (mmul_any MD.out (B1.out.cn (B0.out.cn HE.out)).nm (B1.out.nm (B0.out.nm HS.out)) hE hS).mono ?_
  rintro e w2 ⟨B2, m2, c2, rfl, k2, b2, -⟩
  have MD2 := Lib.hid (MD.out.below b2)
  have B2' := Lib.hid (B1.out.trans (show B8 w1 w2 from b2))
  have K2 := Lib.hid k2
  have L2 := Lib.hid (k2.d64 (Int.emod_lt_of_pos _ Q0.out) LQ.out)
  clear k2 b2 MD B1
  go_wp2_with fail
  refine (madd_any MD2.out (B2'.out.nm (B0.out.nm HK.out)) K2.out.nm hK L2.out).mono ?_
  rintro e w3 ⟨B3, m3, c3, rfl, k3, b3, n3⟩
  have B3' := Lib.hid (B2'.out.trans (show B8 w2 w3 from b3))
  have K3 := Lib.hid (show Cn w3 B3 m3 c3 (respN d.Q E S K) by
    have e : (K + E * S % d.Q) % d.Q = respN d.Q E S K := by unfold respN; rw [Int.add_emod, Int.emod_emod_of_dvd _ (Int.dvd_refl _), ← Int.add_emod]
    rw [← e]; exact k3)
  have z0 := B0.out.sz
  have z2 := B2'.out.sz
  have hsz : (w.alloc (.cells #[.slice none 0 0, .slice none 0 0] 33)).heap.size = w.heap.size + 1 := by simp
  have hlt : w.heap.size < (w.alloc (.cells #[.slice none 0 0, .slice none 0 0] 33)).heap.size := by omega
  have N3 := Lib.hid (show ∀ a, B3 = some a → w.heap.size + 1 ≤ a.block from fun a ha => by have := n3 a ha; omega)
  have CE := Lib.hid (B3'.out.cn (B0.out.cn HE.out))
  have ROW := Lib.hid ((B3'.out.row hlt).trans R0.out)
  have BW := Lib.hid (B0.out.trans B3'.out)
  clear k3 b3 n3 B2' MD2 K2 z0 z2 hsz hlt
  have y0 : w3.cell? ⟨w.heap.size, 0, none⟩ = some (.slice none 0 0) := cell_of_row w3 _ 0 _ _ _ ROW.out
  have y1 : w3.cell? ⟨w.heap.size, 1, none⟩ = some (.slice none 0 0) := cell_of_row w3 _ 1 _ _ _ ROW.out
  have z0 := frozen_of_row w3 _ 0 _ _ ROW.out
  have z1 := frozen_of_row w3 _ 1 _ _ ROW.out
  go_wp2_with fail
  refine bodyPost_ret (v := .tuple #[.agg #[.slice A n c, .slice B3 m3 c3], .nilIface]) (results_pf Tryz.results42 _ _ _ w.heap.size _ rfl (load_pf (two_row ROW.out)) rfl) rfl ?_
  refine ⟨B3, m3, c3, rfl, CE.out.set2 (fun a ha h0 => by have := HE.out.nm.blk h0 a ha; omega) _ _, K3.out.set2 (fun a ha _ => by have := N3.out a ha; omega) _ _, BW.out.set2 (Nat.le_refl _) _ _, fun a ha => by have := N3.out a ha; omega⟩
end
end Go.Proofs.YtloibmemlkfkfaaGreatDoor
/-
  What powers and begun of package sigma answer.
-/
namespace Go.Proofs.YtloibmemlkfkfaaGreatDoor
open Go.RowKit
set_option linter.unusedVariables false
section
variable {w : World} {b : Nat} {d : Gd} {A A' Ae Az : Option Addr} {n c n' c' ne ce nz cz : Nat} {X Y E Z S K : Int}
theorem gx_base (h : Gr w b d) (hs : Nm w A n c S) (lS : dl S ≤ 64) : Calls Tryz.prog 25 #[.pointer (some ⟨b, 0, none⟩), .slice A n c] w (Ans (gx d.P d.Q d.G S) w) := by
  have e := gx_pow h.safe.p2 h.safe.q1 h.el hs.pos
  rw [← e]
  exact gbase_any h hs lS
theorem gx_exp (h : Gr0 w b d) (ha : Nm w A n c X) (hs : Nm w A' n' c' S) (hx : El d.P d.Q X) (lS : dl S ≤ 64) : Calls Tryz.prog 26 #[.pointer (some ⟨b, 0, none⟩), .slice A n c, .slice A' n' c'] w (Ans (gx d.P d.Q X S) w) := by
  have e := gx_pow h.safe.p2 h.safe.q1 hx hs.pos
  rw [← e]
  exact gexp_any h ha hs hx lS
/-! ### powers -/
set_option maxHeartbeats 1000000 in
theorem powers_ok (h : Gr w b d) (ha : Nm w A n c X) (hs : Nm w A' n' c' S) (hx : El d.P d.Q X) (lS : dl S ≤ 64) :
    Calls Tryz.prog 41 #[.pointer (some ⟨b, 0, none⟩), .slice A n c, .slice A' n' c'] w
      (fun e w' => ∃ B1 m1 d1 B2 m2 d2, e = .returned (.tuple #[.slice B1 m1 d1, .slice B2 m2 d2, .nilIface]) ∧ Cn w' B1 m1 d1 (gx d.P d.Q d.G S) ∧ Cn w' B2 m2 d2 (gx d.P d.Q X S) ∧ B8 w w') := by
  have HG := Lib.hid h
  have HA := Lib.hid ha
  have HS := Lib.hid hs
  have HX := Lib.hid hx
  have q := ne_nil8
  clear h ha hs hx
  go_enter Tryz.func41, Tryz.ntmps41
  go_wp2_with fail
  refine (gx_base HG.out HS.out lS).mono ?_
  rintro e w1 ⟨B1, m1, d1, rfl, k1, b1, -⟩
  have B1' := Lib.hid (show B8 w w1 from b1)
  have K1 := Lib.hid k1
  clear k1 b1
  go_wp2_with fail
  refine (gx_exp (B1'.out.gr HG.out).toGr0 (B1'.out.nm HA.out) (B1'.out.nm HS.out) HX.out lS).mono ?_
  rintro e w2 ⟨B2, m2, d2, rfl, k2, b2, -⟩
  have B2' := Lib.hid (show B8 w1 w2 from b2)
  have K2 := Lib.hid k2
  clear k2 b2
  go_wp2_with fail
  go_ret3
  exact ⟨_, _, _, _, _, _, rfl, B2'.out.cn K1.out, K2.out, B1'.out.trans B2'.out⟩
theorem powers_no (h : Gr w b d) (ha : Nm w A n c X) (hs : Nm w A' n' c' S) (hx : ¬ El d.P d.Q X) (lS : dl S ≤ 64) :
    Calls Tryz.prog 41 #[.pointer (some ⟨b, 0, none⟩), .slice A n c, .slice A' n' c'] w
      (fun e w' => e = .returned (.tuple #[.slice none 0 0, .slice none 0 0, .iface 71 (.int .i64 8)]) ∧ B8 w w') := by
  have HG := Lib.hid h
  have HA := Lib.hid ha
  have HS := Lib.hid hs
  have HX := Lib.hid hx
  have q := ne_nil8
  have q8 := ne_err8 8
  clear h ha hs hx
  go_enter Tryz.func41, Tryz.ntmps41
  go_wp2_with fail
  refine (gx_base HG.out HS.out lS).mono ?_
  rintro e w1 ⟨B1, m1, d1, rfl, k1, b1, -⟩
  have B1' := Lib.hid (show B8 w w1 from b1)
  clear k1 b1
  go_wp2_with fail
  refine (gexp_no (B1'.out.gr HG.out).toGr0 (B1'.out.nm HA.out) _ HX.out).mono ?_
  rintro e w2 ⟨rfl, b2⟩
  have B2' := Lib.hid (show B8 w1 w2 from b2)
  clear b2
  go_wp2_with fail
  go_ret3
  exact ⟨rfl, B1'.out.trans B2'.out⟩
/-! ### begun -/
/-- A proof's two cells, boxed. -/
theorem pf_box (w : World) (x y : Value) : (w.alloc (.cells #[x, y] 33)).cell? ⟨w.heap.size, 0, none⟩ = some x ∧ (w.alloc (.cells #[x, y] 33)).cell? ⟨w.heap.size, 1, none⟩ = some y := by
  constructor <;> simp [World.cell?_alloc_at]
set_option maxHeartbeats 1000000 in
theorem begun_ok (h : Gr0 w b d) (ha : Nm w A n c X) (hy : Nm w A' n' c' Y) (hx : El d.P d.Q X) (hyE : El d.P d.Q Y) (he : Nm w Ae ne ce E) (lE : dl E ≤ 64) (hz : Nm w Az nz cz Z) (lZ : dl Z ≤ 64) :
    Calls Tryz.prog 50 #[.pointer (some ⟨b, 0, none⟩), .slice A n c, .slice A' n' c', .agg #[.slice Ae ne ce, .slice Az nz cz]] w
      (fun e w' => ∃ B m cap, e = .returned (.tuple #[.slice B m cap, .nilIface]) ∧ Cn w' B m cap (backE d.P d.Q X Y Z E) ∧ B8 w w') := by
  have HG := Lib.hid h
  have HA := Lib.hid ha
  have HY := Lib.hid hy
  have HX := Lib.hid hx
  have HYE := Lib.hid hyE
  have HE := Lib.hid he
  have HZ := Lib.hid hz
  have q := ne_nil8
  have B0 := Lib.hid (B8.alloc w (.cells #[.slice Ae ne ce, .slice Az nz cz] 33))
  have hlt : w.heap.size < (w.alloc (.cells #[.slice Ae ne ce, .slice Az nz cz] 33)).heap.size := by simp
  have LT := Lib.hid hlt
  have C0 := Lib.hid (pf_box w (.slice Ae ne ce) (.slice Az nz cz))
  clear h ha hy hx hyE he hz hlt
  go_enter Tryz.func50, Tryz.ntmps50
  go_wp2_with fail
  refine (gx_exp (B0.out.gr0 HG.out) (B0.out.nm HA.out) (B0.out.nm HZ.out) HX.out lZ).mono ?_
  rintro e w1 ⟨B1, m1, d1, rfl, k1, b1, -⟩
  have B1' := Lib.hid (show B8 (w.alloc (.cells #[.slice Ae ne ce, .slice Az nz cz] 33)) w1 from b1)
  have K1 := Lib.hid k1
  have x0 := (B1'.out.cell (o := 0) LT.out).trans C0.out.1
  clear k1 b1
  go_wp2_with fail
  refine (gx_exp (B1'.out.gr0 (B0.out.gr0 HG.out)) (B1'.out.nm (B0.out.nm HY.out)) (B1'.out.nm (B0.out.nm HE.out)) HYE.out lE).mono ?_
  rintro e w2 ⟨B2, m2, d2, rfl, k2, b2, -⟩
  have B2' := Lib.hid (B1'.out.trans (show B8 w1 w2 from b2))
  have K1b := Lib.hid (B8.cn (show B8 w1 w2 from b2) K1.out)
  have K2 := Lib.hid k2
  have sf := Lib.hid HG.out.safe
  clear k2 b2 x0 B1' K1
  go_wp2_with fail
  refine (gover_any (B2'.out.gr0 (B0.out.gr0 HG.out)) K1b.out.nm K2.out.nm (gx_el sf.out.p2 sf.out.q1 HX.out Z) (gx_el sf.out.p2 sf.out.q1 HYE.out E)).mono ?_
  rintro e w3 ⟨B3, m3, d3, rfl, k3, b3, -⟩
  have B3' := Lib.hid (B0.out.trans (B2'.out.trans (show B8 w2 w3 from b3)))
  have K3 := Lib.hid (show Cn w3 B3 m3 d3 (backE d.P d.Q X Y Z E) from k3)
  clear k3 b3
  go_wp2_with fail
  go_ret2
  exact ⟨_, _, _, rfl, K3.out, B3'.out⟩
set_option maxHeartbeats 1000000 in
theorem begun_no (h : Gr0 w b d) (ha : Nm w A n c X) (hy : Nm w A' n' c' Y) (hx : ¬ (El d.P d.Q X ∧ El d.P d.Q Y)) (he : Nm w Ae ne ce E) (hz : Nm w Az nz cz Z) (lZ : dl Z ≤ 64) :
    Calls Tryz.prog 50 #[.pointer (some ⟨b, 0, none⟩), .slice A n c, .slice A' n' c', .agg #[.slice Ae ne ce, .slice Az nz cz]] w
      (fun e w' => e = .returned (.tuple #[.slice none 0 0, .iface 71 (.int .i64 8)]) ∧ B8 w w') := by
  have HG := Lib.hid h
  have HA := Lib.hid ha
  have HY := Lib.hid hy
  have HE := Lib.hid he
  have HZ := Lib.hid hz
  have q := ne_nil8
  have q8 := ne_err8 8
  have B0 := Lib.hid (B8.alloc w (.cells #[.slice Ae ne ce, .slice Az nz cz] 33))
  have hlt : w.heap.size < (w.alloc (.cells #[.slice Ae ne ce, .slice Az nz cz] 33)).heap.size := by simp
  have LT := Lib.hid hlt
  have C0 := Lib.hid (pf_box w (.slice Ae ne ce) (.slice Az nz cz))
  clear h ha hy he hz hlt
  by_cases hX : El d.P d.Q X
  · have hY : ¬ El d.P d.Q Y := fun k => hx ⟨hX, k⟩
    have HX := Lib.hid hX
    have HYN := Lib.hid hY
    clear hx hX hY
    go_enter Tryz.func50, Tryz.ntmps50
    go_wp2_with fail
    refine (gx_exp (B0.out.gr0 HG.out) (B0.out.nm HA.out) (B0.out.nm HZ.out) HX.out lZ).mono ?_
    rintro e w1 ⟨B1, m1, d1, rfl, k1, b1, -⟩
    have B1' := Lib.hid (show B8 (w.alloc (.cells #[.slice Ae ne ce, .slice Az nz cz] 33)) w1 from b1)
    have x0 := (B1'.out.cell (o := 0) LT.out).trans C0.out.1
    clear k1 b1
    go_wp2_with fail
    refine (gexp_no (B1'.out.gr0 (B0.out.gr0 HG.out)) (B1'.out.nm (B0.out.nm HY.out)) _ HYN.out).mono ?_
    rintro e w2 ⟨rfl, b2⟩
    have B2' := Lib.hid (B0.out.trans (B1'.out.trans (show B8 w1 w2 from b2)))
    clear b2 x0
    go_wp2_with fail
    go_ret2
    exact ⟨rfl, B2'.out⟩
  · have HXN := Lib.hid hX
    clear hx hX
    go_enter Tryz.func50, Tryz.ntmps50
    go_wp2_with fail
    refine (gexp_no (B0.out.gr0 HG.out) (B0.out.nm HA.out) _ HXN.out).mono ?_
    rintro e w2 ⟨rfl, b2⟩
    have B2' := Lib.hid (B0.out.trans (show B8 (w.alloc (.cells #[.slice Ae ne ce, .slice Az nz cz] 33)) w2 from b2))
    clear b2
    go_wp2_with fail
    go_ret2
    exact ⟨rfl, B2'.out⟩
end
end Go.Proofs.YtloibmemlkfkfaaGreatDoor
/-
  What proveOne, Know, Sign and Equal of package sigma answer.
-/
namespace Go.Proofs.YtloibmemlkfkfaaGreatDoor
open Go.RowKit
set_option linter.unusedVariables false
/-- Numbers in a row. -/
def lsI (L : List Int) : Nat → Int := fun i => L.getD i 0
theorem chl_congr {P Q : Int} {lab ctx : List Int} {E F : Nat → Int} {n : Nat} (h : ∀ i, i < n → E i = F i) : chl P Q lab ctx E n = chl P Q lab ctx F n := by
  unfold chl chP
  rw [List.map_congr_left fun i hi => by rw [h i (List.mem_range.1 hi)]]
theorem lst_ls (L : List Nsl) (i : Nat) (h : i < L.length) : (lstN L i).N = lsI (L.map (·.N)) i := by
  simp [lstN, lsI, h]
theorem chl_nn {P Q : Int} (hQ : 0 < Q) {lab ctx : List Int} {E : Nat → Int} {n : Nat} : 0 ≤ chl P Q lab ctx E n ∧ chl P Q lab ctx E n < Q := ⟨Int.emod_nonneg _ (by omega), Int.emod_lt_of_pos _ hQ⟩
/-- The challenge of a proof that a scalar is known. -/
def knE (P Q G : Int) (lab ctx : List Int) (S K : Int) : Int := chl P Q lab ctx (lsI [gx P Q G S, gx P Q G K]) 2
def lbE : ByteArray := ⟨#[101, 113, 117, 97, 108]⟩
def lbK : ByteArray := ⟨#[107, 110, 111, 119]⟩
def lbS : ByteArray := ⟨#[115, 105, 103, 110]⟩
def eqE (P Q G : Int) (ctx : List Int) (a S K : Int) : Int := chl P Q (strB lbE) ctx (lsI [gx P Q G S, a, gx P Q a S, gx P Q G K, gx P Q a K]) 5
section
variable {w : World} {b : Nat} {d : Gd} {A A' Ac Ak : Option Addr} {n c n' c' nc cc nk ck : Nat} {X Y S K : Int} {ctx : List Int}
theorem chal2 (h : Gr0 w b d) (hT : Tabs w) (s : ByteArray) (hs : s.size ≤ 100) (hc : Bz w Ac nc ctx) (hnc : nc ≤ 140737488355328) (h1 : Nm w A n c X) (h2 : Nm w A' n' c' Y) :
    Calls Tryz.prog 43 #[.pointer (some ⟨b, 0, none⟩), .string s, .slice Ac nc cc, .slice (some ⟨w.heap.size, 0, none⟩) 2 2] (w.alloc (.cells #[.slice A n c, .slice A' n' c'] 24))
      (Ans1 (chl d.P d.Q (strB s) ctx (lsI [X, Y]) 2) (w.alloc (.cells #[.slice A n c, .slice A' n' c'] 24))) := by
  have B0 := B8.alloc w (.cells #[.slice A n c, .slice A' n' c'] 24)
  have e : chl d.P d.Q (strB s) ctx (fun i => (lstN [⟨A, n, c, X⟩, ⟨A', n', c', Y⟩] i).N) 2 = chl d.P d.Q (strB s) ctx (lsI [X, Y]) 2 := chl_congr (fun i hi => lst_ls [⟨A, n, c, X⟩, ⟨A', n', c', Y⟩] i hi)
  rw [← e]
  exact chal_any (cc := cc) (B0.gr0 h) (B0.tabs hT) s hs (B0.bz hc) hnc (ns_lit2 h1 h2 rfl) (by decide)
theorem chal5 (h : Gr0 w b d) (hT : Tabs w) (s : ByteArray) (hs : s.size ≤ 100) (hc : Bz w Ac nc ctx) (hnc : nc ≤ 140737488355328)
    {A1 A2 A3 A4 A5 : Option Addr} {n1 c1 n2 c2 n3 c3 n4 c4 n5 c5 : Nat} {X1 X2 X3 X4 X5 : Int} (h1 : Nm w A1 n1 c1 X1) (h2 : Nm w A2 n2 c2 X2) (h3 : Nm w A3 n3 c3 X3) (h4 : Nm w A4 n4 c4 X4) (h5 : Nm w A5 n5 c5 X5) :
    Calls Tryz.prog 43 #[.pointer (some ⟨b, 0, none⟩), .string s, .slice Ac nc cc, .slice (some ⟨w.heap.size, 0, none⟩) 5 5] (w.alloc (.cells #[.slice A1 n1 c1, .slice A2 n2 c2, .slice A3 n3 c3, .slice A4 n4 c4, .slice A5 n5 c5] 24))
      (Ans1 (chl d.P d.Q (strB s) ctx (lsI [X1, X2, X3, X4, X5]) 5) (w.alloc (.cells #[.slice A1 n1 c1, .slice A2 n2 c2, .slice A3 n3 c3, .slice A4 n4 c4, .slice A5 n5 c5] 24))) := by
  have B0 := B8.alloc w (.cells #[.slice A1 n1 c1, .slice A2 n2 c2, .slice A3 n3 c3, .slice A4 n4 c4, .slice A5 n5 c5] 24)
  have e : chl d.P d.Q (strB s) ctx (fun i => (lstN [⟨A1, n1, c1, X1⟩, ⟨A2, n2, c2, X2⟩, ⟨A3, n3, c3, X3⟩, ⟨A4, n4, c4, X4⟩, ⟨A5, n5, c5, X5⟩] i).N) 5 = chl d.P d.Q (strB s) ctx (lsI [X1, X2, X3, X4, X5]) 5 := chl_congr (fun i hi => lst_ls [⟨A1, n1, c1, X1⟩, ⟨A2, n2, c2, X2⟩, ⟨A3, n3, c3, X3⟩, ⟨A4, n4, c4, X4⟩, ⟨A5, n5, c5, X5⟩] i hi)
  rw [← e]
  exact chal_any (cc := cc) (B0.gr0 h) (B0.tabs hT) s hs (B0.bz hc) hnc (ns_lit5 h1 h2 h3 h4 h5 rfl) (by decide)
theorem chal2d (h : Gr0 w b d) (hT : Tabs w) (s : ByteArray) (hs : s.size ≤ 100) (hc : Bz w Ac nc ctx) (hnc : nc ≤ 140737488355328) (h1 : Nm w A n c X) (h2 : Nm w A' n' c' Y) :
    Calls Tryz.prog 43 #[.pointer (some ⟨b, 0, none⟩), .string s, .slice Ac nc cc, .slice (some ⟨w.heap.size, 0, none⟩) 2 2] (w.alloc (.cells #[.slice A n c, .slice A' n' c'] 24)).drew
      (Ans1 (chl d.P d.Q (strB s) ctx (lsI [X, Y]) 2) (w.alloc (.cells #[.slice A n c, .slice A' n' c'] 24)).drew) := by
  have B0 := (B8.alloc w (.cells #[.slice A n c, .slice A' n' c'] 24)).trans (B8.drew _)
  have e : chl d.P d.Q (strB s) ctx (fun i => (lstN [⟨A, n, c, X⟩, ⟨A', n', c', Y⟩] i).N) 2 = chl d.P d.Q (strB s) ctx (lsI [X, Y]) 2 := chl_congr (fun i hi => lst_ls [⟨A, n, c, X⟩, ⟨A', n', c', Y⟩] i hi)
  rw [← e]
  exact chal_any (cc := cc) (B0.gr0 h) (B0.tabs hT) s hs (B0.bz hc) hnc ((B8.drew _).ns (ns_lit2 h1 h2 rfl)) (by decide)
theorem chal5d (h : Gr0 w b d) (hT : Tabs w) (s : ByteArray) (hs : s.size ≤ 100) (hc : Bz w Ac nc ctx) (hnc : nc ≤ 140737488355328)
    {A1 A2 A3 A4 A5 : Option Addr} {n1 c1 n2 c2 n3 c3 n4 c4 n5 c5 : Nat} {X1 X2 X3 X4 X5 : Int} (h1 : Nm w A1 n1 c1 X1) (h2 : Nm w A2 n2 c2 X2) (h3 : Nm w A3 n3 c3 X3) (h4 : Nm w A4 n4 c4 X4) (h5 : Nm w A5 n5 c5 X5) :
    Calls Tryz.prog 43 #[.pointer (some ⟨b, 0, none⟩), .string s, .slice Ac nc cc, .slice (some ⟨w.heap.size, 0, none⟩) 5 5] (w.alloc (.cells #[.slice A1 n1 c1, .slice A2 n2 c2, .slice A3 n3 c3, .slice A4 n4 c4, .slice A5 n5 c5] 24)).drew
      (Ans1 (chl d.P d.Q (strB s) ctx (lsI [X1, X2, X3, X4, X5]) 5) (w.alloc (.cells #[.slice A1 n1 c1, .slice A2 n2 c2, .slice A3 n3 c3, .slice A4 n4 c4, .slice A5 n5 c5] 24)).drew) := by
  have B0 := (B8.alloc w (.cells #[.slice A1 n1 c1, .slice A2 n2 c2, .slice A3 n3 c3, .slice A4 n4 c4, .slice A5 n5 c5] 24)).trans (B8.drew _)
  have e : chl d.P d.Q (strB s) ctx (fun i => (lstN [⟨A1, n1, c1, X1⟩, ⟨A2, n2, c2, X2⟩, ⟨A3, n3, c3, X3⟩, ⟨A4, n4, c4, X4⟩, ⟨A5, n5, c5, X5⟩] i).N) 5 = chl d.P d.Q (strB s) ctx (lsI [X1, X2, X3, X4, X5]) 5 := chl_congr (fun i hi => lst_ls [⟨A1, n1, c1, X1⟩, ⟨A2, n2, c2, X2⟩, ⟨A3, n3, c3, X3⟩, ⟨A4, n4, c4, X4⟩, ⟨A5, n5, c5, X5⟩] i hi)
  rw [← e]
  exact chal_any (cc := cc) (B0.gr0 h) (B0.tabs hT) s hs (B0.bz hc) hnc ((B8.drew _).ns (ns_lit5 h1 h2 h3 h4 h5 rfl)) (by decide)
theorem refusal2 (h1 : Nm w A n c X) (h2 : Nm w A' n' c' Y) :
    Calls Tryz.prog 40 #[.pointer (some ⟨b, 0, none⟩), .slice (some ⟨w.heap.size, 0, none⟩) 2 2] (w.alloc (.cells #[.slice A n c, .slice A' n' c'] 24))
      (fun e w' => ((64 < dl X ∨ 64 < dl Y) ∧ e = .returned (.iface 71 (.int .i64 2)) ∨ (dl X ≤ 64 ∧ dl Y ≤ 64) ∧ e = .returned .nilIface) ∧ w.alloc (.cells #[.slice A n c, .slice A' n' c'] 24) = w') :=
  (refusal_any (ns_lit2 h1 h2 rfl)).mono fun e w' ⟨h, hw⟩ => ⟨h.imp (fun ⟨⟨i, hi, g⟩, he⟩ => ⟨by
    rcases (show i = 0 ∨ i = 1 by omega) with rfl | rfl
    · exact .inl g
    · exact .inr g, he⟩) (fun ⟨g, he⟩ => ⟨⟨g 0 (by decide), g 1 (by decide)⟩, he⟩), hw⟩
/-- What lies where the answer will lie. -/
theorem res_row (w : World) : (w.alloc (.cells #[.slice none 0 0, .slice none 0 0] 33)).heap[w.heap.size]? = some (.cells #[.slice none 0 0, .slice none 0 0] 33 (0, 0)) := heap_alloc_new w _
set_option maxHeartbeats 4000000 in
theorem prove_ok (h : Gr w b d) (hT : Tabs w) (s : ByteArray) (hs : s.size ≤ 100) (hc : Bz w Ac nc ctx) (hnc : nc ≤ 140737488355328) (hS : Nm w A n c S) (lS : dl S ≤ 64) (hK : Nm w A' n' c' K) (lK : dl K ≤ 64) :
    Calls Tryz.prog 39 #[.pointer (some ⟨b, 0, none⟩), .string s, .slice Ac nc cc, .slice A n c, .slice A' n' c'] w (PrfA (knE d.P d.Q d.G (strB s) ctx S K) (respN d.Q (knE d.P d.Q d.G (strB s) ctx S K) S K) w) := by
  have HG := Lib.hid h
  have HT := Lib.hid hT
  have HC := Lib.hid hc
  have HS := Lib.hid hS
  have HK := Lib.hid hK
  have q0 : 0 < d.Q := by have := h.safe.q3; omega
  have lq : dl d.Q ≤ 64 := by have := h.lq; omega
  have Q0 := Lib.hid q0
  have LQ := Lib.hid lq
  have q := ne_nil8
  have B0 := Lib.hid (B8.alloc w (.cells #[.slice none 0 0, .slice none 0 0] 33))
  have R0 := Lib.hid (res_row w)
  have LT := Lib.hid (show w.heap.size < (w.alloc (.cells #[.slice none 0 0, .slice none 0 0] 33)).heap.size by simp)
  obtain ⟨w0, hw0⟩ : ∃ w0, w.alloc (.cells #[.slice none 0 0, .slice none 0 0] 33) = w0 := ⟨_, rfl⟩
  rw [hw0] at B0 R0 LT
  have hsz : w0.heap.size = w.heap.size + 1 := by rw [← hw0]; simp
  clear h hT hc hS hK q0 lq
  go_enter Tryz.func39, Tryz.ntmps39
  go_wp2_with fail
  have L1 := refusal2 (b := b) (B0.out.nm HS.out) (B0.out.nm HK.out)
  rw [hsz] at L1
  refine L1.mono ?_
  rintro e w1 ⟨hh, rfl⟩
  have he : e = .returned .nilIface := by
    rcases hh with ⟨h1, -⟩ | ⟨-, h1⟩
    · omega
    · exact h1
  subst he
  have B1 := Lib.hid (B8.alloc w0 (.cells #[.slice A n c, .slice A' n' c'] 24))
  clear hh L1
  go_wp2_with fail
  refine (gx_base (B1.out.gr (B0.out.gr HG.out)) (B1.out.nm (B0.out.nm HS.out)) lS).mono ?_
  rintro e w2 ⟨B2, m2, d2, rfl, k2, b2, -⟩
  have B2' := Lib.hid (B1.out.trans (show B8 _ w2 from b2))
  have K2 := Lib.hid k2
  clear k2 b2 B1
  go_wp2_with fail
  refine (gx_base (B2'.out.gr (B0.out.gr HG.out)) (B2'.out.nm (B0.out.nm HK.out)) lK).mono ?_
  rintro e w3 ⟨B3, m3, d3, rfl, k3, b3, -⟩
  have B3' := Lib.hid (B2'.out.trans (show B8 w2 w3 from b3))
  have K2b := Lib.hid (B8.cn (show B8 w2 w3 from b3) K2.out)
  have K3 := Lib.hid k3
  clear k3 b3 B2' K2
  go_wp2_with fail
  refine (chal2 (B3'.out.gr (B0.out.gr HG.out)).toGr0 (B3'.out.tabs (B0.out.tabs HT.out)) s hs (B3'.out.bz (B0.out.bz HC.out)) hnc K2b.out.nm K3.out.nm).mono ?_
  rintro e w4 ⟨B4, m4, d4, rfl, k4, b4, n4⟩
  have B4' := Lib.hid (B3'.out.trans ((B8.alloc w3 (.cells #[.slice B2 m2 d2, .slice B3 m3 d3] 24)).trans (show B8 _ w4 from b4)))
  have K4 := Lib.hid (show Cn w4 B4 m4 d4 (knE d.P d.Q d.G (strB s) ctx S K) from k4)
  have z3 := B3'.out.sz
  have N4 := Lib.hid (show ∀ a, B4 = some a → w.heap.size + 1 ≤ a.block from fun a ha => by
    have h1 := n4 a ha
    have h2 : w3.heap.size ≤ (w3.alloc (.cells #[.slice B2 m2 d2, .slice B3 m3 d3] 24)).heap.size := by simp
    omega)
  clear k4 b4 n4 B3' K2b K3
  go_wp2_with fail
  refine (answered_any (B4'.out.gr (B0.out.gr HG.out)).toGr0 K4.out (K4.out.d64 (chl_nn Q0.out).2 LQ.out) (B4'.out.nm (B0.out.nm HS.out)) lS (B4'.out.nm (B0.out.nm HK.out)) lK).mono ?_
  rintro e w5 ⟨B5, m5, d5, rfl, k4, k5, b5, n5⟩
  have K4b := Lib.hid k4
  have K5 := Lib.hid k5
  have z4 := B4'.out.sz
  have N5 := Lib.hid (show ∀ a, B5 = some a → w.heap.size + 1 ≤ a.block from fun a ha => by have := n5 a ha; omega)
  have B5' := Lib.hid (B4'.out.trans b5)
  have ROW := Lib.hid ((B5'.out.row LT.out).trans R0.out)
  clear k4 k5 b5 n5 K4 B4'
  have y0 : w5.cell? ⟨w.heap.size, 0, none⟩ = some (.slice none 0 0) := cell_of_row w5 _ 0 _ _ _ ROW.out
  have y1 : w5.cell? ⟨w.heap.size, 1, none⟩ = some (.slice none 0 0) := cell_of_row w5 _ 1 _ _ _ ROW.out
  have z0 := frozen_of_row w5 _ 0 _ _ ROW.out
  have z1 := frozen_of_row w5 _ 1 _ _ ROW.out
  go_wp2_with fail
  refine bodyPost_ret (v := .tuple #[.agg #[.slice B4 m4 d4, .slice B5 m5 d5], .nilIface]) (results_pf Tryz.results39 _ _ _ w.heap.size _ rfl (load_pf (two_row ROW.out)) rfl) rfl ?_
  refine ⟨B4, m4, d4, B5, m5, d5, rfl, K4b.out.set2 (fun a ha _ => by have := N4.out a ha; omega) _ _, K5.out.set2 (fun a ha _ => by have := N5.out a ha; omega) _ _, (B0.out.trans B5'.out).set2 (Nat.le_refl _) _ _, fun a ha => by have := N4.out a ha; omega, fun a ha => by have := N5.out a ha; omega⟩
end
end Go.Proofs.YtloibmemlkfkfaaGreatDoor
