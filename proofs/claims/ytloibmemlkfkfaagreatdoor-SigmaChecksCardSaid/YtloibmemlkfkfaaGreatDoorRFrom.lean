/-
  The document's own way from bytes and to bytes: what treenailref01.From and Bytes answer; treenaillaw00.Code.
-/
import Derived.Test.YtloibmemlkfkfaaGreatDoorDoc
import Derived.Test.YtloibmemlkfkfaaGreatDoorPkg
import Derived.Deep.RegionHeld3
namespace Go.Proofs.YtloibmemlkfkfaaGreatDoor
open Go.RowKit
set_option linter.unusedVariables false
/-- The number that the first k bytes are, the highest first. -/
def pv (bs : List Int) : Nat → Int
  | 0 => 0
  | k + 1 => pv bs k * 256 + dig bs k
theorem pv_low (bs : List Int) (n : Nat) : ∀ m, m ≤ n → pv bs m * 256 ^ (n - m) + low bs n (n - m) = low bs n n := by
  intro m
  induction m with
  | zero => intro _; simp [pv]
  | succ m ih =>
    intro hm
    have h := ih (by omega)
    have e1 : n - m = (n - (m + 1)) + 1 := by omega
    rw [e1, low_succ, Int.pow_succ, show n - 1 - (n - (m + 1)) = m by omega] at h
    simp only [pv]
    rw [← h]
    generalize (256 : Int) ^ (n - (m + 1)) = p
    grind
theorem pv_all (bs : List Int) (n : Nat) : pv bs n = low bs n n := by
  have h := pv_low bs n n (Nat.le_refl _)
  simpa [low, vf] using h
theorem pv_bd {bs : List Int} (hd : Dig 256 bs) (k : Nat) : 0 ≤ pv bs k ∧ pv bs k < 256 ^ k := by
  induction k with
  | zero => simp [pv]
  | succ k ih =>
    have d := dig_bd (b := 256) (by decide) hd k
    have e : (256 : Int) ^ (k + 1) = 256 ^ k * 256 := Int.pow_succ _ _
    simp only [pv]
    rw [e]
    have := Int.mul_le_mul_of_nonneg_right (show pv bs k + 1 ≤ 256 ^ k by omega) (show (0 : Int) ≤ 256 by decide)
    omega
theorem pow_D256 : (256 : Int) ^ 512 = D ^ 256 := by
  have h1 : (256 : Int) = 2 ^ 8 := by decide
  rw [D_pow, h1, ← Int.pow_mul]
theorem dr_pow {x : Int} {k : Nat} (h0 : 0 ≤ x) (h : x < 256 ^ k) (hk : k ≤ 512) : dr x ≤ 256 := by
  refine dg_len_le D_two h0 ?_
  have := pow_mono (b := 256) (by decide) hk
  rw [← pow_D256]; omega
theorem dr_pow2 {x : Int} {k : Nat} (h0 : 0 ≤ x) (h : x < 256 ^ k) (hk : k ≤ 512) : dr (x * 256) ≤ 257 := by
  refine dg_len_le D_two (by omega) ?_
  have := pow_mono (b := 256) (by decide) hk
  have e : D ^ 257 = D ^ 256 * D := Int.pow_succ _ _
  rw [e, ← pow_D256]
  generalize (256 : Int) ^ 512 = p at *
  have h3 := Int.mul_le_mul_of_nonneg_left (show (256 : Int) ≤ D by decide) (show 0 ≤ p by omega)
  omega
theorem Rn.drew_ {w : World} {A : Option Addr} {n c : Nat} {N : Int} (h : Rn w A n c N) : Rn w.drew A n c N := ⟨h.rd.drew, h.nc, h.n60, h.pos⟩
theorem rlit2 (w : World) (b : Int) : Rn ((w.alloc (.cells #[.int .i64 b] 3)).alloc (.cells #[.int .i64 256] 3)).drew (some ⟨w.heap.size + 1, 0, none⟩) 1 1 256 := by
  have h := rlit (w.alloc (.cells #[.int .i64 b] 3)) (x := 256) (by decide) (by decide)
  have e : (w.alloc (.cells #[.int .i64 b] 3)).heap.size = w.heap.size + 1 := by simp
  rw [e] at h
  exact h.drew_
theorem below_dr1 {w w' : World} {o : Obj} (h : Below (w.alloc o).drew.heap.size (w.alloc o).drew w') : Below w.heap.size w w' :=
  (((Below.refl _ _).alloc (Nat.le_refl _) _).drew).trans (h.mono (by show w.heap.size ≤ (w.alloc o).heap.size; simp))
theorem below_dr2 {w w' : World} {o o' : Obj} (h : Below ((w.alloc o).alloc o').drew.heap.size ((w.alloc o).alloc o').drew w') : Below w.heap.size w w' :=
  below_one (below_dr1 h)
theorem row_b1 {w w' : World} {b : Int} {o' : Obj} (h : Below ((w.alloc (.cells #[.int .i64 b] 3)).alloc o').drew.heap.size ((w.alloc (.cells #[.int .i64 b] 3)).alloc o').drew w') : Row w' w.heap.size 3 .i64 [b] :=
  ((Row.new w 3 .i64 [b]).alloc o').drew.below h (by show w.heap.size < ((w.alloc _).alloc o').heap.size; simp; omega)
theorem row_b2 {w w' : World} {b : Int} {o : Obj} (h : Below ((w.alloc o).alloc (.cells #[.int .i64 b] 3)).drew.heap.size ((w.alloc o).alloc (.cells #[.int .i64 b] 3)).drew w') : Row w' (w.heap.size + 1) 3 .i64 [b] := by
  have hr := Row.new (w.alloc o) 3 .i64 [b]
  have e : (w.alloc o).heap.size = w.heap.size + 1 := by simp
  rw [e] at hr
  exact hr.drew.below h (by show w.heap.size + 1 < ((w.alloc o).alloc _).heap.size; simp)
theorem row_n (w : World) (b : Int) : Row (w.alloc (.cells #[.int .i64 b] 3)) w.heap.size 3 .i64 [b] := Row.new w 3 .i64 [b]
theorem trim_lit {w : World} {g : Nat} {b : Int} (hr : Row w g 3 .i64 [b]) (h0 : 0 ≤ b) (h1 : b < 65536) :
    Calls Tryz.prog 64 #[.slice (some ⟨g, 0, none⟩) 1 1] w fun e w' => (∃ m, e = .returned (.slice (some ⟨g, 0, none⟩) m 1) ∧ Rn w (some ⟨g, 0, none⟩) m 1 b ∧ m ≤ 1) ∧ w = w' := by
  have hrd : Rd .i64 w (some ⟨g, 0, none⟩) 1 [b] := hr.rd rfl (fun j y hy => by rwa [Nat.zero_add])
  have hd : Dig D [b] := fun x hx => by simp at hx; subst hx; exact ⟨h0, h1⟩
  have e : val D [b] = b := by simp [val]
  have k := trim_own hrd hd (Nat.le_refl 1) (by omega)
  rw [e] at k
  refine (trim_any _ 1 1 [b] w hrd hd (Nat.le_refl _) (by omega)).mono fun e' w' ⟨he, hw⟩ => ⟨⟨dr b, by rw [he, e], k, k.nc⟩, hw⟩
def RfR (bs : List Int) (n : Nat) (w : World) (o i : Value) (wr : World) : Prop :=
  ∃ (k : Nat) (B : Option Addr) (m cap : Nat), k ≤ n ∧ i = .int .i64 k ∧ o = .slice B m cap ∧ Rn wr B m cap (pv bs k) ∧ Below w.heap.size w wr
set_option maxHeartbeats 4000000 in
theorem rfrom_any {A : Option Addr} {n c : Nat} {bs : List Int} {w : World} (h : Rd .u8 w A n bs) (hd : Dig 256 bs) (hn : n ≤ 512) :
    Calls Tryz.prog 84 #[.slice A n c] w (AnsN (pv bs n) w) := by
  go_enter Tryz.func84, Tryz.ntmps84
  go_wp2_with fail
  go_loopw [3, 4] (fun o i wr => RfR bs n w o i wr) (fun _ i _ => n - (intOf i).toNat)
  case atStart => exact ⟨0, none, 0, 0, Nat.zero_le _, rfl, rfl, Rn.nil _, Below.refl _ _⟩
  case round =>
    obtain ⟨k, B, m, cap, hk, rfl, rfl, ko, hb⟩ := hrel
    rcases Nat.lt_or_ge k n with hlt | hge
    · obtain ⟨ba, oa, b, rfl, hba, hbx, hcb⟩ := (h.below hb).at_ hlt
      have hbe := dig_lt hbx
      have db := dig_bd (b := 256) (by decide) hd k
      rw [hbe] at db
      have HBE := Lib.hid hbe
      have hkn : (k : Int) < (n : Int) := by omega
      clear hbx hbe
      have hpk := pv_bd hd k
      have hdk : dr (pv bs k) ≤ 256 := dr_pow hpk.1 hpk.2 (by omega)
      have hdk2 : dr (pv bs k * 256) ≤ 257 := dr_pow2 hpk.1 hpk.2 (by omega)
      have hm : m ≤ 256 := by have := ko.len_; omega
      have hne := World.new_ne wr ⟨ba, oa + k, none⟩ hcb
      have oA := (ko.below ((Below.refl _ _).alloc (Nat.le_refl _) (.cells #[.int .i64 256] 3))).drew_
      have lA := (rlit wr (x := 256) (by decide) (by decide)).drew_
      have oB := ((ko.below ((Below.refl _ _).alloc (Nat.le_refl _) (.cells #[.int .i64 256] 3))).below ((Below.refl _ _).alloc (Nat.le_refl _) (.cells #[.int .i64 b] 3))).drew_
      have lB := ((rlit wr (x := 256) (by decide) (by decide)).below ((Below.refl _ _).alloc (Nat.le_refl _) (.cells #[.int .i64 b] 3))).drew_
      have oC := ((ko.below ((Below.refl _ _).alloc (Nat.le_refl _) (.cells #[.int .i64 b] 3))).below ((Below.refl _ _).alloc (Nat.le_refl _) (.cells #[.int .i64 256] 3))).drew_
      have lC := rlit2 wr b
      have OA := Lib.hid oA
      have LA := Lib.hid lA
      have OB := Lib.hid oB
      have LB := Lib.hid lB
      have OC := Lib.hid oC
      have LC := Lib.hid lC
      have HLT := Lib.hid hba
      have hwb : IntKind.i64.wrap b = b := IntWalk.i64_in _ (by omega)
      clear oA lA oB lB oC lC
      go_wp2_with fail
      go_region_held3 (fun w' => w'.cell? ⟨ba, oa + k, none⟩ = some (.int .u8 b)) (first | go_keep | assumption)
        (first
          | (go_at_call 74; (first
              | ((with_reducible refine (rmul_any OA.out LA.out (by omega) (by omega)).mono ?_); rintro e w4 ⟨Bm, mm, cm, rfl, km, bm⟩; have hmm : mm ≤ 257 := (by have := km.len_; omega); have bM := below_dr1 bm; have hS := (bM.cell (p := ⟨ba, oa + k, none⟩) HLT.out).trans hcb; clear bm)
              | ((with_reducible refine (rmul_any OB.out LB.out (by omega) (by omega)).mono ?_); rintro e w4 ⟨Bm, mm, cm, rfl, km, bm⟩; have hmm : mm ≤ 257 := (by have := km.len_; omega); have bM := below_dr2 bm; have hS := (bM.cell (p := ⟨ba, oa + k, none⟩) HLT.out).trans hcb; have rM := row_b2 bm; clear bm)
              | ((with_reducible refine (rmul_any OC.out LC.out (by omega) (by omega)).mono ?_); rintro e w4 ⟨Bm, mm, cm, rfl, km, bm⟩; have hmm : mm ≤ 257 := (by have := km.len_; omega); have bM := below_dr2 bm; have hS := (bM.cell (p := ⟨ba, oa + k, none⟩) HLT.out).trans hcb; have rM := row_b1 bm; clear bm)))
          | (go_at_call 64; (first
              | ((with_reducible refine (trim_lit rM db.1 (by omega)).mono ?_); rintro e w5 ⟨⟨mt, rfl, kt, ht⟩, rfl⟩)
              | ((with_reducible refine (trim_lit (row_n _ b) db.1 (by omega)).mono ?_); rintro e w5 ⟨⟨mt, rfl, kt, ht⟩, rfl⟩)))
          | (go_at_call 28; (first
              | ((with_reducible refine (radd_any km kt (by omega) (by omega)).mono ?_); rintro e w6 ⟨Ba, ma, ca, rfl, kf, bf⟩; have hS6 := (bf.cell (p := ⟨ba, oa + k, none⟩) (Nat.lt_of_lt_of_le HLT.out bM.size)).trans hS)
              | ((with_reducible refine (radd_any (km.below ((Below.refl _ _).alloc (Nat.le_refl _) _)) kt (by omega) (by omega)).mono ?_); rintro e w6 ⟨Ba, ma, ca, rfl, kf, bf⟩; have bf := below_one bf; have hS6 := (bf.cell (p := ⟨ba, oa + k, none⟩) (Nat.lt_of_lt_of_le HLT.out bM.size)).trans hS))))
      all_goals
        have kf2 : Rn w6 Ba ma ca (pv bs (k + 1)) := by simp only [pv]; rw [HBE.out]; exact kf
        have bf2 := hb.trans ((bM.trans (bf.mono bM.size)).mono hb.size)
        clear kf bf bM hS hS6 hwb km kt
        go_wp2
        go_roundw
        case rel => exact ⟨k + 1, _, _, _, by omega, by go_num, rfl, kf2, bf2⟩
        case measure => simp [intOf]; omega
    · obtain rfl : k = n := by omega
      go_wp2
      go_ret
      exact ⟨_, _, _, rfl, ko, hb⟩
/-! ### Bytes -/
theorem rbyte {xs : List Int} (hd : Dig D xs) (i : Nat) : dig xs (i / 2) / 2 ^ (8 * (i % 2)) % 256 = val D xs / 256 ^ i % 256 := by
  have h := val_vf D xs (m := i / 2 + 1 + xs.length) (by omega)
  rw [vf_split D (dig xs) (i / 2 + 1) xs.length] at h
  have hlow := vf_bd (b := D) (by decide) (fun j => dig_bd (b := D) (by decide) hd j) (i / 2)
  generalize vf D (fun j => dig xs (i / 2 + 1 + j)) xs.length = hi at h
  simp only [vf] at h
  rw [h]
  have e0 : (256 : Int) ^ i = 2 ^ (16 * (i / 2) + 8 * (i % 2)) := by
    have : (256 : Int) = 2 ^ 8 := by decide
    rw [this, ← Int.pow_mul]; congr 1; omega
  have e1 : (256 : Int) ^ i = D ^ (i / 2) * 2 ^ (8 * (i % 2)) := by rw [e0, Int.pow_add, D_pow]
  have e2 : D ^ (i / 2 + 1) = D ^ (i / 2) * D := Int.pow_succ _ _
  have e3 : D = 2 ^ (8 * (i % 2)) * 2 ^ (8 - 8 * (i % 2)) * 256 := by
    rcases Nat.mod_two_eq_zero_or_one i with g | g <;> rw [g] <;> decide
  have hp := pow_pos' D_two (i / 2)
  have hp2 : (0 : Int) < 2 ^ (8 * (i % 2)) := Int.pow_pos (by decide)
  have e4 : vf D (dig xs) (i / 2) + dig xs (i / 2) * D ^ (i / 2) + D ^ (i / 2 + 1) * hi = vf D (dig xs) (i / 2) + D ^ (i / 2) * (dig xs (i / 2) + D * hi) := by rw [e2]; grind
  rw [e4, e1, ← Int.ediv_ediv_of_nonneg (Int.le_of_lt hp), Int.add_mul_ediv_left _ _ (Int.ne_of_gt hp), Int.ediv_eq_zero_of_lt hlow.1 hlow.2, Int.zero_add]
  have e5 : dig xs (i / 2) + D * hi = dig xs (i / 2) + 2 ^ (8 * (i % 2)) * (256 * (2 ^ (8 - 8 * (i % 2)) * hi)) := by
    have : D * hi = 2 ^ (8 * (i % 2)) * (256 * (2 ^ (8 - 8 * (i % 2)) * hi)) := by
      conv => lhs; rw [e3]
      generalize (2 : Int) ^ (8 * (i % 2)) = p
      generalize (2 : Int) ^ (8 - 8 * (i % 2)) = q
      grind
    rw [this]
  rw [e5, Int.add_mul_ediv_left _ _ (Int.ne_of_gt hp2), Int.add_mul_emod_self_left]
def RyP (N : Int) (l : Nat) (w : World) (e : Ending) (w' : World) : Prop :=
  e = .returned (.tuple #[.slice (some ⟨w.heap.size, 0, none⟩) l l, .bool (decide ((nb N : Int) ≤ 8 * (l : Int)))]) ∧ Row w' w.heap.size 5 .u8 (bytesL N l) ∧ Below w.heap.size w w'
set_option maxHeartbeats 4000000 in
theorem rbytes_any {A : Option Addr} {n c : Nat} {N : Int} {w : World} (h : Rn w A n c N) (hn : n ≤ 100000) (l : Nat) (hl : l ≤ 1024) :
    Calls Tryz.prog 117 #[.slice A n c, .int .i64 l] w (RyP N l w) := by
  have hmk := fun W => run_make8 l (C := (l : Int)) rfl (by omega) W
  obtain ⟨Z, hZ⟩ : ∃ Z : List Int, Z = List.replicate l 0 := ⟨_, rfl⟩
  rw [← hZ] at hmk
  have HZ := Lib.hid hZ
  clear hZ
  have hXd := dig_dg D_two h.pos
  have hbb := rbyte hXd
  rw [val_dg D_two h.pos] at hbb
  have HBB := Lib.hid hbb
  have DX := Lib.hid (dig_D hXd)
  clear hbb
  go_enter Tryz.func117, Tryz.ntmps117
  go_wp2_with fail
  clear hmk
  go_loopw [7] (fun i wr => BytR N l w i wr) (fun i _ => l - (intOf i).toNat)
  case atStart =>
    exact ⟨0, Z, Nat.zero_le _, rfl, Row.new _ _ _ _, by rw [HZ.out]; simp, fun j h1 h2 => by omega, (Below.refl _ _).alloc (Nat.le_refl _) _⟩
  case round =>
    obtain ⟨k, zs, hk, rfl, hrow, hzl, hz, hb⟩ := hrel
    have HZE := Lib.hid hz
    have HZL := Lib.hid hzl
    clear hz
    rcases Nat.lt_or_ge k l with hlt | hge
    · have hX := h.rd.below hb
      obtain ⟨p, hp⟩ : ∃ p, p + k + 1 = l := ⟨l - 1 - k, by omega⟩
      have e1 : (l : Int) - 1 - k = p := by omega
      have fz := hrow.frozen p
      have cz := hrow.cell (getElem?_dig (show p < zs.length by omega))
      have hpl : p < l := by omega
      have HP := Lib.hid hp
      obtain ⟨d, hd⟩ : ∃ d, dig (dg D N) (k / 2) = d := ⟨_, rfl⟩
      have dd := DX.out (k / 2)
      rw [hd] at dd
      have hat := fun W' (hh : Rd .i64 W' A n (dg D N)) => at_any A n c (dg D N) (k / 2) W' hh
      rw [hd] at hat
      have HAT := Lib.hid hat
      have d0 := dd.1
      have d1 := dd.2
      have hval := HBB.out k
      rw [hd] at hval
      clear hzl hp hat hd
      rcases Nat.mod_two_eq_zero_or_one k with g | g
      · rw [g] at hval
        have hval2 : d % 256 = N / 256 ^ k % 256 := by simpa using hval
        have HVAL := Lib.hid hval2
        have t1 : ((k : Int) % 2 == 1) = false := by simp; omega
        clear hval hval2 g
        go_wp2_with fail
        refine (HAT.out _ hX).mono ?_
        rintro e w1 ⟨rfl, rfl⟩
        go_wp2_with fail
        go_roundw
        case rel =>
          have hps := HP.out
          refine ⟨k + 1, _, by omega, by go_num, hrow.set _ _, by simpa using HZL.out, fun j j1 j2 => ?_, hb.setCell (Nat.le_refl _) _⟩
          rcases Nat.lt_or_ge p j with g | g
          · rw [dig_set_ne (by omega)]; exact HZE.out j (by omega) j2
          · obtain rfl : j = p := by omega
            rw [dig_set_same (by rw [HZL.out]; exact hpl), show l - 1 - j = k by omega, ← HVAL.out]
        case measure => simp [intOf]; omega
      · rw [g] at hval
        have hval2 : d / 256 % 256 = N / 256 ^ k % 256 := by rw [← hval]; rfl
        have HVAL := Lib.hid hval2
        have t1 : ((k : Int) % 2 == 1) = true := by simp; omega
        clear hval hval2 g
        go_wp2_with fail
        refine (HAT.out _ hX).mono ?_
        rintro e w1 ⟨rfl, rfl⟩
        go_wp2_with fail
        go_roundw
        case rel =>
          have hps := HP.out
          refine ⟨k + 1, _, by omega, by go_num, hrow.set _ _, by simpa using HZL.out, fun j j1 j2 => ?_, hb.setCell (Nat.le_refl _) _⟩
          rcases Nat.lt_or_ge p j with g | g
          · rw [dig_set_ne (by omega)]; exact HZE.out j (by omega) j2
          · obtain rfl : j = p := by omega
            rw [dig_set_same (by rw [HZL.out]; exact hpl), show l - 1 - j = k by omega, ← HVAL.out]
        case measure => simp [intOf]; omega
    · obtain rfl : k = l := by omega
      have hzs : zs = bytesL N k := ext_dig (by rw [hzl, bytesL_len]) (fun j hj => by rw [bytesL_dig (by omega)]; exact HZE.out j (by omega) (by omega))
      subst hzs
      go_wp2_with fail
      refine (rbits_any (h.below hb) hn).mono ?_
      rintro e w1 ⟨rfl, rfl⟩
      go_wp2
      go_ret2
      exact ⟨rfl, hrow, hb⟩
end Go.Proofs.YtloibmemlkfkfaaGreatDoor
