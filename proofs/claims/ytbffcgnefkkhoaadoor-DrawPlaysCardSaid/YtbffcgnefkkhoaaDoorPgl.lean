/-
  What bytes.Clone answers; bytes cut to so many bits: draw.lowBits.
-/
import Derived.Test.YtbffcgnefkkhoaaDoorShd0
import Derived.Test.YtbffcgnefkkhoaaDoorDrn
import Derived.Test.YtbffcgnefkkhoaaDoorPkc
import Derived.Test.YtbffcgnefkkhoaaDoorFit0
import Derived.Test.YtbffcgnefkkhoaaDoorPkg
import Derived.Test.YtbffcgnefkkhoaaDoorPka
import Derived.Laws.BitsLemmas
namespace Go.Proofs.YtbffcgnefkkhoaaDoor
open Go.RowKit
set_option linter.unusedVariables false
/-! ### Numbers -/
theorem bits_and_u8_nat (a b : Nat) (ha : a < 256) (hb : b < 256) : bits .and .u8 (a : Int) (b : Int) = ((a &&& b : Nat) : Int) := by
  have h1 : a &&& b ≤ a := Nat.and_le_left
  have e1 : a % 2 ^ IntKind.u8.bits = a := Nat.mod_eq_of_lt (by show a < 2 ^ 8; omega)
  have e2 : b % 2 ^ IntKind.u8.bits = b := Nat.mod_eq_of_lt (by show b < 2 ^ 8; omega)
  simp [bits, IntKind.wrap_u8, e1, e2]
  omega
theorem and_low {x : Int} (h0 : 0 ≤ x) (h1 : x < 256) {s : Nat} (hs : s ≤ 8) : bits .and .u8 x (255 / 2 ^ s) = x % 2 ^ (8 - s) := by
  obtain ⟨a, rfl⟩ := Int.eq_ofNat_of_zero_le h0
  have e : (255 : Int) / 2 ^ s = ((2 ^ (8 - s) - 1 : Nat) : Int) := by
    rcases (show s = 0 ∨ s = 1 ∨ s = 2 ∨ s = 3 ∨ s = 4 ∨ s = 5 ∨ s = 6 ∨ s = 7 ∨ s = 8 by omega) with h | h | h | h | h | h | h | h | h <;> subst h <;> decide
  have hp : 2 ^ (8 - s) - 1 < 256 := by
    have h := Nat.pow_le_pow_right (n := 2) (by decide) (show 8 - s ≤ 8 by omega)
    have h2 := Nat.two_pow_pos (8 - s)
    omega
  rw [e, bits_and_u8_nat a _ (by omega) hp, Nat.and_two_pow_sub_one_eq_mod a (8 - s)]
  simp
theorem low_set {xs : List Int} {v : Int} {n : Nat} : ∀ k, k < n → low (xs.set 0 v) n k = low xs n k
  | 0, _ => rfl
  | k + 1, h => by
    rw [low_succ, low_succ, low_set k (by omega), dig_set_ne (by omega)]
theorem rest_cut {R P d q : Int} (hR : 0 ≤ R) (hP : R < P) (hq : 0 < q) : (R + d * P) % (q * P) = R + d % q * P := by
  have h1 := Int.emod_add_mul_ediv d q
  have h2 := Int.emod_nonneg d (show q ≠ 0 by omega)
  have h3 := Int.emod_lt_of_pos d hq
  have e : R + d * P = (R + d % q * P) + (q * P) * (d / q) := by
    generalize d % q = r at *
    generalize d / q = t at *
    subst h1
    grind
  rw [e, Int.add_mul_emod_self_left]
  refine Int.emod_eq_of_lt (by have := Int.mul_nonneg h2 (show 0 ≤ P by omega); omega) ?_
  have h4 := Int.mul_le_mul_of_nonneg_right (show d % q + 1 ≤ q by omega) (show 0 ≤ P by omega)
  rw [Int.add_mul] at h4
  omega
theorem pow_256 (n : Nat) : (256 : Int) ^ n = 2 ^ (8 * n) := by
  rw [show (256 : Int) = 2 ^ 8 by decide, ← Int.pow_mul]
theorem pv_cut {xs : List Int} {n s : Nat} (hl : xs.length = n) (hd : Dig 256 xs) (hn : 1 ≤ n) (hs : s ≤ 8) : low (xs.set 0 (dig xs 0 % 2 ^ (8 - s))) n n = pv xs n % 2 ^ (8 * n - s) := by
  obtain ⟨m, rfl⟩ : ∃ m, n = m + 1 := ⟨n - 1, by omega⟩
  have hb := vf_bd (b := 256) (f := fun i => dig xs (m + 1 - 1 - i)) (by decide) (fun j => dig_bd (by decide) hd _) m
  rw [pv_all, low_succ, low_succ, low_set m (by omega), show m + 1 - 1 - m = 0 by omega, dig_set_same (by omega)]
  rw [show (2 : Int) ^ (8 * (m + 1) - s) = 2 ^ (8 - s) * 256 ^ m by rw [pow_256, ← Int.pow_add]; congr 1; omega]
  exact (rest_cut hb.1 hb.2 (two_pos _)).symm
/-! ### Clone -/
theorem mn_none (t : TypeId) (k : IntKind) (w : World) (base : Nat) : Mn t k w base none 0 0 [] := ⟨rfl, Nat.le_refl _, fun a ha => (by cases ha), fun a ha => (by cases ha), fun h => absurd h (by omega)⟩
/-- What Clone answers: the same bytes in memory of its own. -/
def ClnP (xs : List Int) (n : Nat) (w : World) (e : Ending) (w' : World) : Prop := ∃ A c, e = .returned (.slice A n c) ∧ Mn 5 .u8 w' w.heap.size A n c xs ∧ Bs w' A n c xs ∧ Bw w w'
set_option maxHeartbeats 4000000 in
set_option maxRecDepth 100000 in
theorem clone_any {A : Option Addr} {n c : Nat} {xs : List Int} {w : World} (hb : Bs w A n c xs) :
    Calls Tryd.prog 20 #[.slice A n c] w (ClnP xs n w) := by
  cases A with
  | none =>
    have hc := hb.none_ rfl
    have hnc := hb.nc
    obtain rfl : n = 0 := by omega
    obtain rfl : c = 0 := by omega
    obtain rfl : xs = [] := List.eq_nil_of_length_eq_zero hb.rd.len
    have he : ∀ w : World, (binOp .eql 22 (.slice none 0 0) (.slice none 0 0)).run Tryd.prog w = .ok (.bool true) w := fun _ => rfl
    go_enter Tryd.func20, Tryd.ntmps20
    go_wp2_with fail
    go_ret
    exact ⟨none, 0, rfl, mn_none _ _ _ _, hb, Bw.refl _⟩
  | some a =>
    obtain ⟨s, hs⟩ : ∃ s, w.heap.size = s := ⟨_, rfl⟩
    have HS := Lib.hid hs
    have HL := Lib.hid hb.rd.len
    have HDG := Lib.hid hb.dig_
    have h47 := hb.c47
    have HO0 := Lib.hid (own_none_at w 5 .u8 (base := s) hs (Nat.le_refl _))
    have HR0 := Lib.hid (hb.rd.alloc (.cells #[] 5))
    clear hb hs
    have he : ∀ w : World, (binOp .eql 22 (.slice (some a) n c) (.slice none 0 0)).run Tryd.prog w = .ok (.bool false) w := fun _ => rfl
    go_enter Tryd.func20, Tryd.ntmps20
    go_wp2_with (at_builtin; refine wpList_cat8 _ rfl (.tmp 5) (.tmp 6) 22 rfl s 5 .u8 Tryd.underlying22 info8u _ 0 [] rfl (by rw [HS.out]; exact HO0.out) (some a) n c xs rfl HR0.out (by omega) (by simp; have := HS.out; omega) ?_)
    rintro v1 w1 h1 g1
    have b1 := own_below ((Below.refl s w).alloc (by have := HS.out; omega) _) (by rw [HS.out]; exact HO0.out) g1 (by simp; have := HS.out; omega) (Nat.le_refl _)
    have o1 : Own8 w1 s v1 xs := Own8.app (xs := []) rfl HL.out (by simpa using h1)
    obtain ⟨A1, c1, rfl, bs1⟩ := o1.bs HDG.out (by rw [HL.out]; omega)
    obtain ⟨A2, c2, e2, mn1⟩ := mn_own (t := 5) (k := .u8) o1
    injection e2 with e3 e4 e5
    subst e3 e5
    rw [HL.out] at bs1 mn1 ⊢
    have BS1 := Lib.hid bs1
    have MN1 := Lib.hid mn1
    have B1 := Lib.hid b1
    clear h1 g1 b1 o1 bs1 mn1 HO0 HR0 e4
    go_wp2_with fail
    go_ret
    exact ⟨A1, c1, rfl, by rw [HS.out]; exact MN1.out, BS1.out, by have h := B1.out; rw [← HS.out] at h; exact h⟩
/-! ### lowBits -/
set_option maxHeartbeats 4000000 in
set_option maxRecDepth 100000 in
theorem low_any {A : Option Addr} {n c : Nat} {xs : List Int} {w : World} (hb : Bs w A n c xs) (h1 : 1 ≤ n) (hn : n ≤ 256) (t : Nat) (ht : t ≤ 8 * n) (ht2 : 8 * n ≤ t + 8) :
    Calls Tryd.prog 45 #[.slice A n c, .int .i64 t] w (Ans1 (pv xs n % 2 ^ t) w) := by
  have HB := Lib.hid hb
  clear hb
  go_enter Tryd.func45, Tryd.ntmps45
  go_wp2_with fail
  refine (clone_any HB.out).mono ?_
  rintro e w1 ⟨A1, c1, rfl, hm, hbs, hbw⟩
  obtain ⟨g, rfl, hg, hlt⟩ := hm.at0 (by omega)
  have hc := hm.cell (j := 0) (by omega)
  have hf := hm.frozen (j := 0) (by omega)
  have hdg := dig_bd (b := 256) (by decide) HB.out.dig_ 0
  obtain ⟨x, hx⟩ : ∃ x, dig xs 0 = x := ⟨_, rfl⟩
  rw [hx] at hc hdg
  obtain ⟨s, hs⟩ : ∃ s, 8 * n - t = s := ⟨_, rfl⟩
  have e1 : IntKind.i64.wrap (8 * (n : Int)) = 8 * (n : Int) := IntWalk.i64_in _ (by omega)
  have e2 : IntKind.i64.wrap (8 * (n : Int) - (t : Int)) = (s : Int) := by rw [IntWalk.i64_in _ (by omega)]; omega
  have e3 : (0 : Int) ≤ (s : Int) := by omega
  have e4 : bits .and .u8 x (255 / 2 ^ min s 8) = x % 2 ^ (8 - s) := by rw [Nat.min_eq_left (by omega)]; exact and_low hdg.1 hdg.2 (by omega)
  have e5 : (0 : Int) < (n : Int) := by omega
  have HM := Lib.hid hm
  have HX := Lib.hid hx
  have HBW := Lib.hid hbw
  have HSS := Lib.hid hs
  clear hm hx hbw hs hbs
  go_wp2_with fail
  go_region
  all_goals
    go_wp2_with fail
    have hp := pow_mono (b := 2) (by decide) (show 8 - s ≤ 8 by omega)
    have hp0 := two_pos (8 - s)
    have hp1 : (2 : Int) ^ 8 = 256 := by decide
    have hd2 : Dig 256 (xs.set 0 (x % 2 ^ (8 - s))) := HB.out.dig_.set (Int.emod_nonneg x (by omega)) (by have := Int.emod_lt_of_pos x hp0; omega) 0
    have hm2 := HM.out.set (j := 0) (by omega) (x % 2 ^ (8 - s))
    have hb2 := (show Below w.heap.size w w1 from HBW.out).setCell (p := ⟨g, 0, none⟩) hg (.int .u8 (x % 2 ^ (8 - s)))
    refine (from_any hm2.rd.drew hd2 (by omega)).mono ?_
    rintro e w2 ⟨B, m, cap, rfl, hcn, hbl, hnw⟩
    rw [← HX.out, ← HSS.out, pv_cut HB.out.rd.len HB.out.dig_ h1 (by omega), show 8 * n - (8 * n - t) = t by omega] at hcn
    have HC := Lib.hid hcn
    have HL2 := Lib.hid hbl
    have HN2 := Lib.hid hnw
    have HB2 := Lib.hid hb2
    clear hcn hbl hnw hb2 hm2 hd2
    go_wp2_with fail
    go_ret
    exact ⟨B, m, cap, rfl, HC.out, HB2.out.drew.trans (HL2.out.mono (by simpa using HB2.out.size)), fun a ha => by have h1 := HN2.out a ha; have h2 := HB2.out.size; simp at h1 h2; omega⟩
end Go.Proofs.YtbffcgnefkkhoaaDoor
