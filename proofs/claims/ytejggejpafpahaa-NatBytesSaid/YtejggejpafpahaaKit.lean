/-
  Contracts in one form for the laws' walks: what is answered, and that nothing that was there has turned.
-/
import Derived.Test.YtejggejpafpahaaUp
import Derived.Test.YtejggejpafpahaaSame
import Derived.Test.YtejggejpafpahaaArg
namespace Go.Proofs.Ytejggejpafpahaa
open Go.RowKit
set_option linter.unusedVariables false
/-- The value v was answered; nothing that was there has turned. -/
def AnsV (v : Value) (w : World) (e : Ending) (w' : World) : Prop := e = .returned v ∧ Below w.heap.size w w'
theorem same_cn {B B' : Option Addr} {m m' cap cap' : Nat} {N : Int} {w : World} (h : Cn w B m cap N) (h' : Cn w B' m' cap' N) :
    Calls Try.prog 14 #[.slice B m cap, .slice B' m' cap'] w (AnsV (.bool true) w) := by
  obtain rfl := h.len_
  obtain rfl := h'.len_
  exact (same_yes h.rd h'.rd (by have := h.nc; have := h.c60; omega)).mono fun e w' ⟨he, q, hq⟩ => ⟨he, hq ▸ below_drewN (Below.refl _ _) q⟩
theorem cmp_v {A A' : Option Addr} {n c n' c' : Nat} {N M : Int} {w : World} (h : Nm w A n c N) (h' : Nm w A' n' c' M) :
    Calls Try.prog 28 #[.slice A n c, .slice A' n' c'] w (AnsV (.int .i64 (cmpI N M)) w) :=
  (cmp_any h h').mono fun e w' ⟨he, q, hq⟩ => ⟨he, hq ▸ below_drewN (Below.refl _ _) q⟩
theorem up_v (w : World) : Calls Try.prog 10 #[] w (AnsV (.bool true) w) := up_any w
/-- treenailref01.Limbs. -/
theorem Limbs_any (A : Option Addr) (n c : Nat) (xs : List Int) (w : World) (h : Rd .u64 w A n xs) (hd : Dig W xs) (hnc : n ≤ c) (hc : n ≤ 17592186044416) :
    Calls Try.prog 26 #[.slice A n c] w fun e w' => e = .returned (.int .i64 (nl xs : Nat)) ∧ w = w' := by
  go_enter Try.func26, Try.ntmps26
  go_wp2
  go_loop [3] (fun t => LimR xs n t) (fun t => (intOf t).toNat)
  case atStart => exact ⟨n, Nat.le_refl _, fun j h1 h2 => by omega, rfl⟩
  case round =>
    obtain ⟨k, hk, hz, rfl⟩ := hrel
    have HZ := Lib.hid hz
    clear hz
    rcases Nat.eq_zero_or_pos k with h0 | h0
    · subst h0
      go_wp2
      go_ret
      exact ⟨by rw [← limbs_end h hd hk HZ.out (fun h => absurd h (by omega))]; rfl, rfl⟩
    · obtain ⟨m, rfl⟩ : ∃ m, k = m + 1 := ⟨k - 1, by omega⟩
      obtain ⟨b, off, x, rfl, hb, hx, hcell⟩ := h.at_ (j := m) (by omega)
      have HX := Lib.hid hx
      clear hx
      by_cases hx0 : x = 0
      · subst hx0
        go_wp2
        go_round
        case rel =>
          refine ⟨m, by omega, fun j h1 h2 => ?_, by go_num⟩
          rcases Nat.lt_or_ge m j with h3 | h3
          · exact HZ.out j (by omega) h2
          · obtain rfl : j = m := by omega
            rw [List.getD_eq_getElem?_getD, HX.out]; rfl
        case measure => simp [intOf]
      · have hx1 : ((x : Int) == 0) = false := by simpa using hx0
        go_wp2
        go_ret
        exact ⟨by rw [← limbs_end h hd hk HZ.out (fun _ => by rw [Nat.add_sub_cancel, List.getD_eq_getElem?_getD, HX.out]; exact hx0)]; rfl, rfl⟩
theorem Limbs_nm {A : Option Addr} {n c : Nat} {N : Int} {w : World} (h : Nm w A n c N) :
    Calls Try.prog 26 #[.slice A n c] w fun e w' => e = .returned (.int .i64 (dl N : Nat)) ∧ w = w' := by
  obtain ⟨⟨xs, h1, h2, h3⟩, h4, h5, h6⟩ := h
  refine (Limbs_any A n c xs w h1 h2 h4 h5).mono fun e w' ⟨he, hw⟩ => ⟨?_, hw⟩
  subst h3
  exact he
theorem dl_add {N M : Int} (h0 : 0 ≤ N) (h1 : 0 ≤ M) {k : Nat} (hN : dl N ≤ k) (hM : dl M ≤ k) : dl (N + M) ≤ k + 1 := by
  refine dl_le (by omega) ?_
  have a := lt_dl h0 hN
  have b := lt_dl h1 hM
  have e : W ^ (k + 1) = W ^ k * W := Int.pow_succ _ _
  have hp := pow_pos' W_two k
  have : W ^ k * 2 ≤ W ^ k * W := Int.mul_le_mul_of_nonneg_left (by decide) (by omega)
  omega
theorem dl_mul {N M : Int} (h0 : 0 ≤ N) (h1 : 0 ≤ M) {j k : Nat} (hN : dl N ≤ j) (hM : dl M ≤ k) : dl (N * M) ≤ j + k := by
  refine dl_le (Int.mul_nonneg h0 h1) ?_
  have a := lt_dl h0 hN
  have b := lt_dl h1 hM
  rw [Int.pow_add]
  have hp := pow_pos' W_two j
  have hq := pow_pos' W_two k
  have c1 := Int.mul_le_mul_of_nonneg_left (show M ≤ W ^ k by omega) h0
  have c2 := Int.mul_lt_mul_of_pos_right a hq
  omega
end Go.Proofs.Ytejggejpafpahaa
