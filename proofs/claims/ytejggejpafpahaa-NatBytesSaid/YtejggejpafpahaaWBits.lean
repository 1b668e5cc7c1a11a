/-
  The walk of NatBits: a number is the sum of its bits' powers of two.
-/
import Derived.Test.YtejggejpafpahaaUp
import Derived.Test.YtejggejpafpahaaSame
import Derived.Test.YtejggejpafpahaaArg
namespace Go.Proofs.Ytejggejpafpahaa
open Go.RowKit
set_option linter.unusedVariables false
theorem nb_lt {N : Int} (h : 0 ≤ N) : N < 2 ^ nb N := dg_lt_pow (by decide) h (Nat.le_refl _)
theorem nb_ge {N : Int} (h : 0 < N) : 0 < nb N ∧ 2 ^ (nb N - 1) ≤ N := by
  have h0 : nb N ≠ 0 := fun e => by have := (dg_nil_iff (b := 2) (by decide) (show 0 ≤ N by omega)).1 e; omega
  refine ⟨by omega, ?_⟩
  rcases Int.lt_or_le N (2 ^ (nb N - 1)) with g | g
  · have := dg_len_le (b := 2) (by decide) (show 0 ≤ N by omega) g
    have e : (dg 2 N).length = nb N := rfl
    omega
  · exact g
theorem bt_top {N : Int} (h : 0 < N) : bt N ((nb N : Int) - 1) = true := by
  obtain ⟨h0, h1⟩ := nb_ge h
  have h2 := nb_lt (show 0 ≤ N by omega)
  unfold bt
  have e : ((nb N : Int) - 1).toNat = nb N - 1 := by omega
  rw [e]
  have e2 : (2 : Int) ^ nb N = 2 ^ (nb N - 1) * 2 := by
    have : nb N = (nb N - 1) + 1 := by omega
    conv => lhs; rw [this, Int.pow_add]
    rfl
  have hp : (0 : Int) < 2 ^ (nb N - 1) := Int.pow_pos (by decide)
  have q : N / 2 ^ (nb N - 1) = 1 := by
    have a1 : N / 2 ^ (nb N - 1) < 2 := Int.ediv_lt_of_lt_mul hp (by omega)
    have a2 : 1 ≤ N / 2 ^ (nb N - 1) := Int.le_ediv_of_mul_le hp (by omega)
    omega
  rw [q]; simp; omega
theorem bt_past {N : Int} (h : 0 ≤ N) {i : Int} (hi : (nb N : Int) ≤ i) : bt N i = false := by
  unfold bt
  have h2 := nb_lt h
  have q : N / 2 ^ i.toNat = 0 := Int.ediv_eq_zero_of_lt h (Int.lt_of_lt_of_le h2 (pow_mono (by decide) (by omega)))
  rw [q]; simp
theorem half_step {N : Int} {j : Nat} : N / 2 ^ j = 2 * (N / 2 ^ (j + 1)) + N / 2 ^ j % 2 := by
  have e : (2 : Int) ^ (j + 1) = 2 ^ j * 2 := Int.pow_succ _ _
  rw [e, ← Int.ediv_ediv_of_nonneg (Int.le_of_lt (Int.pow_pos (by decide)))]
  omega
theorem bt_val {N : Int} {j : Nat} : N / 2 ^ j % 2 = if bt N j = true then 1 else 0 := by
  unfold bt
  rw [Int.toNat_natCast]
  by_cases h : N / 2 ^ j % 2 = 1
  · rw [if_pos (by simp; exact h)]; exact h
  · rw [if_neg (by simp; exact h)]; omega
def BitsR (N : Int) (w : World) (s i : Value) (wr : World) : Prop :=
  ∃ (k : Nat) (v : Int) (B : Option Addr) (m cap : Nat), i = .int .i64 v ∧ v = (k : Int) - 1 ∧ k ≤ nb N ∧ s = .slice B m cap ∧ Cn wr B m cap (N / 2 ^ k) ∧ Below w.heap.size w wr
set_option maxHeartbeats 4000000 in
set_option maxRecDepth 100000 in
theorem natBits_walk0 {A : Option Addr} {n c : Nat} {N : Int} {w : World} (h : Nm w A n c N) :
    Calls Try.prog 9 #[.slice A n c] w fun e w' => e = .returned (.bool true) ∧ Below w.heap.size w w' := by
  have hc60 := h.c60
  have hnc := h.nc
  by_cases hn : 20 < n
  · go_enter Try.func9, Try.ntmps9
    go_wp2_with fail
    refine (up_any _).mono ?_
    rintro e w1 ⟨rfl, b1⟩
    go_wp2
    go_ret
    exact ⟨rfl, b1⟩
  · have hn' : n ≤ 20 := by omega
    clear hn
    have hdl : dl N ≤ 20 := Nat.le_trans h.dl_le hn'
    have hnb : nb N ≤ 1280 := by have := nb_le h.pos; omega
    go_enter Try.func9, Try.ntmps9
    go_wp2_with fail
    refine (up_any _).mono ?_
    rintro e w1 ⟨rfl, b1⟩
    go_wp2_with fail
    refine (bits_any (h.below b1)).mono ?_
    rintro e w2 ⟨rfl, rfl⟩
    go_wp2_with fail
    go_loopw [4, 6] (fun s i wr => BitsR N w1 s i wr) (fun _ i _ => (intOf i + 1).toNat)
    case atStart =>
      exact ⟨nb N, _, none, 0, 0, rfl, rfl, Nat.le_refl _, rfl, by rw [Int.ediv_eq_zero_of_lt h.pos (nb_lt h.pos)]; exact Cn.nil _, Below.refl _ _⟩
    case round =>
      obtain ⟨k, v, B, m, cap, rfl, hv, hk, rfl, hs, hb⟩ := hrel
      rcases Nat.eq_zero_or_pos k with g | g
      · subst g
        obtain rfl : v = -1 := by omega
        have hs' : Cn wr B m cap N := by simpa using hs
        clear hv hs hk
        obtain rfl := hs'.len_
        have ha := (h.below b1).below hb
        go_wp2_with fail
        refine (norm_any ha).mono ?_
        rintro e w3 ⟨B2, m2, cap2, rfl, k1, k2, -⟩
        obtain rfl := k1.len_
        have hs2 := hs'.below k2
        go_wp2_with fail
        refine (same_yes hs2.rd k1.rd (by omega)).mono ?_
        rintro e w4 ⟨rfl, q, rfl⟩
        have ha2 := (ha.below k2).drewN q
        have B5 := Lib.hid (below_drewN (b1.trans ((hb.trans (k2.mono hb.size)).mono b1.size)) q)
        have p1 := bt_past (i := (nb N : Int)) h.pos (by omega)
        have p2 := bt_past (i := (nb N : Int) + 63) h.pos (by omega)
        rcases Int.lt_or_le 0 N with hN | hN
        · have p0 := bt_top hN
          have hz : ((nb N : Int) == 0) = false := by have := (nb_ge hN).1; simp; omega
          go_wp2_with (go_at_call 31; refine (bit_any ha2 _ (by omega)).mono ?_; rintro e w5 ⟨rfl, rfl⟩)
          go_ret
          exact ⟨rfl, B5.out⟩
        · have hN0 : N = 0 := by have := h.pos; omega
          have hz : ((nb N : Int) == 0) = true := by rw [hN0]; unfold nb; rw [dg_zero]; rfl
          clear hN0
          go_wp2_with (go_at_call 31; refine (bit_any ha2 _ (by omega)).mono ?_; rintro e w5 ⟨rfl, rfl⟩)
          go_ret
          exact ⟨rfl, B5.out⟩
      · obtain ⟨j, rfl⟩ : ∃ j, k = j + 1 := ⟨k - 1, by omega⟩
        obtain rfl : v = (j : Int) := by omega
        have hS : N / 2 ^ (j + 1) ≤ N := Int.ediv_le_self _ h.pos
        have hd1 : dl (N / 2 ^ (j + 1)) ≤ 64 := by have := dl_mono hs.pos hS; omega
        clear hv hS
        go_wp2_with fail
        refine (add_any hs.nm hs.nm hd1 hd1).mono ?_
        rintro e w3 ⟨B2, m2, cap2, rfl, k1, k2, -⟩
        go_wp2_with fail
        refine (bit_any (((h.below b1).below hb).below k2) (j : Int) (by omega)).mono ?_
        rintro e w4 ⟨rfl, rfl⟩
        have hj0 : (j : Int) ≤ 1280 := by omega
        have hT : 2 * (N / 2 ^ (j + 1)) ≤ N / 2 ^ j := by have := half_step (N := N) (j := j); have := Int.emod_nonneg (N / 2 ^ j) (show (2 : Int) ≠ 0 by decide); omega
        have hT2 : N / 2 ^ j ≤ N := Int.ediv_le_self _ h.pos
        have k1' : Cn w3 B2 m2 cap2 (2 * (N / 2 ^ (j + 1))) := by rw [Int.two_mul]; exact k1
        have hd2 : dl (2 * (N / 2 ^ (j + 1))) ≤ 64 := by have := dl_mono k1'.pos (Int.le_trans hT hT2); omega
        have hval := half_step (N := N) (j := j)
        rw [bt_val] at hval
        have HVAL := Lib.hid hval
        clear hval hT hT2 k1
        cases hbt : bt N (j : Int) with
        | true =>
          go_wp2_with fail
          refine (add_any (k1'.alloc _).nm (lit_one w3 1 (by decide) (by decide)) hd2 (dl_small (by decide) (by decide))).mono ?_
          rintro e w5 ⟨B3, m3, cap3, rfl, k3, k4, -⟩
          go_wp2_with fail
          have k5 := below_one k4
          go_roundw
          case rel => exact ⟨j, _, B3, m3, cap3, rfl, rfl, by omega, rfl, by rw [HVAL.out, hbt]; exact k3, hb.trans ((k2.trans (k5.mono k2.size)).mono hb.size)⟩
          case measure => simp [intOf]
        | false =>
          go_wp2_with fail
          go_roundw
          case rel => exact ⟨j, _, B2, m2, cap2, rfl, rfl, by omega, rfl, by rw [HVAL.out, hbt]; simpa using k1', hb.trans (k2.mono hb.size)⟩
          case measure => simp [intOf]
theorem natBits_walk {A : Option Addr} {n c : Nat} {xs : List Int} {w : World} (h : Told w A n c xs) :
    Calls Try.prog 9 #[.slice A n c] w fun e w' => e = .returned (.bool true) ∧ Below w.heap.size w w' := natBits_walk0 h.nm
end Go.Proofs.Ytejggejpafpahaa
