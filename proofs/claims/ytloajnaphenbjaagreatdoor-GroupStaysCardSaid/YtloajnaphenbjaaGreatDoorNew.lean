/-
  What mont's newModulus, New and Modulus answer.
-/
import Derived.Test.YtloajnaphenbjaaGreatDoorFm
namespace Go.Proofs.YtloajnaphenbjaaGreatDoor
open Go.RowKit
set_option linter.unusedVariables false
def NewP (m : Int) (n : Nat) (A : Option Addr) (c : Nat) (w : World) (e : Ending) (w' : World) : Prop :=
  ∃ low B cB S cS, e = .returned (.agg #[.slice A n c, .int .u64 low, .slice B n cB, .slice S n cS]) ∧ 0 ≤ low ∧ low < 18446744073709551616 ∧ Eqm W (m * low) (-1) ∧ Nm w' B n cB (W ^ n % m) ∧ Nm w' S n cS (W ^ n * W ^ n % m) ∧ Below w.heap.size w w' ∧ (∀ a, B = some a → w.heap.size ≤ a.block) ∧ ∀ a, S = some a → w.heap.size ≤ a.block
theorem Nm.set {w : World} {A : Option Addr} {n c : Nat} {N : Int} (h : Nm w A n c N) {g : Nat} (hne : ∀ a, A = some a → a.block ≠ g) (i : Nat) (u : Value) : Nm (w.setCell ⟨g, i, none⟩ u) A n c N := by
  obtain ⟨⟨xs, h1, h2, h3⟩, h4, h5, h6⟩ := h
  exact ⟨⟨xs, h1.grown (grown_setCell (World.grownBy.refl w _) i u) hne, h2, h3⟩, h4, h5, h6⟩
theorem power_nm (w : World) (o : Obj) {Z : List Int} {n : Nat} (hZ : Z = List.replicate (n + 1) 0) (hn : n ≤ 1000) :
    Nm ((w.alloc o).alloc (.cells ((Z.map (Value.int .u64)).set n (.int .u64 1)).toArray 38)) (some ⟨w.heap.size + 1, 0, none⟩) (n + 1) (n + 1) (W ^ n) := by
  have e : (Z.map (Value.int .u64)).set n (.int .u64 1) = (Z.set n 1).map (Value.int .u64) := by rw [List.map_set]
  rw [e]
  have hr := Row.new (w.alloc o) 38 .u64 (Z.set n 1)
  have hs : (w.alloc o).heap.size = w.heap.size + 1 := by simp
  rw [hs] at hr
  have hl : (Z.set n 1).length = n + 1 := by rw [hZ]; simp
  refine ⟨⟨Z.set n 1, hr.rd hl (fun j x hx => by rwa [Nat.zero_add]), ?_, ?_⟩, Nat.le_refl _, by omega, Int.le_of_lt (pow_pos' W_two n)⟩
  · refine Dig.set ?_ (by decide) (by decide) n
    rw [hZ]; intro x hx; simp at hx; rw [hx]; exact ⟨by decide, by decide⟩
  · rw [val_vf W (Z.set n 1) (Nat.le_of_eq hl), vf_set (by rw [hZ]; simp), hZ, vf_zero W (k := 0) (Nat.zero_le _) (fun j _ => dig_replicate _ j)]
    simp [vf]
theorem bcell {W w1 : World} (hb : Below W.heap.size W w1) : (∀ b o, b < W.heap.size → w1.cell? ⟨b, o, none⟩ = W.cell? ⟨b, o, none⟩) ∧ (∀ b o, b < W.heap.size → w1.frozen? ⟨b, o, none⟩ = W.frozen? ⟨b, o, none⟩) :=
  ⟨fun b o h => hb.cell (p := ⟨b, o, none⟩) h, fun b o h => hb.frozen (p := ⟨b, o, none⟩) h⟩
theorem neg_low {m v : Int} (h : Eqm W (m % W * v) 1) : Eqm W (m * IntKind.u64.wrap (-v)) (-1) ∧ 0 ≤ IntKind.u64.wrap (-v) ∧ IntKind.u64.wrap (-v) < 18446744073709551616 := by
  obtain ⟨t, e, h0, h1⟩ := wrap_u (-v)
  refine ⟨?_, h0, h1⟩
  rw [e]
  have h2 : Eqm W (m * v) 1 := ((Eqm.mod W m).symm.mul (Eqm.refl W v)).trans h
  refine Eqm.trans ?_ h2.neg
  exact ⟨m * t, by unfold W; grind⟩
set_option maxHeartbeats 4000000 in
set_option maxRecDepth 100000 in
theorem newModulus_any {w : World} {m : Int} {n c : Nat} {A : Option Addr} (hm : Cn w A n c m) (odd : m % 2 = 1) (m3 : 3 ≤ m) (l32 : n ≤ 32) :
    Calls Tryz.prog 60 #[.slice A n c] w (NewP m n A c w) := by
  have hmk := fun W => run_make64 (n + 1) (C := (n : Int) + 1) (by omega) (by omega) W
  obtain ⟨Z, hZ⟩ : ∃ Z : List Int, Z = List.replicate (n + 1) 0 := ⟨_, rfl⟩
  rw [← hZ] at hmk
  have HZ := Lib.hid hZ
  clear hZ
  have hlen := hm.len_
  have m0 : 0 < m := by omega
  have lm : dl m ≤ 64 := by omega
  have lp : dl (W ^ n) ≤ 64 := by
    have := dl_le (N := W ^ n) (k := n + 1) (Int.le_of_lt (pow_pos' W_two n)) (by rw [Int.pow_succ]; have := Int.mul_le_mul_of_nonneg_left W_two (Int.le_of_lt (pow_pos' W_two n)); have := pow_pos' W_two n; omega)
    omega
  have r0 := Int.emod_nonneg (W ^ n) (show m ≠ 0 by omega)
  have r1 := Int.emod_lt_of_pos (W ^ n) m0
  have l1' : dl (W ^ n % m) ≤ n := by have := dl_mono r0 (show W ^ n % m ≤ m by omega); omega
  have l1 : dl (W ^ n % m) ≤ 64 := by omega
  have l2 : dl (W ^ n % m * (W ^ n % m)) ≤ 64 := by have := dl_mul r0 r0 l1' l1'; omega
  have s0 := Int.emod_nonneg (W ^ n * W ^ n) (show m ≠ 0 by omega)
  have s1 := Int.emod_lt_of_pos (W ^ n * W ^ n) m0
  have l3 : dl (W ^ n * W ^ n % m) ≤ n := by have := dl_mono s0 (show W ^ n * W ^ n % m ≤ m by omega); omega
  have n1 : 1 ≤ n := by
    rcases Nat.eq_zero_or_pos n with g | g
    · have := (dl_zero (N := m) (by omega)).1 (by omega); omega
    · exact g
  have e0 : dig (dg W m) 0 = m % W := by rw [dg_pos W_two m0]; rfl
  have o0 := Int.emod_nonneg m (show W ≠ 0 by decide)
  have o1 : m % W < 18446744073709551616 := Int.emod_lt_of_pos m (by decide)
  have o2 : m % W % 2 = 1 := by unfold W; omega
  have HLEN := Lib.hid hlen
  clear hlen odd
  have g1 : n < n + 1 := by omega
  have hzn : Z[n]? = some 0 := by rw [HZ.out]; simp
  go_enter Tryz.func60, Tryz.ntmps60
  go_wp2_with fail
  have hp := power_nm w (.cells #[.slice none 0 0, .int .u64 0, .slice none 0 0, .slice none 0 0] 89) HZ.out (by omega)
  have b0 : Below (w.alloc (.cells #[.slice none 0 0, .int .u64 0, .slice none 0 0, .slice none 0 0] 89)).heap.size (w.alloc (.cells #[.slice none 0 0, .int .u64 0, .slice none 0 0, .slice none 0 0] 89)) ((w.alloc (.cells #[.slice none 0 0, .int .u64 0, .slice none 0 0, .slice none 0 0] 89)).alloc (.cells ((Z.map (Value.int .u64)).set n (.int .u64 1)).toArray 38)) := (Below.refl _ _).alloc (Nat.le_refl _) _
  have hm0 := hm.alloc (.cells #[.slice none 0 0, .int .u64 0, .slice none 0 0, .slice none 0 0] 89)
  have bw : Below w.heap.size w (w.alloc (.cells #[.slice none 0 0, .int .u64 0, .slice none 0 0, .slice none 0 0] 89)) := (Below.refl _ _).alloc (Nat.le_refl _) _
  have sz : (w.alloc (.cells #[.slice none 0 0, .int .u64 0, .slice none 0 0, .slice none 0 0] 89)).heap.size = w.heap.size + 1 := by simp
  have HP := Lib.hid hp
  have BW := Lib.hid bw
  have SZ := Lib.hid sz
  clear hp hmk hzn bw sz
  refine (div_any HP.out (hm0.below b0).nm lp lm (by omega)).mono ?_
  rintro e w2 ⟨Bq, mq, cq, B1, n1, c1, rfl, -, k1, k2, -, -⟩
  have b2 := b0.trans (k2.mono b0.size)
  have B2 := Lib.hid b2
  clear k2 b0 b2
  go_wp2_with fail
  refine (mul_any k1.nm k1.nm l1 l1).mono ?_
  rintro e w3 ⟨B3, n3, c3, rfl, k3, k4, -⟩
  have b3 := B2.out.trans (k4.mono B2.out.size)
  have k1' := k1.below k4
  have B3' := Lib.hid b3
  clear k4 b3 k1 B2
  go_wp2_with fail
  refine (div_any k3.nm (hm0.below B3'.out).nm l2 lm (by omega)).mono ?_
  rintro e w4 ⟨Bq', mq', cq', B4, n4, c4, rfl, -, k5, k6, -, -⟩
  have b4 := B3'.out.trans (k6.mono B3'.out.size)
  have k1'' := k1'.below k6
  have B4' := Lib.hid b4
  clear k6 b4 k1' B3' k3
  rw [← Int.mul_emod] at k5
  have hm4 := hm0.below B4'.out
  obtain ⟨bm, om, x, rfl, hbm, hx, hcell⟩ := hm4.rd.at_ (j := 0) (by omega)
  have hxd := dig_lt hx
  rw [e0] at hxd
  rw [Nat.add_zero, ← hxd] at hcell
  have HC := Lib.hid hcell
  clear hx hxd hm4 e0
  have c0 := HC.out
  have gn : 0 < n := by omega
  go_wp2_with fail
  refine (inverseOfLimb_any (m % W) _ o0 o1 o2).mono ?_
  rintro e w5 ⟨⟨v, rfl, v0, v1, hv⟩, rfl⟩
  have HLOW := Lib.hid (neg_low hv)
  clear hv c0
  go_wp2_with fail
  refine (widen_any k1''.nm n (by rw [k1''.len_]; exact l1') (by omega)).mono ?_
  rintro e w5 ⟨B5, c5, rfl, k7, k8, hn5⟩
  have b5 := B4'.out.trans (k8.mono B4'.out.size)
  have k5' := k5.below k8
  have B5' := Lib.hid b5
  have HN5 : ∀ a, B5 = some a → w.heap.size < a.block := fun a ha => by have := hn5 a ha; have := B4'.out.size; have := SZ.out; omega
  have HN5' := Lib.hid HN5
  clear k8 b5 k1'' k5 hn5 HN5
  go_wp2_with fail
  refine (widen_any k5'.nm n (by rw [k5'.len_]; exact l3) (by omega)).mono ?_
  rintro e w6 ⟨B6, c6, rfl, k9, k10, hn6⟩
  have b6 := B5'.out.trans (k10.mono B5'.out.size)
  have k7' := k7.below k10
  have B6' := Lib.hid b6
  have HN6 : ∀ a, B6 = some a → w.heap.size < a.block := fun a ha => by have := hn6 a ha; have := B5'.out.size; have := SZ.out; omega
  have HN6' := Lib.hid HN6
  obtain ⟨hc, hf⟩ := bcell b6
  clear k10 b6 k7 k5' hn6 HN6 B5'
  go_wp2
  refine bodyPost_ret (v := .agg #[.slice (some ⟨bm, om, none⟩) n c, .int .u64 (IntKind.u64.wrap (-v)), .slice B5 n c5, .slice B6 n c6]) (by simp [results, Tryz.results60, go_sem, hc]) rfl ⟨_, B5, c5, B6, c6, rfl, HLOW.out.2.1, HLOW.out.2.2, HLOW.out.1, ?_, ?_, ?_, fun a ha => Nat.le_of_lt (HN5'.out a ha), fun a ha => Nat.le_of_lt (HN6'.out a ha)⟩
  · have hne : ∀ a, B5 = some a → a.block ≠ w.heap.size := fun a ha => by have := HN5'.out a ha; omega
    exact (((k7'.set hne _ _).set hne _ _).set hne _ _).set hne _ _
  · have hne : ∀ a, B6 = some a → a.block ≠ w.heap.size := fun a ha => by have := HN6'.out a ha; omega
    exact (((k9.set hne _ _).set hne _ _).set hne _ _).set hne _ _
  · have b7 := BW.out.trans (B6'.out.mono BW.out.size)
    exact (((b7.setCell (Nat.le_refl _) _).setCell (Nat.le_refl _) _).setCell (Nat.le_refl _) _).setCell (Nat.le_refl _) _
end Go.Proofs.YtloajnaphenbjaaGreatDoor
