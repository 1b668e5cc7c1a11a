/-
  Numbers that are answered in memory that may be stored into: rests, powers, products.
-/
import Derived.Test.YtpmnghealjgkeaaGreatMn
import Derived.Test.YtpmnghealjgkeaaGreatPka
import Derived.Test.YtpmnghealjgkeaaGreatPkm
import Derived.Test.YtpmnghealjgkeaaGreatExp
import Derived.Test.YtpmnghealjgkeaaGreatGro
namespace Go.Proofs.YtpmnghealjgkeaaGreat
open Go.RowKit
set_option linter.unusedVariables false
/-- A slice of integers that may be stored into. -/
def Wr (w : World) (A : Option Addr) (n : Nat) : Prop := 0 < n → ∃ (g : Nat) (cur : Array Value), A = some ⟨g, 0, none⟩ ∧ w.heap[g]? = some (.cells cur 78 (0, 0)) ∧ ∀ j, j < n → ∃ x : Int, cur[j]? = some (Value.int .u64 x)
theorem Wr.stay {w w' : World} {A : Option Addr} {n : Nat} (h : Wr w A n) (hb : ∀ a, A = some a → 0 < n → a.block < w.heap.size → w'.heap[a.block]? = w.heap[a.block]?) : Wr w' A n := fun hn => by
  obtain ⟨g, cur, e, hg, hc⟩ := h hn
  exact ⟨g, cur, e, (hb _ e hn (Array.getElem?_eq_some_iff.1 hg).1).trans hg, hc⟩
theorem wr_row {w : World} {g n : Nat} {xs : List Int} (h : Row w g 78 .u64 xs) (hn : n ≤ xs.length) : Wr w (some ⟨g, 0, none⟩) n := fun _ => by
  have m := mn_row (base := 0) (c := xs.length) h rfl (Nat.le_refl _) (Nat.zero_le _)
  rcases Nat.eq_zero_or_pos xs.length with q | q
  · exact ⟨g, _, rfl, h, fun j hj => by omega⟩
  · obtain ⟨g', cur, e, hg, hc⟩ := m.row q
    exact ⟨g', cur, e, hg, fun j hj => ⟨_, hc j _ (getElem?_dig (by omega))⟩⟩
/-- A number that may be stored into. -/
structure CnW (w : World) (A : Option Addr) (n c : Nat) (N : Int) : Prop extends Cn w A n c N where
  wr : Wr w A n
theorem CnW.below {w w' : World} {A : Option Addr} {n c : Nat} {N : Int} (h : CnW w A n c N) (hb : Below w.heap.size w w') : CnW w' A n c N := ⟨h.toCn.below hb, h.wr.stay fun a _ _ hl => hb.block _ hl⟩
def AnsWr (N : Int) (w : World) (e : Ending) (w' : World) : Prop :=
  ∃ B m cap, e = .returned (.tuple #[.slice B m cap, .nilIface]) ∧ CnW w' B m cap N ∧ Below w.heap.size w w' ∧ ∀ a, B = some a → w.heap.size ≤ a.block
def Ans1W (N : Int) (w : World) (e : Ending) (w' : World) : Prop :=
  ∃ B m cap, e = .returned (.slice B m cap) ∧ CnW w' B m cap N ∧ Below w.heap.size w w' ∧ ∀ a, B = some a → w.heap.size ≤ a.block
def QRW (Q R : Int) (w : World) (e : Ending) (w' : World) : Prop :=
  ∃ B m cap B' m' cap', e = .returned (.tuple #[.slice B m cap, .slice B' m' cap']) ∧ Cn w' B m cap Q ∧ CnW w' B' m' cap' R ∧ Below w.heap.size w w' ∧ (∀ x, B = some x → w.heap.size ≤ x.block) ∧ ∀ x, B' = some x → w.heap.size ≤ x.block
def QREW (Q R : Int) (w : World) (e : Ending) (w' : World) : Prop :=
  ∃ B m cap B' m' cap', e = .returned (.tuple #[.slice B m cap, .slice B' m' cap', .nilIface]) ∧ Cn w' B m cap Q ∧ CnW w' B' m' cap' R ∧ Below w.heap.size w w' ∧ (∀ x, B = some x → w.heap.size ≤ x.block) ∧ ∀ x, B' = some x → w.heap.size ≤ x.block
section
def AnsRW (N : Int) (w : World) (e : Ending) (w' : World) : Prop :=
  e = .returned (.slice (some ⟨w.heap.size, 0, none⟩) (dl N) (dl N)) ∧ Row w' w.heap.size 78 .u64 (dg W N) ∧ Below w.heap.size w w'
end
section
set_option maxHeartbeats 1000000 in
theorem norm_roww {A : Option Addr} {n c : Nat} {N : Int} {w : World} (h : Nm w A n c N) :
    Calls Tryz.prog 74 #[.slice A n c] w (AnsRW N w) := by
  have hx := h.lim
  have hle : dl N ≤ 17592186044416 := by have := hx.nc; have := hx.c60; omega
  have hmk := fun W => run_make64 (dl N) (C := (dl N : Int)) rfl (by omega) W
  obtain ⟨Z, hZ⟩ : ∃ Z : List Int, Z = List.replicate (dl N) 0 := ⟨_, rfl⟩
  rw [← hZ] at hmk
  have HZ := Lib.hid hZ
  clear hZ
  obtain ⟨X, hX⟩ : ∃ X : List Int, X = dg W N := ⟨_, rfl⟩
  have hxr := hx.rd
  rw [← hX] at hxr
  have HX := Lib.hid hX
  clear hX
  go_enter Tryz.func74, Tryz.ntmps74
  go_wp2_with fail
  refine (limbs_nm h).mono ?_
  rintro e w1 ⟨rfl, rfl⟩
  go_wp2_with (with_reducible refine wpList_copy_splice rfl (.tmp 10) (.tmp 11) 23 23 rfl 78 Tryz.underlying23 (by kernel_rfl) _ _ _ _ _ _ rfl rfl w.heap.size 0 (Z.map (Value.int .u64)) 78 ?hg (X.map (Value.int .u64)) ?hn ?hpos ?hfit ?h1 w.heap.size w ?hb (Nat.le_refl _) ?_)
  case hg => exact Row.new _ _ _ _
  case hn => rw [List.length_map, hxr.len]; simp
  case hpos => exact rd_pos hxr
  case hfit => rw [List.length_map, List.length_map, hxr.len, HZ.out]; simp
  case h1 => exact ints_oneCell _ _
  case hb => exact (Below.refl _ _).alloc (Nat.le_refl _) _
  intro w2 hrow hb
  clear hmk
  go_wp2
  go_ret
  have hr := hrow.out
  rw [splice_all (by rw [List.length_map, List.length_map, hxr.len, HZ.out]; simp)] at hr
  have hr2 : Row w2 w.heap.size 78 .u64 X := hr
  rw [HX.out] at hr2
  exact ⟨rfl, hr2, hb⟩
end
theorem norm_w {A : Option Addr} {n c : Nat} {N : Int} {w : World} (h : Nm w A n c N) : Calls Tryz.prog 74 #[.slice A n c] w (Ans1W N w) :=
  (norm_roww h).mono fun e w' ⟨he, hr, hb⟩ => ⟨_, _, _, he, ⟨⟨hr.rd rfl (fun j x hx => by rwa [Nat.zero_add]), Nat.le_refl _, by have := h.lim.nc; have := h.lim.c60; omega, h.pos⟩, wr_row hr (Nat.le_refl _)⟩, hb, fun a ha => by injection ha with ha; subst ha; exact Nat.le_refl _⟩
section
set_option maxHeartbeats 4000000 in
theorem divide_w {A A' : Option Addr} {c c' a b : Nat} {N M : Int} {w : World} (h : Cn w A a c N) (h' : Cn w A' b c' M) (hM : 0 < M) (hab : b ≤ a) (ha : a ≤ 64) :
    Calls Tryz.prog 142 #[.slice A a c, .slice A' b c'] w (QRW (N / M) (N % M) w) := by
  have hla : dl N = a := h.len_.symm
  have hlb : dl M = b := h'.len_.symm
  have hb0 : 0 < b := by
    rcases Nat.eq_zero_or_pos b with g | g
    · rw [g] at hlb; have := (dl_zero h'.pos).1 hlb; omega
    · exact g
  obtain ⟨m, hm⟩ : ∃ m, m + 1 = b := ⟨b - 1, by omega⟩
  obtain ⟨bb, bo, t, rfl, hbb, ht, hct⟩ := h'.rd.at_ (j := m) (by omega)
  have ete := dig_lt ht
  have dt := dig_W (dig_dg W_two h'.pos) m
  have htop := dg_top W_two hM
  rw [show (dg W M).length - 1 = m by have : (dg W M).length = b := hlb; omega] at htop
  rw [ete] at dt htop
  obtain ⟨s1, s2, s3⟩ := lzs_bd htop dt.2
  obtain ⟨s, hs⟩ : ∃ s, lzs t = s := ⟨_, rfl⟩
  rw [hs] at s1 s2 s3
  have hcl := fun W => lz64_nat t W dt.1 dt.2
  rw [hs] at hcl
  have HCL := Lib.hid hcl
  have HETE := Lib.hid ete
  have HS2 := Lib.hid s2
  have HS3 := Lib.hid s3
  have HLA := Lib.hid hla
  have HLB := Lib.hid hlb
  clear hcl ht ete s2 s3 hla hlb hs
  have e1 : (b : Int) - 1 = m := by omega
  obtain ⟨k0, hk0⟩ : ∃ k0, k0 + b = a + 1 := ⟨a + 1 - b, by omega⟩
  have e2 : (a : Int) - b + 1 = k0 := by omega
  have hmk := fun W => run_make64 k0 (C := (k0 : Int)) rfl (by omega) W
  obtain ⟨Z, hZ⟩ : ∃ Z : List Int, Z = List.replicate k0 0 := ⟨_, rfl⟩
  rw [← hZ] at hmk
  have HZ := Lib.hid hZ
  have HM := Lib.hid hm
  have HK0 := Lib.hid hk0
  clear hZ
  go_enter Tryz.func142, Tryz.ntmps142
  clear hm hk0
  go_wp2_with fail
  refine (HCL.out _).mono ?_
  rintro e w1 ⟨rfl, rfl⟩
  go_wp2_with fail
  refine (shiftLeft_any h.rd (dig_dg W_two h.pos) ha s s1).mono ?_
  rintro e w1 ⟨rs, rfl, r1, r2, r3, r4, r5⟩
  have R2 := Lib.hid r2
  have R4 := Lib.hid r4
  clear r2 r4
  go_wp2_with fail
  refine (shiftLeft_any (h'.rd.below r5) (dig_dg W_two h'.pos) (by omega) s s1).mono ?_
  rintro e w2 ⟨vs, rfl, v1, v2, v3, v4, v5⟩
  have V2 := Lib.hid v2
  have V4 := Lib.hid v4
  clear v2 v4
  go_wp2_with fail
  clear hmk e1 e2
  have hP := pw_pos s
  obtain ⟨n1, n2⟩ := div_norm (P := pw s) hM HLB.out HM.out (by rw [HETE.out]; exact HS2.out) (by rw [HETE.out]; exact HS3.out) hP v3 V4.out
  have hPM : vf W (dig vs) b < W ^ b := (vf_bd (b := W) (by decide) (fun j => dig_bd (b := W) (by decide) v3 j) b).2
  have N1 := Lib.hid n1
  have hPM' := Lib.hid hPM
  clear n1 hPM
  have z1 := r5.size
  have z2 := v5.size
  have z3 : w.heap.size < w1.heap.size := r1.lt
  have z4 : w1.heap.size < w2.heap.size := v1.lt
  have n0 : N = vf W (dig (dg W N)) a := (val_dl h.pos (Nat.le_of_eq HLA.out)).symm
  have N0 := Lib.hid n0
  clear n0
  have R4' : vf W (dig rs) (a + 1) = pw s * N := by rw [R4.out, ← N0.out]
  have HR4 := Lib.hid R4'
  clear R4'
  go_loopw [11] (fun i wr => DivR N M (pw s) a b k0 w.heap.size w1.heap.size w2.heap.size vs w i wr) (fun i _ => (intOf i + 1).toNat)
  case atStart =>
    refine ⟨k0, _, rs, Z, rfl, rfl, Nat.le_refl _, (r1.below v5 r1.lt).alloc _, R2.out, r3, Row.new _ _ _ _, by rw [HZ.out]; simp, by rw [HZ.out]; intro x hx; simp at hx; rw [hx.2]; exact ⟨by decide, by decide⟩, v1.alloc _, fun j hj => dig_ge (by rw [R2.out]; have := HK0.out; omega), fun j hj => by rw [HZ.out]; exact dig_replicate _ _, div_head h.pos hM HLA.out HLB.out HK0.out hP r3 HR4.out, ?_, ((r5.trans (v5.mono z1)).alloc (by omega) _)⟩
    rw [HR4.out, HZ.out, vf_zero W (k := 0) (Nat.zero_le _) (fun j _ => dig_replicate _ j)]; simp [vf]
  case round =>
    obtain ⟨k, v, xs, qs, rfl, hv, hk, x1, x2, x3, q1, q2, q3, y1, hz, hq, hw, hsum, hb⟩ := hrel
    have HZE := Lib.hid hz
    have HQ := Lib.hid hq
    have HW := Lib.hid hw
    have HSUM := Lib.hid hsum
    have X2 := Lib.hid x2
    have Q2 := Lib.hid q2
    clear hz hq hw hsum
    have hkb : k + b ≤ a + 1 := by have := HK0.out; omega
    rcases Nat.eq_zero_or_pos k with g | g
    · subst g
      obtain rfl : v = -1 := by omega
      clear x2 q2 hv hk hkb
      have hR : vf W (dig xs) (a + 1) = vf W (dig xs) b := vf_zero W (by omega) (fun j hj => HZE.out j (by omega))
      have hR2 : wv xs 0 b = vf W (dig xs) b := vf_congr W (fun j _ => by rw [Nat.zero_add])
      obtain ⟨eQ, eR⟩ := div_end hM hP (vf_bd (b := W) (by decide) (fun j => dig_bd (b := W) (by decide) x3 j) b).1 (by rw [← hR2]; exact HW.out) (by rw [← hR]; exact HSUM.out)
      have hmod := low_mod (rs := xs) (s := s) (r := N % M) (by omega) hb0 (by rw [hR2]; exact eR)
      have hq0 : 0 ≤ N / M := Int.ediv_nonneg h.pos (by omega)
      have hr0 : 0 ≤ N % M := Int.emod_nonneg _ (by omega)
      have hnq : Nm wr (some ⟨w2.heap.size, 0, none⟩) k0 k0 (N / M) :=
        ⟨⟨qs, q1.rd Q2.out (fun j x hx => by rwa [Nat.zero_add]), q3, by rw [val_vf W qs (m := k0) (by rw [Q2.out]; exact Nat.le_refl _)]; exact eQ⟩, Nat.le_refl _, by have := HK0.out; omega, hq0⟩
      have hxr : Rd .u64 wr (some ⟨w.heap.size, 0, none⟩) b (xs.take b) := x1.rd0 (by rw [X2.out]; omega)
      have hxd : Dig W (xs.take b) := fun x hx => x3 x (List.mem_of_mem_take hx)
      have ER := Lib.hid eR
      have HMOD := Lib.hid hmod
      clear hR hR2 eQ eR hmod
      have hba : b ≤ 64 := by omega
      have l1 : (b : Int) ≤ (a : Int) + 1 := by omega
      go_wp2_with fail
      go_region_with (first
        | (go_at_call_of 108 (Value.slice (some (⟨w2.heap.size, 0, none⟩ : Addr)) k0 k0); refine (limbs_nm (hnq.drewN 1)).mono ?_; rintro e w4 ⟨rfl, rfl⟩)
        | (go_at_call 158; refine (shiftRight_any (hxr.drewN 1) hxd hba s s1).mono ?_; rintro e w4 ⟨zs, rfl, p1, p2, p3, p4, p5⟩; have hnr := shr_nm p1 p2 p3 p4 ER.out HMOD.out hb0 hba hr0; have hwr := wr_row p1 (show dl (N % M) ≤ zs.length by rw [p2]; exact hnr.dl_le); clear p2 p4)
        | (go_at_call 108; refine (limbs_nm hnr).mono ?_; rintro e w5 ⟨rfl, rfl⟩))
      all_goals
        go_wp2
        go_ret2
        exact ⟨_, _, _, _, _, _, rfl, (hnq.drewN 1).lim.below p5, ⟨hnr.lim, hwr⟩, (below_drewN hb 1).trans (p5.mono hb.size), fun x hx => by injection hx with hx; subst hx; show w.heap.size ≤ w2.heap.size; omega, fun x hx => by injection hx with hx; subst hx; exact hb.size⟩
    · obtain ⟨j, rfl⟩ : ∃ j, k = j + 1 := ⟨k - 1, by omega⟩
      obtain rfl : v = (j : Int) := by omega
      clear hv
      have t1 : j + (b + 1) ≤ xs.length := by rw [X2.out]; omega
      have t2 : j < a + 1 := by omega
      have t3 : j < k0 := by omega
      have fz := q1.frozen j
      have cz := q1.cell (getElem?_dig (show j < qs.length by omega))
      clear x2 q2
      go_wp2_with fail
      rw [show j + b + 1 - j = b + 1 by omega]
      refine (takeDigit_any x1 x3 t1 hb0 (by omega) (by omega) (y1.rd (off := 0) (n := b) (ys := vs.take b) (by rw [List.length_take, V2.out]; omega) (fun i x hx => by
          rw [Nat.zero_add]
          rcases Nat.lt_or_ge i b with hi | hi
          · rwa [List.getElem?_take_of_lt hi] at hx
          · rw [List.getElem?_eq_none (by rw [List.length_take]; omega)] at hx; cases hx)) (fun x hx => v3 x (List.mem_of_mem_take hx)) (fun a ha => by injection ha with ha; subst ha; exact Nat.ne_of_gt z3)
          (by rw [show b - 1 = m by have := HM.out; omega, dig_take (by have := HM.out; omega)]; exact n2)
          (by rw [vf_congr W (g := dig vs) (fun i hi => dig_take hi), N1.out]; exact div_low x3 HW.out)).mono ?_
      rintro e w3 ⟨ys, D, rfl, D0, D1, tt, hwv, hlt⟩
      rw [vf_congr W (f := dig (vs.take b)) (g := dig vs) (fun i hi => dig_take hi), N1.out] at hwv hlt
      have HWV := Lib.hid hwv
      have HLT := Lib.hid hlt
      clear hwv hlt
      have q1' := q1.grown tt.grown (by intro he; injection he with he; omega)
      have y1' := y1.grown tt.grown (by intro he; injection he with he; omega)
      have fz' := q1'.frozen j
      have cz' := q1'.cell (getElem?_dig (show j < qs.length by rw [Q2.out]; exact t3))
      clear fz cz
      go_wp2_with fail
      have hz2 := div_zero tt.dig_ HLT.out (by rw [← N1.out]; exact hPM'.out)
      go_roundw
      case rel =>
        exact ⟨j, _, ys, qs.set j D, rfl, rfl, by omega, tt.row.far (Nat.ne_of_lt (Nat.lt_trans z3 z4)) _, tt.len.trans X2.out, tt.dig_, q1'.set _ _, by simpa using Q2.out, q3.set D0 D1 _, y1'.far (Nat.ne_of_lt z4) _,
          fun i hi => by
            rcases Nat.lt_or_ge (j + b) i with h1 | h1
            · rw [tt.rest i (.inr (by omega))]; exact HZE.out i (by omega)
            · obtain rfl : i = j + b := by omega
              exact hz2.1,
          fun i hi => by rw [dig_set_ne (by omega)]; exact HQ.out i (by omega), hz2.2,
          div_sum tt.rest (by rw [X2.out] at t1; exact t1) HWV.out (by rw [Q2.out]; exact t3) (HQ.out j (by omega)) t3 HSUM.out,
          (below_grown hb tt.grown hb.size (Nat.le_refl _)).setCell (by show w.heap.size ≤ w2.heap.size; omega) _⟩
      case measure => simp [intOf]
end
section
set_option maxHeartbeats 1000000 in
theorem div_w {A A' : Option Addr} {n c n' c' : Nat} {N M : Int} {w : World} (h : Nm w A n c N) (h' : Nm w A' n' c' M) (hl : dl N ≤ 64) (hl' : dl M ≤ 64) (hM : 0 < M) :
    Calls Tryz.prog 105 #[.slice A n c, .slice A' n' c'] w (QREW (N / M) (N % M) w) := by
  have hx := h.lim
  have hy := h'.lim
  have hz : ((dl M : Int) == 0) = false := by
    have : dl M ≠ 0 := fun e => by have := (dl_zero h'.pos).1 e; omega
    simpa using this
  by_cases hlt : dl N < dl M
  · have hNM : N < M := by
      rcases Int.lt_or_le N M with g | g
      · exact g
      · have := dl_mono h'.pos g; omega
    rw [Int.ediv_eq_zero_of_lt h.pos hNM, Int.emod_eq_of_lt h.pos hNM]
    have HNM := Lib.hid hNM
    clear hNM
    go_enter Tryz.func105, Tryz.ntmps105
    go_wp2_with fail
    refine (limbs_nm h).mono ?_
    rintro e w1 ⟨rfl, rfl⟩
    go_wp2_with fail
    refine (limbs_nm h').mono ?_
    rintro e w1 ⟨rfl, rfl⟩
    go_wp2_with fail
    refine (tooLong_no _ _ _ _ _ _ _ hl hl').mono ?_
    rintro e w1 ⟨rfl, rfl⟩
    go_wp2_with fail
    refine (norm_w hx.nm).mono ?_
    rintro e w1 ⟨B, m, cap, rfl, k1, k2, k3⟩
    go_wp2
    go_ret3
    exact ⟨_, _, _, _, _, _, rfl, Cn.nil _, k1, k2, fun x hx => (by cases hx), k3⟩
  · have hge : dl M ≤ dl N := by omega
    go_enter Tryz.func105, Tryz.ntmps105
    go_wp2_with fail
    refine (limbs_nm h).mono ?_
    rintro e w1 ⟨rfl, rfl⟩
    go_wp2_with fail
    refine (limbs_nm h').mono ?_
    rintro e w1 ⟨rfl, rfl⟩
    go_wp2_with fail
    refine (tooLong_no _ _ _ _ _ _ _ hl hl').mono ?_
    rintro e w1 ⟨rfl, rfl⟩
    go_wp2_with fail
    refine (divide_w hx hy hM hge hl).mono ?_
    rintro e w1 ⟨B, m, cap, B', m', cap', rfl, k1, k2, k3, k4, k5⟩
    go_wp2
    go_ret3
    exact ⟨_, _, _, _, _, _, rfl, k1, k2, k3, k4, k5⟩
end
section
variable {w : World} {b : Nat} {m : Int} {n : Nat} {A : Option Addr} {c : Nat} {low : Int} {B : Option Addr} {cB : Nat} {S : Option Addr} {cS : Nat}
theorem reduce_w (md : Md w b m n A c low B cB S cS) {XA : Option Addr} {l cx : Nat} {X : Int} (hX : Nm w XA l cx X) (hl : dl X ≤ 64) :
    Calls Tryz.prog 79 #[.pointer (some ⟨b, 0, none⟩), .slice XA l cx] w (AnsWr (X % m) w) := by
  have q0 := md.c0
  have m3 := md.m3
  go_enter Tryz.func79, Tryz.ntmps79
  go_wp2_with fail
  refine (div_w hX md.lim.nm hl md.dlm (by omega)).mono ?_
  rintro e w1 ⟨B1, n1, c1, B2, n2, c2, rfl, -, k1, b1, -, hn⟩
  go_wp2
  go_ret2
  exact ⟨_, _, _, rfl, k1, b1, hn⟩
end
section
variable {w : World} {b : Nat} {m : Int} {n : Nat} {A : Option Addr} {c : Nat} {low : Int} {B : Option Addr} {cB : Nat} {S : Option Addr} {cS : Nat}
theorem mmul_w (md : Md w b m n A c low B cB S cS) {XA YA : Option Addr} {l cx l' cy : Nat} {X Y : Int} (hX : Nm w XA l cx X) (hY : Nm w YA l' cy Y) (hl : dl X ≤ 64) (hl' : dl Y ≤ 64) :
    Calls Tryz.prog 150 #[.pointer (some ⟨b, 0, none⟩), .slice XA l cx, .slice YA l' cy] w (AnsWr (X * Y % m) w) := by
  have rx := md.rest X
  have ry := md.rest Y
  have rs : dl (X % m * (Y % m)) ≤ 64 := by have := dl_mul rx.1 ry.1 rx.2.2.1 ry.2.2.1; omega
  go_enter Tryz.func150, Tryz.ntmps150
  go_wp2_with fail
  refine (both_any md hX hY hl hl').mono ?_
  rintro e w1 ⟨B1, n1, c1, B2, n2, c2, rfl, k1, k2, b1⟩
  go_wp2_with fail
  refine (mul_any k1.nm k2.nm rx.2.2.2 ry.2.2.2).mono ?_
  rintro e w2 ⟨B3, n3, c3, rfl, k3, b2, -⟩
  have b12 := b1.trans (b2.mono b1.size)
  clear k1 k2 b2
  go_wp2_with fail
  refine (reduce_w (md.below b12) k3.nm rs).mono ?_
  rintro e w3 ⟨B4, n4, c4, rfl, k4, b3, hn⟩
  rw [← Int.mul_emod] at k4
  go_wp2
  go_ret2
  exact ⟨_, _, _, rfl, k4, b12.trans (b3.mono b12.size), fun a ha => Nat.le_trans b12.size (hn a ha)⟩
end
section
set_option maxHeartbeats 4000000 in
theorem residue_w {w : World} {b : Nat} {m : Int} {n : Nat} {A : Option Addr} {c : Nat} {low : Int} {B : Option Addr} {cB : Nat} {S : Option Addr} {cS : Nat} (md : Md w b m n A c low B cB S cS)
    {XA : Option Addr} {cx : Nat} {X v : Int} (hX : Nm w XA n cx X) (hF : Form m n v X) :
    Calls Tryz.prog 135 #[.pointer (some ⟨b, 0, none⟩), .slice XA n cx] w (Ans1W (v % m) w) := by
  have n32 := md.l32
  have n1 := md.n1
  have hlt := md.lt
  have q0 := md.c0
  have HF := Lib.hid hF
  clear hF
  have hl := lit_one w 1 (by decide) (by decide)
  have hb0 : Below w.heap.size w (w.alloc (.cells #[.int .u64 1] 78)) := (Below.refl _ _).alloc (Nat.le_refl _) _
  have HL := Lib.hid hl
  have HB0 := Lib.hid hb0
  clear hl hb0
  go_enter Tryz.func135, Tryz.ntmps135
  go_wp2_with fail
  refine (widen_any HL.out n (by omega) (by omega)).mono ?_
  rintro e w1 ⟨B1, cap1, rfl, hN, hb1, -⟩
  have b1 := HB0.out.trans (hb1.mono HB0.out.size)
  clear hb1
  go_wp2_with fail
  refine (times_any (md.below b1) (hX.below b1) hN HF.out.lt).mono ?_
  rintro e w2 ⟨B2, cap2, T, rfl, hN2, hT, hb2, -⟩
  have b2 := b1.trans (hb2.mono b1.size)
  have hv := hT.residue md.odd HF.out
  subst hv
  clear hb2 hT
  go_wp2_with fail
  refine (norm_w hN2).mono ?_
  rintro e w3 ⟨B3, m3, cap3, rfl, hN3, hb3, hnew⟩
  have b3 := b2.trans (hb3.mono b2.size)
  go_wp2
  go_ret
  exact ⟨_, _, _, rfl, hN3, b3, fun a ha => Nat.le_trans b2.size (hnew a ha)⟩
end
section
variable {w : World} {b : Nat} {m : Int} {n : Nat} {A : Option Addr} {c : Nat} {low : Int} {B : Option Addr} {cB : Nat} {S : Option Addr} {cS : Nat}
set_option maxHeartbeats 4000000 in
set_option maxRecDepth 100000 in
theorem exp_w (md : Md w b m n A c low B cB S cS) {XA YA : Option Addr} {l cx l' cy : Nat} {X E : Int} (hX : Nm w XA l cx X) (hE : Nm w YA l' cy E) (hl : dl X ≤ 64) (hl' : dl E ≤ 64) :
    Calls Tryz.prog 100 #[.pointer (some ⟨b, 0, none⟩), .slice XA l cx, .slice YA l' cy] w (AnsWr (X ^ E.toNat % m) w) := by
  have rx := md.rest X
  have g1 : decide ((4096 : Int) < (nb E : Int)) = false := by
    have := nb_dl hE.pos 64
    simp; omega
  have hlen := md.len
  have hdl : dl (X % m) ≤ n := by have := dl_mono rx.1 (show X % m ≤ m by omega); omega
  clear hlen
  go_enter Tryz.func100, Tryz.ntmps100
  go_wp2_with fail
  refine (bits_any hE).mono ?_
  rintro e w1 ⟨rfl, rfl⟩
  go_wp2_with fail
  refine (reduce_any md hX hl).mono ?_
  rintro e w1 ⟨B1, n1, c1, rfl, k1, b1, -⟩
  have hn1 : n1 ≤ n := by rw [k1.len_]; exact hdl
  have hlt1 : 0 < n := by have := md.n1; omega
  have HK := Lib.hid k1
  have HB := Lib.hid b1
  clear k1 b1
  go_upto_region 6 with fail
  go_cut [10] (fun p wx => ExC m n (X % m) w p wx)
  case first =>
    have HMD : Md w1.drew b m n A c low B cB S cS := md.below HB.out.drew
    have HM := Lib.hid HMD
    have HKD := Lib.hid (HK.out.below (below_dr w1))
    clear HMD
    go_region_with (first
      | (go_at_call 131; refine (form_any HM.out HKD.out.nm hn1 rx.2.1).mono ?_; rintro e w2 ⟨B2, c2, T2, rfl, hN2, hF2, hb2⟩; have HM2 := Lib.hid (HM.out.below hb2); have HF2 := Lib.hid hF2; clear hF2)
      | (go_at_call 131; refine (form_any (HM.out.below (below_al _ _)) (HKD.out.alloc _).nm hn1 rx.2.1).mono ?_; rintro e w2 ⟨B2, c2, T2, rfl, hN2, hF2, hb2⟩; have HM2 := Lib.hid ((HM.out.below (below_al _ _)).below hb2); have HF2 := Lib.hid hF2; have hgC := (hb2.block w1.drew.heap.size (by simp)).trans (heap_alloc_new w1.drew _); have HGC := Lib.hid hgC; clear hF2 hgC)
      | (go_at_call 130; refine (powersOf_any HM2.out hN2 HF2.out).mono ?_; rintro e w3 ⟨arr, rfl, hsz, hall, hp, hb3⟩; have HSZ := Lib.hid hsz; have HALL := Lib.hid hall; have HP := Lib.hid hp; have HM3 := Lib.hid (HM2.out.below hb3); first | (have hgC3 := (hb3.block w1.heap.size (by have := (Array.getElem?_eq_some_iff.1 HGC.out).1; exact this)).trans HGC.out; have hst := store16' w3 hgC3 rfl hsz hall; have HG3 := Lib.hid hgC3; clear hgC3) | have hst := store16 w3 hsz hall; clear hsz hall hp)
      | (go_at_call 130; refine (powersOf_any (HM2.out.below (below_al _ _)) (hN2.alloc _) HF2.out).mono ?_; rintro e w3 ⟨arr, rfl, hsz, hall, hp, hb3⟩; have HSZ := Lib.hid hsz; have HALL := Lib.hid hall; have HP := Lib.hid hp; have HM3 := Lib.hid ((HM2.out.below (below_al _ _)).below hb3); have hgB3 := (hb3.block w2.heap.size (by simp)).trans (heap_alloc_new w2 _); have hst := store16' w3 hgB3 rfl hsz hall; have HG3 := Lib.hid hgB3; clear hsz hall hp hgB3))
    · have s1 := HB.out.size
      have s2 := hb2.size
      have b3 := HB.out.drew.trans (hb2.mono HB.out.drew.size)
      have b4 := b3.trans (hb3.mono b3.size)
      go_wp2_with fail
      go_meet
      exact ⟨_, _, arr, _, B, rfl, rfl, ⟨heap_alloc_new w3 _, HSZ.out, HP.out.below (below_al w3 _)⟩, b4.trans ((below_al w3 _).mono b4.size)⟩
    · have s1 := HB.out.size
      have s2 : w1.heap.size ≤ w2.heap.size := hb2.size
      have b3 := HB.out.drew.trans (hb2.mono HB.out.drew.size)
      have b3' := b3.trans ((below_al w2 (.cells nils16 171)).mono b3.size)
      have b4 := b3'.trans (hb3.mono b3'.size)
      have hs : ∀ o, (w2.alloc o).heap.size = w2.heap.size + 1 := fun o => by simp
      go_wp2_with fail
      go_meet
      exact ⟨_, _, arr, _, B, rfl, rfl, ⟨setRow_heap w3 _ _ arr _ _ HG3.out, HSZ.out, HP.out.setRow (fun x hx => by have := Nm.lt md.one hlt1 x hx; omega) (by rw [hs]; omega) _⟩, below_setRow b4 (by omega) _⟩
    · have s1 := HB.out.size
      have b2' : Below w.heap.size w w1.drew := HB.out.drew
      have b3 := b2'.trans ((below_al w1.drew (.cells nils16 171)).mono b2'.size)
      have b3' := b3.trans (hb2.mono b3.size)
      have b4 := b3'.trans (hb3.mono b3'.size)
      have s2 : w1.heap.size ≤ w2.heap.size := by have := hb2.size; have h1 := (below_al w1.drew (.cells nils16 171)).size; exact Nat.le_trans h1 this
      go_wp2_with fail
      go_meet
      exact ⟨_, _, arr, _, B, rfl, rfl, ⟨setRow_heap w3 _ _ arr _ _ HG3.out, HSZ.out, HP.out.setRow (fun x hx => by have := Nm.lt md.one hlt1 x hx; omega) (by omega) _⟩, below_setRow b4 (by omega) _⟩
  case rest =>
    obtain ⟨wx, gp, arr, gg, Bo, rfl, rfl, hup, bx⟩ := hcut
    have HUP := Lib.hid hup
    have mdx := md.below bx
    have q2 := mdx.c2
    have hXE := hE.below bx
    clear hup
    go_wp2_with fail
    refine (digitCount_any hXE hl').mono ?_
    rintro e wx' ⟨rfl, rfl⟩
    clear q2
    have hcnt : (nb E + 3) / 4 ≤ 2000 := by have := (nb_dl hE.pos 64).2 hl'; omega
    go_wp2_with fail
    go_loopw [11, 12] (fun z i wr => ExR m n (X % m) E wx z i wr) (fun _ i _ => (intOf i + 1).toNat)
    case atStart =>
      refine ⟨(nb E + 3) / 4, _, _, _, _, rfl, by omega, Nat.le_refl _, rfl, mdx.one, ?_, Below.refl _ _⟩
      rw [exp_top hE.pos, Int.pow_zero]
      exact one_form (by have := md.m3; omega)
    case round =>
      obtain ⟨k, v, Z, cz, T, rfl, hv, hk, rfl, hN, hF, hb⟩ := hrel
      have HF := Lib.hid hF
      clear hF
      have b2 := bx.trans (hb.mono bx.size)
      have mdr := md.below b2
      have hEr := hE.below b2
      rcases Nat.eq_zero_or_pos k with hk0 | hk0
      · subst hk0
        obtain rfl : v = -1 := by omega
        clear hv
        have hF0 := HF.out
        rw [Int.pow_zero, Int.ediv_one] at hF0
        go_wp2_with fail
        refine (residue_w mdr hN hF0).mono ?_
        rintro e w4 ⟨B4, n4, c4, rfl, k4, b4, hn4⟩
        rw [((Eqm.mod m X).pow E.toNat).emod] at k4
        go_wp2
        go_ret2
        exact ⟨_, _, _, rfl, k4, b2.trans (b4.mono b2.size), fun a ha => Nat.le_trans b2.size (hn4 a ha)⟩
      · obtain ⟨j, rfl⟩ : ∃ j, k = j + 1 := ⟨k - 1, by omega⟩
        obtain rfl : v = j := by omega
        clear hv
        have hE0 := hE.pos
        obtain ⟨d, hd, hd16⟩ : ∃ d : Nat, E / 16 ^ j % 16 = (d : Int) ∧ d < 16 := ⟨(E / 16 ^ j % 16).toNat, by omega, by omega⟩
        have HD := Lib.hid hd
        clear hd
        have hin := digit_in hE0 hk hE.dl_le
        go_wp2_with fail
        go_loopw [11, 47] (fun z i wr2 => ExI m n ((X % m) ^ (E / 16 ^ (j + 1)).toNat) wr z i wr2) (fun _ i _ => 4 - (intOf i).toNat)
        case atStart => exact ⟨0, _, _, _, by omega, rfl, rfl, hN, by rw [Nat.pow_zero, Int.pow_one]; exact HF.out, Below.refl _ _⟩
        case round =>
          obtain ⟨i, Z2, cz2, T2, hi4, rfl, rfl, hN2, hF2, hb2⟩ := hrel
          have HF2 := Lib.hid hF2
          clear hF2
          have b3 := b2.trans (hb2.mono b2.size)
          have md3 := md.below b3
          rcases Nat.lt_or_ge i 4 with hlt | hge
          · go_wp2_with fail
            refine (times_any md3 hN2 hN2 HF2.out.lt).mono ?_
            rintro e w5 ⟨B5, c5, T5, rfl, hN5, hT5, b5, -⟩
            have HT5 := Lib.hid (hT5.form md.odd HF2.out HF2.out)
            clear hT5
            go_wp2
            go_roundw
            case rel =>
              refine ⟨i + 1, _, _, _, by omega, by go_num, rfl, hN5, ?_, hb2.trans (b5.mono hb2.size)⟩
              have e : ((X % m) ^ (E / 16 ^ (j + 1)).toNat) ^ 2 ^ (i + 1) = ((X % m) ^ (E / 16 ^ (j + 1)).toNat) ^ 2 ^ i * ((X % m) ^ (E / 16 ^ (j + 1)).toNat) ^ 2 ^ i := by
                rw [← Int.pow_add, Nat.pow_succ]; congr 1; omega
              rw [e]
              exact HT5.out
            case measure => simp [intOf]; omega
          · obtain rfl : i = 4 := by omega
            have hE3 := hE.below b3
            have bt' := hb.trans (hb2.mono hb.size)
            have hgp : gp < wx.heap.size := (Array.getElem?_eq_some_iff.1 HUP.out.tab).1
            have htab := (bt'.block gp hgp).trans HUP.out.tab
            obtain ⟨Ad, cd, Td, ed, hNd, hFd, -⟩ := (HUP.out.pows.below bt') d hd16
            have hcell := (cell_of_row _ gp d arr _ _ htab).trans ed
            have HFD := Lib.hid hFd
            clear htab ed hFd
            have hd1 : (d : Int) < 16 := by omega
            go_wp2_with fail
            go_region_with (first
              | (go_at_call 134; refine (digitAt_d (hE3.below (below_dr _)) j d hin (by omega) HD.out).mono ?_; rintro e w6 ⟨rfl, rfl⟩)
              | (go_at_call 133; refine (times_any (md3.below (below_dr _)) (hN2.below (below_dr _)) (hNd.below (below_dr _)) HF2.out.lt).mono ?_; rintro e w6 ⟨B6, c6, T6, rfl, hN6, hT6, b6, -⟩; have HT6 := Lib.hid (hT6.form md.odd HF2.out HFD.out); clear hT6))
            all_goals
              go_wp2
              go_roundw
              case rel =>
                refine ⟨j, _, _, _, _, rfl, by omega, by omega, rfl, hN6, ?_, ?_⟩
                · rw [← exp_next hE0 HD.out]; exact HT6.out
                · have b7 := bt'.drew
                  exact b7.trans (b6.mono b7.size)
              case measure => simp [intOf]
end
section
variable {w w' : World} {b : Nat} {d : Gd} {A A' : Option Addr} {n c n' c' : Nat} {X Y : Int}
set_option maxHeartbeats 1000000 in
theorem gpower_w (h : Gr0 w b d) (ha : Nm w A n c X) (ha' : Nm w A' n' c' Y) (hx : El d.P d.Q X) (ly : dl Y ≤ 64) :
    Calls Tryz.prog 80 #[.pointer (some ⟨b, 0, none⟩), .slice A n c, .slice A' n' c'] w (AnsWr (X ^ Y.toNat % d.P) w) := by
  have lx := h.la (by have := hx.1; omega) hx.2.1
  have lq : dl d.Q ≤ 64 := by have := h.lq; omega
  have hq0 : 0 < d.Q := by have := h.safe.q3; omega
  have r0 := Int.emod_nonneg Y (show d.Q ≠ 0 by omega)
  have r1 := Int.emod_lt_of_pos Y hq0
  have lr : dl (Y % d.Q) ≤ 64 := h.la r0 (by have := h.safe.pq; omega)
  have e1 := hx.red h.safe.p2 h.safe.q1 ha'.pos
  have q1 := h.c1
  have HX := Lib.hid hx
  have E1 := Lib.hid e1
  clear hx e1 r0 r1
  go_enter Tryz.func80, Tryz.ntmps80
  go_wp2_with fail
  refine (div_any ha' h.q.nm ly lq hq0).mono ?_
  rintro e w1 ⟨B1, m1, d1, B2, m2, d2, rfl, -, k2, b1, -, -⟩
  have h1 := h.below b1
  clear q1
  have q0 := h1.c0
  go_wp2_with fail
  refine (exp_w h1.md (ha.below b1) k2.nm lx lr).mono ?_
  rintro e w3 ⟨B3, m3, d3, rfl, k3, b3, hn3⟩
  rw [E1.out] at k3
  have b13 := b1.trans (b3.mono b1.size)
  have HN : ∀ a, B3 = some a → w.heap.size ≤ a.block := fun a ha => by have := hn3 a ha; have := b1.size; omega
  have G := Lib.hid b13
  have HN3 := Lib.hid HN
  clear b13 b1 b3 q0 h1 hn3 HN k2
  go_wp2
  go_ret2
  exact ⟨_, _, _, rfl, k3, G.out, HN3.out⟩
end
section
variable {w w' : World} {b : Nat} {d : Gd} {A A' : Option Addr} {n c n' c' : Nat} {X Y : Int}
theorem gbase_w (h : Gr w b d) (ha' : Nm w A' n' c' Y) (ly : dl Y ≤ 64) :
    Calls Tryz.prog 36 #[.pointer (some ⟨b, 0, none⟩), .slice A' n' c'] w (AnsWr (d.G ^ Y.toNat % d.P) w) := by
  have q2 := h.c2
  go_enter Tryz.func36, Tryz.ntmps36
  go_wp2_with fail
  refine (gpower_w h.toGr0 h.g.nm ha' h.el ly).mono ?_
  rintro e w3 ⟨B3, m3, d3, rfl, k3, b3, hn3⟩
  go_wp2
  go_ret2
  exact ⟨_, _, _, rfl, k3, b3, hn3⟩
end
section
variable {w w' : World} {b : Nat} {d : Gd} {A A' : Option Addr} {n c n' c' : Nat} {X Y : Int}
set_option maxHeartbeats 1000000 in
theorem gmul_w (h : Gr0 w b d) (ha : Nm w A n c X) (ha' : Nm w A' n' c' Y) (hx : El d.P d.Q X) (hy : El d.P d.Q Y) :
    Calls Tryz.prog 126 #[.pointer (some ⟨b, 0, none⟩), .slice A n c, .slice A' n' c'] w (AnsWr (X * Y % d.P) w) := by
  have lx := h.la (by have := hx.1; omega) hx.2.1
  have ly := h.la (by have := hy.1; omega) hy.2.1
  have HX := Lib.hid hx
  have HY := Lib.hid hy
  clear hx hy
  go_enter Tryz.func126, Tryz.ntmps126
  go_wp2_with fail
  refine (gis_yes h ha HX.out).mono ?_
  rintro e w1 ⟨rfl, b1⟩
  go_wp2_with fail
  refine (gis_yes (h.below b1) (ha'.below b1) HY.out).mono ?_
  rintro e w2 ⟨rfl, b2⟩
  have b12 := b1.trans (b2.mono b1.size)
  have h2 := h.below b12
  have q0 := h2.c0
  clear b1 b2
  go_wp2_with fail
  refine (mmul_w h2.md (ha.below b12) (ha'.below b12) lx ly).mono ?_
  rintro e w3 ⟨B3, m3, d3, rfl, k3, b3, hn3⟩
  have b13 := b12.trans (b3.mono b12.size)
  have HN : ∀ a, B3 = some a → w.heap.size ≤ a.block := fun a ha => by have := hn3 a ha; have := b12.size; omega
  have G := Lib.hid b13
  have HN3 := Lib.hid HN
  clear b13 b12 b3 q0 h2 hn3 HN
  go_wp2
  go_ret2
  exact ⟨_, _, _, rfl, k3, G.out, HN3.out⟩
end
end Go.Proofs.YtpmnghealjgkeaaGreat
