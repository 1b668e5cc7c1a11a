/-
  Long division: what divide answers: quotient and remainder.
-/
import Derived.Test.YtloajnaphenbjaaGreatDoorShift
import Derived.Test.YtloajnaphenbjaaGreatDoorTake
import Derived.Lib.ItoaNum
namespace Go.Proofs.YtloajnaphenbjaaGreatDoor
open Go.RowKit
set_option linter.unusedVariables false
theorem Row.far {w : World} {g : Nat} {t : TypeId} {k : IntKind} {xs : List Int} (h : Row w g t k xs) {p : Addr} (hp : g ≠ p.block) (u : Value) : Row (w.setCell p u) g t k xs := (Below.heap_setCell w p u g hp).trans h
/-- How many bits a digit is shifted. -/
def lzs (x : Int) : Nat := 64 - Lib.bitLen x.toNat
theorem lz64_nat (x : Int) (w : World) (h0 : 0 ≤ x) (h1 : x < 18446744073709551616) :
    Calls Tryz.prog 113 #[.int .u64 x] w fun e w' => e = .returned (.int .i64 (lzs x : Nat)) ∧ w = w' := by
  refine (lz64 x w h0 h1).mono fun e w' ⟨he, hw⟩ => ⟨?_, hw⟩
  subst he
  have := Lib.bitLen_le x.toNat 64 (by omega) (by omega)
  unfold lzs
  rw [show ((64 - Lib.bitLen x.toNat : Nat) : Int) = 64 - (Lib.bitLen x.toNat : Int) by omega]
theorem lzs_bd {x : Int} (h0 : 1 ≤ x) (h1 : x < 18446744073709551616) : lzs x < 64 ∧ 9223372036854775808 ≤ pw (lzs x) * x ∧ pw (lzs x) * (x + 1) ≤ 18446744073709551616 := by
  obtain ⟨a, rfl⟩ := Int.eq_ofNat_of_zero_le (show 0 ≤ x by omega)
  obtain ⟨b1, b2, b3⟩ := Lib.bitLenAux_bounds 64 a (by omega) (by omega)
  have hle := Lib.bitLen_le a 64 (by omega) (by omega)
  have e : Lib.bitLen a = Lib.bitLenAux 64 a := rfl
  unfold lzs
  rw [Int.toNat_natCast]
  rw [← e] at b1 b2 b3
  generalize Lib.bitLen a = L at *
  refine ⟨by omega, ?_, ?_⟩
  · have e1 : 2 ^ (64 - L) * 2 ^ (L - 1) = 2 ^ 63 := by rw [← Nat.pow_add]; congr 1; omega
    have h2 := Nat.mul_le_mul_left (2 ^ (64 - L)) b2
    rw [e1] at h2
    have h3 : ((2 ^ 63 : Nat) : Int) ≤ ((2 ^ (64 - L) * a : Nat) : Int) := by omega
    rw [Int.natCast_mul, pw_nat] at h3
    exact h3
  · have e1 : 2 ^ (64 - L) * 2 ^ L = 2 ^ 64 := by rw [← Nat.pow_add]; congr 1; omega
    have h2 := Nat.mul_le_mul_left (2 ^ (64 - L)) (show a + 1 ≤ 2 ^ L from b3)
    rw [e1] at h2
    have h3 : ((2 ^ (64 - L) * (a + 1) : Nat) : Int) ≤ ((2 ^ 64 : Nat) : Int) := by omega
    rw [Int.natCast_mul, pw_nat] at h3
    simpa using h3
/-! ### The divisor, shifted -/
theorem div_norm {M P : Int} {b m : Nat} {vs : List Int} (hM : 0 < M) (hb : dl M = b) (hm : m + 1 = b) (hP0 : 9223372036854775808 ≤ P * dig (dg W M) m) (hP1 : P * (dig (dg W M) m + 1) ≤ 18446744073709551616) (hP : 0 < P)
    (hd : Dig W vs) (hv : vf W (dig vs) (b + 1) = P * vf W (dig (dg W M)) b) : vf W (dig vs) b = P * M ∧ 9223372036854775808 ≤ dig vs m := by
  subst hm
  have hMv := val_dl (show 0 ≤ M by omega) (Nat.le_of_eq hb)
  have hlow := vf_bd (b := W) (by decide) (fun j => dig_bd (b := W) (by decide) (dig_dg W_two (show 0 ≤ M by omega)) j) m
  have hvl := vf_bd (b := W) (by decide) (fun j => dig_bd (b := W) (by decide) hd j) (m + 1)
  have hvm := vf_bd (b := W) (by decide) (fun j => dig_bd (b := W) (by decide) hd j) m
  have d1 := dig_bd (b := W) (by decide) hd (m + 1)
  have d0 := dig_bd (b := W) (by decide) hd m
  have hp := pow_pos' W_two m
  have hp1 := pow_pos' W_two (m + 1)
  have e1 : W ^ (m + 1) = W ^ m * W := Int.pow_succ _ _
  have eM : vf W (dig (dg W M)) m + dig (dg W M) m * W ^ m = M := hMv
  have hW : W = 18446744073709551616 := rfl
  -- P M < W ^ (m + 1)
  have k1 : P * M < W ^ (m + 1) := by
    have a1 : M < (dig (dg W M) m + 1) * W ^ m := by rw [Int.add_mul]; omega
    have a2 := Int.mul_lt_mul_of_pos_left a1 hP
    have a3 := Int.mul_le_mul_of_nonneg_right hP1 (show 0 ≤ W ^ m by omega)
    rw [← Int.mul_assoc] at a2
    rw [e1, Int.mul_comm (W ^ m), hW]
    rw [hW] at a2 a3
    omega
  have k2 : vf W (dig vs) (m + 1 + 1) = vf W (dig vs) (m + 1) + dig vs (m + 1) * W ^ (m + 1) := rfl
  rw [hMv] at hv
  have k3 : dig vs (m + 1) = 0 := by
    rcases Int.lt_or_le 0 (dig vs (m + 1)) with g | g
    · have := Int.mul_le_mul_of_nonneg_right (show (1 : Int) ≤ dig vs (m + 1) by omega) (show 0 ≤ W ^ (m + 1) by omega)
      omega
    · omega
  rw [k3] at k2
  have k4 : vf W (dig vs) (m + 1) = P * M := by omega
  refine ⟨k4, ?_⟩
  rcases Int.lt_or_le (dig vs m) 9223372036854775808 with g | g
  · exfalso
    have a1 : vf W (dig vs) (m + 1) = vf W (dig vs) m + dig vs m * W ^ m := rfl
    have a2 : dig (dg W M) m * W ^ m ≤ M := by omega
    have a3 := Int.mul_le_mul_of_nonneg_left a2 (show 0 ≤ P by omega)
    have a4 := Int.mul_le_mul_of_nonneg_right hP0 (show 0 ≤ W ^ m by omega)
    rw [Int.mul_assoc] at a4
    have a5 := Int.mul_le_mul_of_nonneg_right (show dig vs m + 1 ≤ 9223372036854775808 by omega) (show 0 ≤ W ^ m by omega)
    rw [Int.add_mul] at a5
    omega
  · exact g
/-- The first window is below the divisor. -/
theorem div_head {N M P : Int} {a b k : Nat} {rs : List Int} (hN : 0 ≤ N) (hM : 0 < M) (ha : dl N = a) (hb : dl M = b) (hk : k + b = a + 1) (hP : 0 < P) (hd : Dig W rs) (hv : vf W (dig rs) (a + 1) = P * N) : wv rs k b < P * M := by
  have h1 : vf W (dig rs) (k + b) = vf W (dig rs) k + W ^ k * wv rs k b := vf_split W (dig rs) k b
  have h2 := vf_bd (b := W) (by decide) (fun j => dig_bd (b := W) (by decide) hd j) k
  have hp := pow_pos' W_two k
  have h3 : N < M * W ^ k := by
    have a1 := lt_dl hN (Nat.le_of_eq ha)
    have hb0 : 0 < b := by
      rcases Nat.eq_zero_or_pos b with g | g
      · rw [g] at hb; have := (dl_zero (show 0 ≤ M by omega)).1 hb; omega
      · exact g
    have a2 : W ^ (b - 1) ≤ M := by
      rcases Int.lt_or_le M (W ^ (b - 1)) with g | g
      · have := dl_le (show 0 ≤ M by omega) g; omega
      · exact g
    have a3 := Int.mul_le_mul_of_nonneg_right a2 (show 0 ≤ W ^ k by omega)
    rw [← Int.pow_add] at a3
    have e : b - 1 + k = a := by omega
    rw [e] at a3
    omega
  have h4 := Int.mul_lt_mul_of_pos_left h3 hP
  rw [hk, hv] at h1
  rcases Int.lt_or_le (wv rs k b) (P * M) with g | g
  · exact g
  · exfalso
    have a1 := Int.mul_le_mul_of_nonneg_left g (show 0 ≤ W ^ k by omega)
    rw [← Int.mul_assoc] at h4
    rw [Int.mul_comm (W ^ k) (P * M)] at a1
    omega
theorem wv_low (rs : List Int) (j b : Nat) : wv rs j (b + 1) = dig rs j + W * wv rs (j + 1) b := by
  have h := vf_split W (fun i => dig rs (j + i)) 1 b
  rw [Nat.add_comm] at h
  unfold wv
  rw [h]
  simp only [vf, Nat.add_zero]
  rw [vf_congr W (g := fun i => dig rs (j + 1 + i)) (fun i _ => by rw [Nat.add_assoc])]
  simp [show W ^ 1 = W from by simp [Int.pow_succ]]
theorem div_low {rs : List Int} {j b : Nat} {V : Int} (hd : Dig W rs) (h : wv rs (j + 1) b < V) : wv rs j (b + 1) < W * V := by
  rw [wv_low]
  have d := dig_bd (b := W) (by decide) hd j
  have : W * (wv rs (j + 1) b + 1) ≤ W * V := Int.mul_le_mul_of_nonneg_left (by omega) (by decide)
  rw [Int.mul_add] at this
  omega
theorem div_zero {ys : List Int} {j b : Nat} {V : Int} (hd : Dig W ys) (h : wv ys j (b + 1) < V) (hV : V < W ^ b) : dig ys (j + b) = 0 ∧ wv ys j b < V := by
  have h1 := wv_succ ys j b
  have h2 := wv_bd hd j b
  have d := dig_bd (b := W) (by decide) hd (j + b)
  rcases Int.lt_or_le 0 (dig ys (j + b)) with g | g
  · exfalso
    have := Int.mul_le_mul_of_nonneg_right (show (1 : Int) ≤ dig ys (j + b) by omega) (show 0 ≤ W ^ b from Int.le_of_lt (pow_pos' W_two b))
    omega
  · have : dig ys (j + b) = 0 := by omega
    refine ⟨this, ?_⟩
    rw [this] at h1
    omega
/-- A window that is changed. -/
theorem vf_window {rs ys : List Int} {j n t : Nat} (hr : ∀ i, i < j ∨ j + n ≤ i → dig ys i = dig rs i) (ht : j + n ≤ t) : vf W (dig ys) t - vf W (dig rs) t = W ^ j * (wv ys j n - wv rs j n) := by
  have a := vf_split W (dig ys) j n
  have b := vf_split W (dig rs) j n
  have c := vf_same W (f := dig ys) (g := dig rs) (k := j + n) ht (fun i hi => hr i (.inr hi))
  have d := vf_congr W (f := dig ys) (g := dig rs) (k := j) (fun i hi => hr i (.inl hi))
  have ea : vf W (fun i => dig ys (j + i)) n = wv ys j n := rfl
  have eb : vf W (fun i => dig rs (j + i)) n = wv rs j n := rfl
  rw [ea] at a
  rw [eb] at b
  rw [Int.mul_sub]
  omega
theorem vf_digit {qs : List Int} {j t : Nat} {D : Int} (hl : j < qs.length) (hq : dig qs j = 0) (ht : j < t) : vf W (dig (qs.set j D)) t = vf W (dig qs) t + D * W ^ j := by
  have h := vf_window (rs := qs) (ys := qs.set j D) (j := j) (n := 1) (t := t) (fun i hi => dig_set_ne (by omega)) (by omega)
  have e1 : wv (qs.set j D) j 1 = D := by
    unfold wv; simp only [vf, Nat.add_zero]; rw [dig_set_same hl]; simp
  have e2 : wv qs j 1 = 0 := by
    unfold wv; simp only [vf, Nat.add_zero]; rw [hq]; simp
  rw [e1, e2, Int.sub_zero, Int.mul_comm] at h
  omega
theorem div_sum {rs ys qs : List Int} {j b t t' : Nat} {D V S : Int} (hr : ∀ i, i < j ∨ j + (b + 1) ≤ i → dig ys i = dig rs i) (ht : j + (b + 1) ≤ t) (hw : wv ys j (b + 1) = wv rs j (b + 1) - D * V) (hl : j < qs.length) (hq : dig qs j = 0) (ht' : j < t')
    (h : vf W (dig rs) t + V * vf W (dig qs) t' = S) : vf W (dig ys) t + V * vf W (dig (qs.set j D)) t' = S := by
  have h1 := vf_window (t := t) hr ht
  rw [hw] at h1
  rw [vf_digit hl hq ht']
  have e1 : wv rs j (b + 1) - D * V - wv rs j (b + 1) = - (D * V) := by omega
  rw [e1] at h1
  have e2 : vf W (dig ys) t = vf W (dig rs) t - W ^ j * (D * V) := by rw [Int.mul_neg] at h1; omega
  rw [e2, ← h]
  generalize W ^ j = p
  generalize vf W (dig qs) t' = q
  generalize vf W (dig rs) t = r
  grind
/-- What is left, and its quotient. -/
theorem div_end {N M P R Q : Int} (hM : 0 < M) (hP : 0 < P) (R0 : 0 ≤ R) (R1 : R < P * M) (h : R + P * M * Q = P * N) : Q = N / M ∧ R = P * (N % M) := by
  have e : R = P * (N - M * Q) := by
    have : P * M * Q = P * (M * Q) := Int.mul_assoc _ _ _
    rw [Int.mul_sub]; omega
  have r0 : 0 ≤ N - M * Q := by
    rcases Int.lt_or_le (N - M * Q) 0 with g | g
    · have := Int.mul_lt_mul_of_pos_left g hP; simp at this; omega
    · exact g
  have r1 : N - M * Q < M := by
    rcases Int.lt_or_le (N - M * Q) M with g | g
    · exact g
    · have := Int.mul_le_mul_of_nonneg_left g (show 0 ≤ P by omega); omega
  have q : N / M = Q := by
    have e2 : N = (N - M * Q) + M * Q := by omega
    rw [e2, Int.add_mul_ediv_left _ _ (by omega), Int.ediv_eq_zero_of_lt r0 r1]; simp
  refine ⟨q.symm, ?_⟩
  rw [e]
  have := Int.emod_add_mul_ediv N M
  rw [q] at this
  congr 1; omega
theorem low_mod {rs : List Int} {s b : Nat} {r : Int} (hs : s ≤ 64) (hb : 0 < b) (h : wv rs 0 b = pw s * r) : dig rs 0 % pw s = 0 := by
  obtain ⟨m, rfl⟩ : ∃ m, b = m + 1 := ⟨b - 1, by omega⟩
  rw [wv_low] at h
  have hW : W = pw s * pw (64 - s) := (pw_mul hs).symm
  have e : dig rs 0 = pw s * (r - pw (64 - s) * wv rs (0 + 1) m) := by
    rw [hW] at h
    generalize wv rs (0 + 1) m = x at *
    grind
  rw [e]
  exact Int.mul_emod_right _ _

/-- What holds at each round's head: k digits are to come. -/
def DivR (N M P : Int) (a b k0 g1 g2 g3 : Nat) (vs : List Int) (w : World) (i : Value) (wr : World) : Prop :=
  ∃ (k : Nat) (v : Int) (rs qs : List Int), i = .int .i64 v ∧ v = (k : Int) - 1 ∧ k ≤ k0 ∧ Row wr g1 38 .u64 rs ∧ rs.length = a + 1 ∧ Dig W rs ∧ Row wr g3 38 .u64 qs ∧ qs.length = k0 ∧ Dig W qs ∧
    Row wr g2 38 .u64 vs ∧ (∀ j, k + b ≤ j → dig rs j = 0) ∧ (∀ j, j < k → dig qs j = 0) ∧ wv rs k b < P * M ∧ vf W (dig rs) (a + 1) + P * M * vf W (dig qs) k0 = P * N ∧ Below w.heap.size w wr
def QR (Q R : Int) (w : World) (e : Ending) (w' : World) : Prop :=
  ∃ B m cap B' m' cap', e = .returned (.tuple #[.slice B m cap, .slice B' m' cap']) ∧ Cn w' B m cap Q ∧ Cn w' B' m' cap' R ∧ Below w.heap.size w w' ∧ (∀ x, B = some x → w.heap.size ≤ x.block) ∧ ∀ x, B' = some x → w.heap.size ≤ x.block
theorem shr_nm {w4 : World} {g b s : Nat} {xs zs : List Int} {r : Int} (hrow : Row w4 g 38 .u64 zs) (hl : zs.length = b) (hd : Dig W zs) (h : pw s * vf W (dig zs) b = vf W (dig (xs.take b)) b - dig (xs.take b) 0 % pw s) (hx : vf W (dig xs) b = pw s * r) (hm : dig xs 0 % pw s = 0)
    (hb : 0 < b) (hb' : b ≤ 64) (hr : 0 ≤ r) : Nm w4 (some ⟨g, 0, none⟩) b b r := by
  rw [vf_congr W (g := dig xs) (fun i hi => dig_take hi), dig_take hb, hm, hx, Int.sub_zero] at h
  have e : vf W (dig zs) b = r := Int.eq_of_mul_eq_mul_left (Int.ne_of_gt (pw_pos s)) h
  exact ⟨⟨zs, hrow.rd hl (fun j x hx => by rwa [Nat.zero_add]), hd, by rw [val_vf W zs (m := b) (by omega)]; exact e⟩, Nat.le_refl _, by omega, hr⟩
set_option maxHeartbeats 4000000 in
theorem divide_any {A A' : Option Addr} {c c' a b : Nat} {N M : Int} {w : World} (h : Cn w A a c N) (h' : Cn w A' b c' M) (hM : 0 < M) (hab : b ≤ a) (ha : a ≤ 64) :
    Calls Tryz.prog 99 #[.slice A a c, .slice A' b c'] w (QR (N / M) (N % M) w) := by
  have hla : dl N = a := h.len_.symm
  have hlb : dl M = b := h'.len_.symm
  have hb0 : 0 < b := by
    rcases Nat.eq_zero_or_pos b with g | g
    · rw [g] at hlb; have := (dl_zero h'.pos).1 hlb; omega
    · exact g
  obtain ⟨m, hm⟩ : ∃ m, m + 1 = b := ⟨b - 1, by omega⟩
  obtain ⟨bb, bo, t, rfl, hbb, ht, hct⟩ := h'.rd.at_ (j := m) (by omega)
  have ete := dig_lt ht
  have dt := dig_W (dig_dg W_two h'.pos) m
  have htop := dg_top W_two hM
  rw [show (dg W M).length - 1 = m by have : (dg W M).length = b := hlb; omega] at htop
  rw [ete] at dt htop
  obtain ⟨s1, s2, s3⟩ := lzs_bd htop dt.2
  obtain ⟨s, hs⟩ : ∃ s, lzs t = s := ⟨_, rfl⟩
  rw [hs] at s1 s2 s3
  have hcl := fun W => lz64_nat t W dt.1 dt.2
  rw [hs] at hcl
  have HCL := Lib.hid hcl
  have HETE := Lib.hid ete
  have HS2 := Lib.hid s2
  have HS3 := Lib.hid s3
  have HLA := Lib.hid hla
  have HLB := Lib.hid hlb
  clear hcl ht ete s2 s3 hla hlb hs
  have e1 : (b : Int) - 1 = m := by omega
  obtain ⟨k0, hk0⟩ : ∃ k0, k0 + b = a + 1 := ⟨a + 1 - b, by omega⟩
  have e2 : (a : Int) - b + 1 = k0 := by omega
  have hmk := fun W => run_make64 k0 (C := (k0 : Int)) rfl (by omega) W
  obtain ⟨Z, hZ⟩ : ∃ Z : List Int, Z = List.replicate k0 0 := ⟨_, rfl⟩
  rw [← hZ] at hmk
  have HZ := Lib.hid hZ
  have HM := Lib.hid hm
  have HK0 := Lib.hid hk0
  clear hZ
  go_enter Tryz.func99, Tryz.ntmps99
  clear hm hk0
  go_wp2_with fail
  refine (HCL.out _).mono ?_
  rintro e w1 ⟨rfl, rfl⟩
  go_wp2_with fail
  refine (shiftLeft_any h.rd (dig_dg W_two h.pos) ha s s1).mono ?_
  rintro e w1 ⟨rs, rfl, r1, r2, r3, r4, r5⟩
  have R2 := Lib.hid r2
  have R4 := Lib.hid r4
  clear r2 r4
  go_wp2_with fail
  refine (shiftLeft_any (h'.rd.below r5) (dig_dg W_two h'.pos) (by omega) s s1).mono ?_
  rintro e w2 ⟨vs, rfl, v1, v2, v3, v4, v5⟩
  have V2 := Lib.hid v2
  have V4 := Lib.hid v4
  clear v2 v4
  go_wp2_with fail
  clear hmk e1 e2
  have hP := pw_pos s
  obtain ⟨n1, n2⟩ := div_norm (P := pw s) hM HLB.out HM.out (by rw [HETE.out]; exact HS2.out) (by rw [HETE.out]; exact HS3.out) hP v3 V4.out
  have hPM : vf W (dig vs) b < W ^ b := (vf_bd (b := W) (by decide) (fun j => dig_bd (b := W) (by decide) v3 j) b).2
  have N1 := Lib.hid n1
  have hPM' := Lib.hid hPM
  clear n1 hPM
  have z1 := r5.size
  have z2 := v5.size
  have z3 : w.heap.size < w1.heap.size := r1.lt
  have z4 : w1.heap.size < w2.heap.size := v1.lt
  have n0 : N = vf W (dig (dg W N)) a := (val_dl h.pos (Nat.le_of_eq HLA.out)).symm
  have N0 := Lib.hid n0
  clear n0
  have R4' : vf W (dig rs) (a + 1) = pw s * N := by rw [R4.out, ← N0.out]
  have HR4 := Lib.hid R4'
  clear R4'
  go_loopw [11] (fun i wr => DivR N M (pw s) a b k0 w.heap.size w1.heap.size w2.heap.size vs w i wr) (fun i _ => (intOf i + 1).toNat)
  case atStart =>
    refine ⟨k0, _, rs, Z, rfl, rfl, Nat.le_refl _, (r1.below v5 r1.lt).alloc _, R2.out, r3, Row.new _ _ _ _, by rw [HZ.out]; simp, by rw [HZ.out]; intro x hx; simp at hx; rw [hx.2]; exact ⟨by decide, by decide⟩, v1.alloc _, fun j hj => dig_ge (by rw [R2.out]; have := HK0.out; omega), fun j hj => by rw [HZ.out]; exact dig_replicate _ _, div_head h.pos hM HLA.out HLB.out HK0.out hP r3 HR4.out, ?_, ((r5.trans (v5.mono z1)).alloc (by omega) _)⟩
    rw [HR4.out, HZ.out, vf_zero W (k := 0) (Nat.zero_le _) (fun j _ => dig_replicate _ j)]; simp [vf]
  case round =>
    obtain ⟨k, v, xs, qs, rfl, hv, hk, x1, x2, x3, q1, q2, q3, y1, hz, hq, hw, hsum, hb⟩ := hrel
    have HZE := Lib.hid hz
    have HQ := Lib.hid hq
    have HW := Lib.hid hw
    have HSUM := Lib.hid hsum
    have X2 := Lib.hid x2
    have Q2 := Lib.hid q2
    clear hz hq hw hsum
    have hkb : k + b ≤ a + 1 := by have := HK0.out; omega
    rcases Nat.eq_zero_or_pos k with g | g
    · subst g
      obtain rfl : v = -1 := by omega
      clear x2 q2 hv hk hkb
      have hR : vf W (dig xs) (a + 1) = vf W (dig xs) b := vf_zero W (by omega) (fun j hj => HZE.out j (by omega))
      have hR2 : wv xs 0 b = vf W (dig xs) b := vf_congr W (fun j _ => by rw [Nat.zero_add])
      obtain ⟨eQ, eR⟩ := div_end hM hP (vf_bd (b := W) (by decide) (fun j => dig_bd (b := W) (by decide) x3 j) b).1 (by rw [← hR2]; exact HW.out) (by rw [← hR]; exact HSUM.out)
      have hmod := low_mod (rs := xs) (s := s) (r := N % M) (by omega) hb0 (by rw [hR2]; exact eR)
      have hq0 : 0 ≤ N / M := Int.ediv_nonneg h.pos (by omega)
      have hr0 : 0 ≤ N % M := Int.emod_nonneg _ (by omega)
      have hnq : Nm wr (some ⟨w2.heap.size, 0, none⟩) k0 k0 (N / M) :=
        ⟨⟨qs, q1.rd Q2.out (fun j x hx => by rwa [Nat.zero_add]), q3, by rw [val_vf W qs (m := k0) (by rw [Q2.out]; exact Nat.le_refl _)]; exact eQ⟩, Nat.le_refl _, by have := HK0.out; omega, hq0⟩
      have hxr : Rd .u64 wr (some ⟨w.heap.size, 0, none⟩) b (xs.take b) := x1.rd0 (by rw [X2.out]; omega)
      have hxd : Dig W (xs.take b) := fun x hx => x3 x (List.mem_of_mem_take hx)
      have ER := Lib.hid eR
      have HMOD := Lib.hid hmod
      clear hR hR2 eQ eR hmod
      have hba : b ≤ 64 := by omega
      have l1 : (b : Int) ≤ (a : Int) + 1 := by omega
      go_wp2_with fail
      go_region_with (first
        | (go_at_call_of 61 (Value.slice (some (⟨w2.heap.size, 0, none⟩ : Addr)) k0 k0); refine (limbs_nm (hnq.drewN 1)).mono ?_; rintro e w4 ⟨rfl, rfl⟩)
        | (go_at_call 116; refine (shiftRight_any (hxr.drewN 1) hxd hba s s1).mono ?_; rintro e w4 ⟨zs, rfl, p1, p2, p3, p4, p5⟩; have hnr := shr_nm p1 p2 p3 p4 ER.out HMOD.out hb0 hba hr0; clear p2 p4)
        | (go_at_call 61; refine (limbs_nm hnr).mono ?_; rintro e w5 ⟨rfl, rfl⟩))
      all_goals
        go_wp2
        go_ret2
        exact ⟨_, _, _, _, _, _, rfl, (hnq.drewN 1).lim.below p5, hnr.lim, (below_drewN hb 1).trans (p5.mono hb.size), fun x hx => by injection hx with hx; subst hx; show w.heap.size ≤ w2.heap.size; omega, fun x hx => by injection hx with hx; subst hx; exact hb.size⟩
    · obtain ⟨j, rfl⟩ : ∃ j, k = j + 1 := ⟨k - 1, by omega⟩
      obtain rfl : v = (j : Int) := by omega
      clear hv
      have t1 : j + (b + 1) ≤ xs.length := by rw [X2.out]; omega
      have t2 : j < a + 1 := by omega
      have t3 : j < k0 := by omega
      have fz := q1.frozen j
      have cz := q1.cell (getElem?_dig (show j < qs.length by omega))
      clear x2 q2
      go_wp2_with fail
      rw [show j + b + 1 - j = b + 1 by omega]
      refine (takeDigit_any x1 x3 t1 hb0 (by omega) (by omega) (y1.rd (off := 0) (n := b) (ys := vs.take b) (by rw [List.length_take, V2.out]; omega) (fun i x hx => by
          rw [Nat.zero_add]
          rcases Nat.lt_or_ge i b with hi | hi
          · rwa [List.getElem?_take_of_lt hi] at hx
          · rw [List.getElem?_eq_none (by rw [List.length_take]; omega)] at hx; cases hx)) (fun x hx => v3 x (List.mem_of_mem_take hx)) (fun a ha => by injection ha with ha; subst ha; exact Nat.ne_of_gt z3)
          (by rw [show b - 1 = m by have := HM.out; omega, dig_take (by have := HM.out; omega)]; exact n2)
          (by rw [vf_congr W (g := dig vs) (fun i hi => dig_take hi), N1.out]; exact div_low x3 HW.out)).mono ?_
      rintro e w3 ⟨ys, D, rfl, D0, D1, tt, hwv, hlt⟩
      rw [vf_congr W (f := dig (vs.take b)) (g := dig vs) (fun i hi => dig_take hi), N1.out] at hwv hlt
      have HWV := Lib.hid hwv
      have HLT := Lib.hid hlt
      clear hwv hlt
      have q1' := q1.grown tt.grown (by intro he; injection he with he; omega)
      have y1' := y1.grown tt.grown (by intro he; injection he with he; omega)
      have fz' := q1'.frozen j
      have cz' := q1'.cell (getElem?_dig (show j < qs.length by rw [Q2.out]; exact t3))
      clear fz cz
      go_wp2_with fail
      have hz2 := div_zero tt.dig_ HLT.out (by rw [← N1.out]; exact hPM'.out)
      go_roundw
      case rel =>
        exact ⟨j, _, ys, qs.set j D, rfl, rfl, by omega, tt.row.far (Nat.ne_of_lt (Nat.lt_trans z3 z4)) _, tt.len.trans X2.out, tt.dig_, q1'.set _ _, by simpa using Q2.out, q3.set D0 D1 _, y1'.far (Nat.ne_of_lt z4) _,
          fun i hi => by
            rcases Nat.lt_or_ge (j + b) i with h1 | h1
            · rw [tt.rest i (.inr (by omega))]; exact HZE.out i (by omega)
            · obtain rfl : i = j + b := by omega
              exact hz2.1,
          fun i hi => by rw [dig_set_ne (by omega)]; exact HQ.out i (by omega), hz2.2,
          div_sum tt.rest (by rw [X2.out] at t1; exact t1) HWV.out (by rw [Q2.out]; exact t3) (HQ.out j (by omega)) t3 HSUM.out,
          (below_grown hb tt.grown hb.size (Nat.le_refl _)).setCell (by show w.heap.size ≤ w2.heap.size; omega) _⟩
      case measure => simp [intOf]
end Go.Proofs.YtloajnaphenbjaaGreatDoor
