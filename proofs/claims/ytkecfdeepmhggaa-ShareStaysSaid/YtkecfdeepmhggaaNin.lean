/-
  Several texts in one: Lgr, Shr, Fer.
-/
import Derived.Test.YtkecfdeepmhggaaPkm
import Derived.Test.YtkecfdeepmhggaaMxx
/-
  Lagrange's weights, in numbers: what values of a polynomial at some places, times the places' weights, add up to.
-/
namespace Go.Proofs.Ytkecfdeepmhggaa
set_option linter.unusedVariables false
/-- A sum. -/
def smI (f : Nat → Int) : Nat → Int
  | 0 => 0
  | n + 1 => smI f n + f n
section
variable {Q : Int} {f g : Nat → Int}
theorem smI_congr {n : Nat} (h : ∀ i, i < n → Eqm Q (f i) (g i)) : Eqm Q (smI f n) (smI g n) := by
  induction n with
  | zero => exact Eqm.refl _ _
  | succ n ih => exact (ih fun i hi => h i (by omega)).add (h n (by omega))
theorem smI_eq {n : Nat} (h : ∀ i, i < n → f i = g i) : smI f n = smI g n := by
  induction n with
  | zero => rfl
  | succ n ih => simp only [smI]; rw [ih fun i hi => h i (by omega), h n (by omega)]
theorem smI_add (n : Nat) : smI (fun i => f i + g i) n = smI f n + smI g n := by
  induction n with
  | zero => rfl
  | succ n ih => simp only [smI]; rw [ih]; omega
theorem smI_sub (n : Nat) : smI (fun i => f i - g i) n = smI f n - smI g n := by
  induction n with
  | zero => rfl
  | succ n ih => simp only [smI]; rw [ih]; omega
theorem smI_mul (c : Int) (n : Nat) : smI (fun i => c * f i) n = c * smI f n := by
  induction n with
  | zero => simp [smI]
  | succ n ih => simp only [smI]; rw [ih, Int.mul_add]
theorem smI_zero (n : Nat) : smI (fun _ => 0) n = 0 := by
  induction n with
  | zero => rfl
  | succ n ih => simp only [smI]; rw [ih]; rfl
/-- A sum of sums, the other way round. -/
theorem smI_swap (F : Nat → Nat → Int) (n m : Nat) : smI (fun i => smI (F i) m) n = smI (fun t => smI (fun i => F i t) n) m := by
  induction n with
  | zero =>
    simp only [smI]
    exact (smI_zero m).symm
  | succ n ih =>
    simp only [smI]
    rw [ih, ← smI_add]
/-! ### Weights -/
/-- The product of j / (j - y) over the places but y itself; v a b is what makes 1 of a - b. -/
def wgt (v : Int → Int → Int) (x : Nat → Int) (y : Int) : Nat → Int
  | 0 => 1
  | n + 1 => if x n = y then wgt v x y n else wgt v x y n * (x n * v (x n) y)
/-- Places that are all unlike, with what makes 1 of their differences. -/
structure Plc (Q : Int) (v : Int → Int → Int) (x : Nat → Int) (n : Nat) : Prop where
  ne : ∀ i j, i < n → j < n → i ≠ j → x i ≠ x j
  inv : ∀ i j, i < n → j < n → i ≠ j → Eqm Q ((x i - x j) * v (x i) (x j)) 1
variable {v : Int → Int → Int} {x : Nat → Int}
theorem Plc.less {n m : Nat} (h : Plc Q v x n) (hm : m ≤ n) : Plc Q v x m := ⟨fun i j hi hj => h.ne i j (by omega) (by omega), fun i j hi hj => h.inv i j (by omega) (by omega)⟩
theorem three_inv {a b c x y z : Int} (h1 : Eqm Q ((z - x) * a) 1) (h2 : Eqm Q ((y - x) * b) 1) (h3 : Eqm Q ((y - z) * c) 1) : Eqm Q (a * b - a * c + b * c) 0 := by
  obtain ⟨p, h1⟩ := h1
  obtain ⟨q, h2⟩ := h2
  obtain ⟨r, h3⟩ := h3
  have e : a * b * ((y - z) * c) - a * c * ((y - x) * b) + b * c * ((z - x) * a) = 0 := by grind
  rw [h1, h2, h3] at e
  exact ⟨-(a * b * r) + a * c * q - b * c * p, by grind⟩
theorem neg_inv {y z c d : Int} (h1 : Eqm Q ((y - z) * c) 1) (h2 : Eqm Q ((z - y) * d) 1) : Eqm Q d (-c) := by
  obtain ⟨p, h1⟩ := h1
  obtain ⟨q, h2⟩ := h2
  have e : d * ((y - z) * c) = -c * ((z - y) * d) := by grind
  rw [h1, h2] at e
  exact ⟨-c * q - d * p, by grind⟩
theorem wgt_at {n i : Nat} (h : Plc Q v x (n + 1)) (hi : i < n) : wgt v x (x i) (n + 1) = wgt v x (x i) n * (x n * v (x n) (x i)) := by
  simp only [wgt]
  rw [if_neg (h.ne n i (by omega) (by omega) (by omega))]
theorem wgt_own {n : Nat} : wgt v x (x n) (n + 1) = wgt v x (x n) n := by simp [wgt]
/-- The weights of some places, each over its distance from one more, and that one's weight, add up to nothing. -/
theorem wgt_far {n m : Nat} (h : Plc Q v x m) (hm : n < m) : ∀ k, k ≤ n → ∀ q, k ≤ q → q < m → Eqm Q (smI (fun i => wgt v x (x i) k * x i * v (x q) (x i)) k + wgt v x (x q) k) 0 ∨ k = 0 := by
  intro k
  induction k with
  | zero => exact fun _ _ _ _ => .inr rfl
  | succ k ih =>
    intro hk q hq hqm
    left
    have hp := h.less (m := k + 1) (by omega)
    have hyz : x k ≠ x q := h.ne k q (by omega) hqm (by omega)
    -- what is to be shown, written out
    have e1 : smI (fun i => wgt v x (x i) (k + 1) * x i * v (x q) (x i)) (k + 1) = smI (fun i => wgt v x (x i) k * x i * (x k * v (x k) (x i) * v (x q) (x i))) k + wgt v x (x k) k * x k * v (x q) (x k) := by
      simp only [smI]
      rw [wgt_own]
      congr 1
      refine smI_eq fun i hi => ?_
      rw [wgt_at hp hi]
      grind
    have e2 : wgt v x (x q) (k + 1) = wgt v x (x q) k * (x k * v (x k) (x q)) := by simp only [wgt]; rw [if_neg hyz]
    rw [e1, e2]
    have c1 := h.inv q k hqm (by omega) (by omega)
    have c2 := h.inv k q (by omega) hqm (by omega)
    have c3 := neg_inv c1 c2
    rcases Nat.eq_zero_or_pos k with rfl | kp
    · simp only [smI, wgt]
      have h4 := ((Eqm.refl Q (x 0)).mul c3)
      obtain ⟨s, h4⟩ := h4
      exact ⟨s, by grind⟩
    · have i1 := (ih (by omega) k (by omega) (by omega)).resolve_right (by omega)
      have i2 := (ih (by omega) q (by omega) hqm).resolve_right (by omega)
      -- the brackets
      have br : Eqm Q (smI (fun i => wgt v x (x i) k * x i * (x k * v (x k) (x i) * v (x q) (x i))) k - smI (fun i => wgt v x (x i) k * x i * v (x k) (x i)) k * (x k * v (x q) (x k)) + smI (fun i => wgt v x (x i) k * x i * v (x q) (x i)) k * (x k * v (x q) (x k))) 0 := by
        rw [Int.mul_comm _ (x k * v (x q) (x k)), Int.mul_comm _ (x k * v (x q) (x k)), ← smI_mul, ← smI_mul, ← smI_sub, ← smI_add]
        have : Eqm Q (smI (fun i => wgt v x (x i) k * x i * (x k * v (x k) (x i) * v (x q) (x i)) - x k * v (x q) (x k) * (wgt v x (x i) k * x i * v (x k) (x i)) + x k * v (x q) (x k) * (wgt v x (x i) k * x i * v (x q) (x i))) k) (smI (fun _ => 0) k) := by
          refine smI_congr fun i hi => ?_
          have t := three_inv (h.inv k i (by omega) (by omega) (by omega)) (h.inv q i hqm (by omega) (by omega)) c1
          have t2 := (Eqm.refl Q (wgt v x (x i) k * x i * x k)).mul t
          refine (Eqm.of_eq ?_).trans (t2.trans (Eqm.of_eq (Int.mul_zero _)))
          grind
        rwa [smI_zero] at this
      obtain ⟨a, i1⟩ := i1
      obtain ⟨b, i2⟩ := i2
      obtain ⟨c, br⟩ := br
      obtain ⟨s, c3⟩ := c3
      generalize smI (fun i => wgt v x (x i) k * x i * (x k * v (x k) (x i) * v (x q) (x i))) k = A at *
      generalize smI (fun i => wgt v x (x i) k * x i * v (x k) (x i)) k = B at *
      generalize smI (fun i => wgt v x (x i) k * x i * v (x q) (x i)) k = C at *
      generalize wgt v x (x k) k = wk at *
      generalize wgt v x (x q) k = wq at *
      generalize v (x q) (x k) = vq at *
      generalize v (x k) (x q) = vk at *
      generalize x k = xk at *
      refine ⟨c + a * (xk * vq) - b * (xk * vq) + wq * xk * s, ?_⟩
      have j1 : wk = a * Q - B := by omega
      have j2 : wq = b * Q - C := by omega
      have j3 : A = c * Q + B * (xk * vq) - C * (xk * vq) := by omega
      rw [c3, j1, j3]
      have : wq * (xk * (-vq + s * Q)) = -(wq * (xk * vq)) + wq * xk * s * Q := by grind
      rw [this, show -(wq * (xk * vq)) = -((b * Q - C) * (xk * vq)) by rw [← j2]]
      grind
/-- Powers of the places, times their weights: 1 for the power 0, nothing for the others. -/
theorem wgt_sum : ∀ n, Plc Q v x n → 0 < n → ∀ t, t < n → Eqm Q (smI (fun i => wgt v x (x i) n * x i ^ t) n) (if t = 0 then 1 else 0) := by
  intro n
  induction n with
  | zero => exact fun _ h => absurd h (by omega)
  | succ n ih =>
    intro h _ t ht
    have e1 : ∀ t, smI (fun i => wgt v x (x i) (n + 1) * x i ^ t) (n + 1) = x n * smI (fun i => wgt v x (x i) n * x i ^ t * v (x n) (x i)) n + wgt v x (x n) n * x n ^ t := fun t => by
      simp only [smI]
      rw [wgt_own, ← smI_mul]
      congr 1
      refine smI_eq fun i hi => ?_
      rw [wgt_at h hi]
      grind
    rw [e1 t]
    rcases Nat.eq_zero_or_pos n with rfl | np
    · obtain rfl : t = 0 := by omega
      simp [smI, wgt]
      exact Eqm.refl _ _
    have hs := ih (h.less (by omega)) np
    have f1 := (wgt_far (n := n) h (by omega) n (Nat.le_refl _) n (Nat.le_refl _) (by omega)).resolve_right (by omega)
    -- one power more
    have f2 : ∀ t, Eqm Q (smI (fun i => wgt v x (x i) n * x i ^ (t + 1) * v (x n) (x i)) n) (x n * smI (fun i => wgt v x (x i) n * x i ^ t * v (x n) (x i)) n - smI (fun i => wgt v x (x i) n * x i ^ t) n) := fun t => by
      rw [← smI_mul, ← smI_sub]
      refine smI_congr fun i hi => ?_
      have c := h.inv n i (by omega) (by omega) (by omega)
      have c2 := (Eqm.refl Q (wgt v x (x i) n * x i ^ t)).mul c
      obtain ⟨s, c2⟩ := c2
      have p : x i ^ (t + 1) = x i ^ t * x i := Int.pow_succ _ _
      refine ⟨-s, ?_⟩
      rw [p]
      grind
    have f3 : ∀ s, s < n → Eqm Q (smI (fun i => wgt v x (x i) n * x i ^ (s + 1) * v (x n) (x i)) n) (x n ^ s * smI (fun i => wgt v x (x i) n * x i ^ 1 * v (x n) (x i)) n) := fun s => by
      induction s with
      | zero => intro _; simp only [Int.pow_zero, Int.one_mul, Nat.zero_add]; exact Eqm.refl _ _
      | succ s ihs =>
        intro hsn
        have g1 := ihs (by omega)
        have g2 := hs (s + 1) (by omega)
        rw [if_neg (by omega)] at g2
        have g3 := (f2 (s + 1)).trans (((Eqm.refl Q (x n)).mul g1).sub g2)
        refine g3.trans (Eqm.of_eq ?_)
        have p : x n ^ (s + 1) = x n ^ s * x n := Int.pow_succ _ _
        rw [p]
        grind
    have f1' : Eqm Q (smI (fun i => wgt v x (x i) n * x i ^ 1 * v (x n) (x i)) n + wgt v x (x n) n) 0 := by
      have e : smI (fun i => wgt v x (x i) n * x i ^ 1 * v (x n) (x i)) n = smI (fun i => wgt v x (x i) n * x i * v (x n) (x i)) n := smI_eq fun i _ => by rw [show x i ^ 1 = x i from by rw [Int.pow_succ, Int.pow_zero, Int.one_mul]]
      rw [e]; exact f1
    rcases Nat.eq_zero_or_pos t with rfl | tp
    · rw [if_pos rfl]
      have g := hs 0 np
      rw [if_pos rfl] at g
      have k := f2 0
      obtain ⟨a, f1'⟩ := f1'
      obtain ⟨b, g⟩ := g
      obtain ⟨c, k⟩ := k
      simp only [Nat.zero_add] at k
      generalize smI (fun i => wgt v x (x i) n * x i ^ 0 * v (x n) (x i)) n = A0 at *
      generalize smI (fun i => wgt v x (x i) n * x i ^ 1 * v (x n) (x i)) n = A1 at *
      generalize smI (fun i => wgt v x (x i) n * x i ^ 0) n = S0 at *
      generalize wgt v x (x n) n = wz at *
      refine ⟨a + b - c, ?_⟩
      simp only [Int.pow_zero, Int.mul_one]
      grind
    · rw [if_neg (by omega)]
      obtain ⟨s, rfl⟩ : ∃ s, t = s + 1 := ⟨t - 1, by omega⟩
      have g := f3 s (by omega)
      obtain ⟨a, f1'⟩ := f1'
      obtain ⟨b, g⟩ := g
      generalize smI (fun i => wgt v x (x i) n * x i ^ (s + 1) * v (x n) (x i)) n = As at *
      generalize smI (fun i => wgt v x (x i) n * x i ^ 1 * v (x n) (x i)) n = A1 at *
      generalize wgt v x (x n) n = wz at *
      have p : x n ^ (s + 1) = x n ^ s * x n := Int.pow_succ _ _
      rw [p]
      generalize x n ^ s = y at *
      refine ⟨x n * b + y * x n * a, ?_⟩
      have j1 : wz = a * Q - A1 := by omega
      rw [g, j1]
      grind
/-- The value of a polynomial. -/
def pvl (a : Nat → Int) (k : Nat) (y : Int) : Int := smI (fun t => a t * y ^ t) k
/-- THE VALUES AT AS MANY PLACES AS THERE ARE COEFFICIENTS, OR MORE, TIMES THE PLACES' WEIGHTS, ADD UP TO THE FIRST COEFFICIENT. -/
theorem lagrange {a : Nat → Int} {k n : Nat} (h : Plc Q v x n) (k0 : 0 < k) (hk : k ≤ n) : Eqm Q (smI (fun i => wgt v x (x i) n * pvl a k (x i)) n) (a 0) := by
  have e1 : smI (fun i => wgt v x (x i) n * pvl a k (x i)) n = smI (fun t => a t * smI (fun i => wgt v x (x i) n * x i ^ t) n) k := by
    have e2 : smI (fun i => wgt v x (x i) n * pvl a k (x i)) n = smI (fun i => smI (fun t => a t * (wgt v x (x i) n * x i ^ t)) k) n := smI_eq fun i _ => by
      unfold pvl
      rw [← smI_mul]
      exact smI_eq fun t _ => by grind
    rw [e2, smI_swap]
    exact smI_eq fun t _ => by rw [smI_mul]
  rw [e1]
  have e3 : Eqm Q (smI (fun t => a t * smI (fun i => wgt v x (x i) n * x i ^ t) n) k) (smI (fun t => a t * (if t = 0 then 1 else 0)) k) := smI_congr fun t ht => (Eqm.refl Q (a t)).mul (wgt_sum n h (by omega) t (by omega))
  refine e3.trans (Eqm.of_eq ?_)
  have : ∀ m, 0 < m → smI (fun t => a t * (if t = 0 then 1 else 0)) m = a 0 := fun m => by
    induction m with
    | zero => exact fun h => absurd h (by omega)
    | succ m ih =>
      intro _
      rcases Nat.eq_zero_or_pos m with rfl | mp
      · simp [smI]
      · simp only [smI]
        rw [ih mp, if_neg (by omega)]
        simp
  exact this k k0
end
end Go.Proofs.Ytkecfdeepmhggaa
/-
  What shares and commitments are, in numbers: sums of polynomials, a polynomial that is nothing at some places, what the commitments say of a share.
-/
namespace Go.Proofs.Ytkecfdeepmhggaa
set_option linter.unusedVariables false
section
variable {P Q G : Int} {a b : Nat → Int}
theorem pvl_zero (k : Nat) : pvl a k 0 = if k = 0 then 0 else a 0 := by
  induction k with
  | zero => rfl
  | succ k ih =>
    unfold pvl at *
    simp only [smI]
    rw [ih]
    rcases Nat.eq_zero_or_pos k with rfl | kp
    · simp
    · rw [if_neg (by omega), if_neg (by omega), show (0 : Int) ^ k = 0 from by
        obtain ⟨m, rfl⟩ : ∃ m, k = m + 1 := ⟨k - 1, by omega⟩
        rw [Int.pow_succ, Int.mul_zero]]
      omega
theorem pvl_add (k : Nat) (y : Int) : pvl (fun t => a t + b t) k y = pvl a k y + pvl b k y := by
  unfold pvl
  rw [← smI_add]
  exact smI_eq fun t _ => by grind
theorem pvl_congr {k : Nat} {y z : Int} (h : ∀ t, t < k → Eqm Q (a t) (b t)) (hy : Eqm Q y z) : Eqm Q (pvl a k y) (pvl b k z) := smI_congr fun t ht => (h t ht).mul (hy.pow t)
theorem pow_nn {y : Int} (hy : 0 ≤ y) : ∀ k : Nat, 0 ≤ y ^ k
  | 0 => by simp
  | k + 1 => by rw [Int.pow_succ]; exact Int.mul_nonneg (pow_nn hy k) hy
theorem pvl_nn {k : Nat} {y : Int} (h : ∀ t, t < k → 0 ≤ a t) (hy : 0 ≤ y) : 0 ≤ pvl a k y := by
  induction k with
  | zero => exact Int.le_refl _
  | succ k ih =>
    have h1 := ih fun t ht => h t (by omega)
    have h2 := Int.mul_nonneg (h k (by omega)) (pow_nn hy k)
    unfold pvl at *
    simp only [smI]
    omega
/-- One factor more: 1 - y / c. -/
def fac (v : Int) (a : Nat → Int) : Nat → Int
  | 0 => a 0
  | t + 1 => a (t + 1) - v * a t
theorem pvl_fac {v : Int} {k : Nat} (ha : a k = 0) (y : Int) : pvl (fac v a) (k + 1) y = pvl a k y * (1 - v * y) := by
  have key : ∀ m, pvl (fac v a) (m + 1) y = pvl a m y * (1 - v * y) + a m * y ^ m := by
    intro m
    induction m with
    | zero => simp [pvl, smI, fac]
    | succ m ih =>
      have e1 : pvl (fac v a) (m + 1 + 1) y = pvl (fac v a) (m + 1) y + (a (m + 1) - v * a m) * y ^ (m + 1) := rfl
      have e2 : pvl a (m + 1) y = pvl a m y + a m * y ^ m := rfl
      rw [e1, ih, e2]
      have p : y ^ (m + 1) = y ^ m * y := Int.pow_succ _ _
      rw [p]
      grind
  rw [key k, ha]
  omega
theorem fac_kills {c v y z : Int} (h : Eqm Q (c * v) 1) (hy : y = c) : Eqm Q (z * (1 - v * y)) 0 := by
  subst hy
  obtain ⟨s, h⟩ := h
  exact ⟨-(z * s), by grind⟩
theorem fac_keeps {v y z : Int} (h : Eqm Q z 0) : Eqm Q (z * (1 - v * y)) 0 := by
  obtain ⟨s, h⟩ := h
  exact ⟨s * (1 - v * y), by rw [h]; grind⟩
/-! ### Commitments -/
theorem gx_pow8 {a s : Int} (hP : 2 ≤ P) (hQ : 1 ≤ Q) (h : El P Q a) (hs : 0 ≤ s) : a ^ s.toNat % P = gx P Q a s := by
  have h1 := (gx_eqm hP hQ h hs).emod
  have h2 : gx P Q a s % P = gx P Q a s := by unfold gx; exact Int.emod_emod_of_dvd _ (Int.dvd_refl P)
  rw [← h1, h2]
/-- The product of the commitments' powers. -/
def pubI (P Q : Int) (c : Nat → Int) (y : Int) : Nat → Int
  | 0 => 1
  | n + 1 => pubI P Q c y n * gx P Q (c n) (y ^ n) % P
theorem pub_val {y : Int} (hP : 2 ≤ P) (hQ : 1 ≤ Q) (hG : El P Q G) {c : Nat → Int} {k : Nat} (ha : ∀ t, t < k → 0 ≤ a t) (hy : 0 ≤ y) (hc : ∀ t, t < k → c t = gx P Q G (a t)) : pubI P Q c y k = gx P Q G (pvl a k y) := by
  induction k with
  | zero => exact (gx_zero hP hQ G).symm
  | succ k ih =>
    have h1 := ih (fun t ht => ha t (by omega)) (fun t ht => hc t (by omega))
    have h2 := ha k (by omega)
    have h3 := pow_nn hy k
    show pubI P Q c y k * gx P Q (c k) (y ^ k) % P = _
    rw [h1, hc k (by omega), gx_gx hP hQ hG h2 h3, gx_add hP hQ hG (pvl_nn (fun t ht => ha t (by omega)) hy) (Int.mul_nonneg h3 h2)]
    congr 1
    show _ = pvl a k y + a k * y ^ k
    rw [Int.mul_comm]
theorem pub_el {y : Int} (hP : 2 ≤ P) (hQ : 1 ≤ Q) {c : Nat → Int} {k : Nat} (hc : ∀ t, t < k → El P Q (c t)) : El P Q (pubI P Q c y k) := by
  induction k with
  | zero => exact el_one hP
  | succ k ih => exact (ih fun t ht => hc t (by omega)).mul hP hQ (gx_el hP hQ (hc k (by omega)) _)
theorem gx_le {s t : Int} (h : Safe P Q) (hG : El P Q G) (g1 : G ≠ 1) (s0 : 0 ≤ s) (st : s ≤ t) (tQ : t < Q) (e : gx P Q G s = gx P Q G t) : s = t := by
  have hP := h.p2
  have hQ := h.q1
  have u := gx_el hP hQ hG s
  have a := gx_el hP hQ hG (t - s)
  have h1 := gx_add hP hQ hG (s := t - s) (t := s) (by omega) s0
  rw [show t - s + s = t by omega, ← e] at h1
  have h2 := a.back hP hQ u
  rw [h1] at h2
  have h3 := (el_one hP (Q := Q)).back hP hQ u
  rw [Int.one_mul, u.self] at h3
  rw [h3] at h2
  have h4 := gx_pow8 hP hQ hG (s := t - s) (by omega)
  rw [← h2] at h4
  rcases (el_orders h hG (by omega)).1 h4 with h5 | h5
  · rw [Int.emod_eq_of_lt (by omega) (by omega)] at h5
    omega
  · exact absurd h5 g1
/-- Powers of G by scalars that are unlike modulo Q are unlike. -/
theorem gx_inj {s t : Int} (h : Safe P Q) (hG : El P Q G) (g1 : G ≠ 1) (e : gx P Q G s = gx P Q G t) : s % Q = t % Q := by
  have hQ := h.q1
  rw [← gx_mod hQ G s, ← gx_mod hQ G t] at e
  have a0 := Int.emod_nonneg s (show Q ≠ 0 by omega)
  have a1 := Int.emod_lt_of_pos s (show 0 < Q by omega)
  have b0 := Int.emod_nonneg t (show Q ≠ 0 by omega)
  have b1 := Int.emod_lt_of_pos t (show 0 < Q by omega)
  rcases Int.le_total (s % Q) (t % Q) with g | g
  · exact gx_le h hG g1 a0 g b1 e
  · exact (gx_le h hG g1 b0 g a1 e.symm).symm
end
end Go.Proofs.Ytkecfdeepmhggaa
/-
  Fermat: a number that a prime doesn't divide, to the prime less 1, leaves 1; what makes 1 of the differences of places.
-/
namespace Go.Proofs.Ytkecfdeepmhggaa
set_option linter.unusedVariables false
/-- A product by index. -/
def prd (f : Nat → Int) : Nat → Int
  | 0 => 1
  | n + 1 => prd f n * f n
theorem prd_eq {f g : Nat → Int} : ∀ n, (∀ i, i < n → f i = g i) → prd f n = prd g n
  | 0, _ => rfl
  | n + 1, h => by rw [prd, prd, prd_eq n fun i hi => h i (by omega), h n (by omega)]
theorem prd_eqm {Q : Int} {f g : Nat → Int} : ∀ n, (∀ i, i < n → Eqm Q (f i) (g i)) → Eqm Q (prd f n) (prd g n)
  | 0, _ => Eqm.refl _ _
  | n + 1, h => (prd_eqm n fun i hi => h i (by omega)).mul (h n (by omega))
theorem prd_mul {b : Int} {f : Nat → Int} : ∀ n, prd (fun i => b * f i) n = b ^ n * prd f n
  | 0 => by simp [prd]
  | n + 1 => by
    simp only [prd]
    rw [prd_mul n, Int.pow_succ]
    grind
/-- One factor taken out. -/
theorem prd_skip {f : Nat → Int} : ∀ n i0, i0 ≤ n → prd f (n + 1) = f i0 * prd (fun i => f (if i < i0 then i else i + 1)) n
  | 0, i0, h => by
    obtain rfl : i0 = 0 := by omega
    simp [prd]
  | n + 1, i0, h => by
    rcases Nat.lt_or_ge n i0 with g | g
    · obtain rfl : i0 = n + 1 := by omega
      have e : prd (fun i => f (if i < n + 1 then i else i + 1)) (n + 1) = prd f (n + 1) := prd_eq _ fun i hi => by rw [if_pos hi]
      rw [e, prd, Int.mul_comm]
    · have h1 := prd_skip (f := f) n i0 g
      rw [prd, h1]
      simp only [prd]
      rw [if_neg (by omega : ¬ n < i0)]
      grind
/-- The same factors in another order. -/
theorem prd_perm {g : Nat → Int} : ∀ n (f : Nat → Nat), (∀ i, i < n → f i < n) → (∀ i j, i < n → j < n → f i = f j → i = j) → prd (fun i => g (f i)) n = prd g n
  | 0, _, _, _ => rfl
  | n + 1, f, h, hi => by
    have hex : ∃ i, i < n + 1 ∧ f i = n := by
      rcases Classical.em (∃ i, i < n + 1 ∧ f i = n) with c | c
      · exact c
      · have := pigeon n (n + 1) f (fun i hq => by
          have h1 := h i hq
          have h2 : f i ≠ n := fun e => c ⟨i, hq, e⟩
          omega) hi
        omega
    obtain ⟨i0, l0, e0⟩ := hex
    have hs := prd_skip (f := fun i => g (f i)) n i0 (by omega)
    rw [hs]
    have ih := prd_perm (g := g) n (fun i => f (if i < i0 then i else i + 1)) (fun i hq => by
        have h1 : (if i < i0 then i else i + 1) < n + 1 ∧ (if i < i0 then i else i + 1) ≠ i0 := by split <;> omega
        have h2 := h _ h1.1
        have h3 : f (if i < i0 then i else i + 1) ≠ n := fun e => h1.2 (hi _ _ h1.1 l0 (by rw [e, e0]))
        omega) (fun i j hq hj e => by
        have h1 : (if i < i0 then i else i + 1) < n + 1 := by split <;> omega
        have h2 : (if j < i0 then j else j + 1) < n + 1 := by split <;> omega
        have := hi _ _ h1 h2 e
        split at this <;> split at this <;> omega)
    rw [ih, prd, e0, Int.mul_comm]
section
variable {Q a b : Int}
/-- What divides a product divides one of the two. -/
theorem pr_dvd (h : Pr Q) (d : Q ∣ a * b) : Q ∣ a ∨ Q ∣ b := by
  rcases Classical.em (Q ∣ a) with g | g
  · exact .inl g
  · have Q0 : 0 < Q := by have := h.1; omega
    have r0 : a % Q ≠ 0 := fun e => g (Int.dvd_of_emod_eq_zero e)
    have r1 := Int.emod_nonneg a (show Q ≠ 0 by omega)
    have r2 := Int.emod_lt_of_pos a Q0
    have c := pr_gcd h (v := a % Q) (by omega) r2
    have d2 : Q ∣ (a % Q) * b := by
      have e := ((Eqm.mod Q a).mul (Eqm.refl Q b)).emod
      exact Int.dvd_of_emod_eq_zero (by rw [e]; exact Int.emod_eq_zero_of_dvd d)
    have d3 := Int.natAbs_dvd_natAbs.2 d2
    rw [Int.natAbs_mul] at d3
    exact .inr (Int.natAbs_dvd_natAbs.1 (Nat.Coprime.dvd_of_dvd_mul_left c d3))
theorem pr_prd (h : Pr Q) {f : Nat → Int} : ∀ n, (∀ i, i < n → ¬ Q ∣ f i) → ¬ Q ∣ prd f n
  | 0, _, d => by
    simp only [prd] at d
    have := Int.le_of_dvd (by decide) d
    have := h.1
    omega
  | n + 1, g, d => by
    rcases pr_dvd h d with d | d
    · exact pr_prd h n (fun i hi => g i (by omega)) d
    · exact g n (by omega) d
theorem eqm_dvd : Eqm Q a b ↔ Q ∣ a - b := ⟨fun ⟨q, h⟩ => ⟨q, by rw [h]; grind⟩, fun ⟨q, h⟩ => ⟨q, by rw [Int.mul_comm q]; omega⟩⟩
/-- Fermat's. -/
theorem fermat (h : Pr Q) (hb : ¬ Q ∣ b) : Eqm Q (b ^ (Q - 1).toNat) 1 := by
  have Q2 := h.1
  have Q0 : 0 < Q := by omega
  obtain ⟨n, hn⟩ : ∃ n : Nat, Q = n + 1 := ⟨(Q - 1).toNat, by omega⟩
  have en : (Q - 1).toNat = n := by omega
  rw [en]
  have nd : ∀ i : Nat, i < n → ¬ Q ∣ ((i : Int) + 1) := fun i hi d => by
    have := Int.le_of_dvd (by omega) d
    omega
  have r : ∀ i : Nat, i < n → 1 ≤ b * ((i : Int) + 1) % Q ∧ b * ((i : Int) + 1) % Q < Q := fun i hi => by
    have r1 := Int.emod_nonneg (b * ((i : Int) + 1)) (show Q ≠ 0 by omega)
    have r2 := Int.emod_lt_of_pos (b * ((i : Int) + 1)) Q0
    have r0 : b * ((i : Int) + 1) % Q ≠ 0 := fun e => by
      rcases pr_dvd h (Int.dvd_of_emod_eq_zero e) with d | d
      · exact hb d
      · exact nd i hi d
    omega
  have hp := prd_perm (g := fun i => (i : Int) + 1) n (fun i => (b * ((i : Int) + 1) % Q).toNat - 1) (fun i hi => by
      have := r i hi
      show (b * ((i : Int) + 1) % Q).toNat - 1 < n
      omega) (fun i j hi hj e => by
      have r1 := r i hi
      have r2 := r j hj
      have e1 : b * ((i : Int) + 1) % Q = b * ((j : Int) + 1) % Q := by
        have e : (b * ((i : Int) + 1) % Q).toNat - 1 = (b * ((j : Int) + 1) % Q).toNat - 1 := e
        omega
      have d := eqm_dvd.1 (Eqm.iff.2 e1)
      have e2 : b * ((i : Int) + 1) - b * ((j : Int) + 1) = b * ((i : Int) - j) := by grind
      rw [e2] at d
      rcases pr_dvd h d with d | d
      · exact absurd d hb
      · rcases Int.lt_trichotomy (i : Int) j with g | g | g
        · have := Int.le_of_dvd (a := Q) (b := (j : Int) - i) (by omega) (by have := Int.dvd_neg.2 d; rwa [Int.neg_sub] at this)
          omega
        · omega
        · have := Int.le_of_dvd (a := Q) (by omega) d
          omega)
  have h1 : Eqm Q (prd (fun i => b * ((i : Int) + 1)) n) (prd (fun i => (((b * ((i : Int) + 1) % Q).toNat - 1 : Nat) : Int) + 1) n) := prd_eqm n fun i hi => by
    have := r i hi
    rw [show ((((b * ((i : Int) + 1) % Q).toNat - 1 : Nat) : Int) + 1) = b * ((i : Int) + 1) % Q by omega]
    exact (Eqm.mod _ _).symm
  rw [hp, prd_mul] at h1
  have d := eqm_dvd.1 h1
  have e3 : b ^ n * prd (fun i => (i : Int) + 1) n - prd (fun i => (i : Int) + 1) n = (b ^ n - 1) * prd (fun i => (i : Int) + 1) n := by grind
  rw [e3] at d
  rcases pr_dvd h d with d | d
  · exact eqm_dvd.2 d
  · exact absurd d (pr_prd h n nd)
end
/-! ### The document's inverses of differences -/
/-- What makes 1 of a - b: the difference to the Q - 2. -/
def vdoc (Q a b : Int) : Int := ((a + Q - b) % Q) ^ (Q - 2).toNat % Q
theorem vdoc_inv {Q a b : Int} (h : Pr Q) (hd : ¬ Q ∣ a - b) : Eqm Q ((a - b) * vdoc Q a b) 1 := by
  have Q2 := h.1
  have e1 : Eqm Q ((a + Q - b) % Q) (a - b) := (Eqm.mod _ _).trans ⟨1, by grind⟩
  have h1 := (Eqm.refl Q (a - b)).mul ((Eqm.mod Q (((a + Q - b) % Q) ^ (Q - 2).toNat)).trans (e1.pow _))
  have e2 : (a - b) * (a - b) ^ (Q - 2).toNat = (a - b) ^ (Q - 1).toNat := by
    rw [show (Q - 1).toNat = (Q - 2).toNat + 1 by omega, Int.pow_succ, Int.mul_comm]
  rw [e2] at h1
  exact h1.trans (fermat h hd)
/-- Places from 1 to 255, all unlike, modulo a greater prime. -/
theorem plc_doc {Q : Int} {x : Nat → Int} {n : Nat} (h : Pr Q) (h255 : 255 < Q) (hx : ∀ i, i < n → 1 ≤ x i ∧ x i ≤ 255) (hne : ∀ i j, i < n → j < n → i ≠ j → x i ≠ x j) : Plc Q (vdoc Q) x n :=
  ⟨hne, fun i j hi hj ij => vdoc_inv h fun d => by
    have h1 := hx i hi
    have h2 := hx j hj
    have h3 := hne i j hi hj ij
    rcases Int.lt_or_lt_of_ne h3 with g | g
    · have := Int.le_of_dvd (a := Q) (b := x j - x i) (by omega) (by have := Int.dvd_neg.2 d; rwa [Int.neg_sub] at this)
      omega
    · have := Int.le_of_dvd (a := Q) (by omega) d
      omega⟩
theorem vdoc_rng {Q a b : Int} (h : 0 < Q) : 0 ≤ vdoc Q a b ∧ vdoc Q a b < Q := ⟨Int.emod_nonneg _ (by omega), Int.emod_lt_of_pos _ h⟩
/-- What makes 1 of a difference is the document's. -/
theorem vdoc_uniq {Q a b U : Int} (h : Pr Q) (hd : ¬ Q ∣ a - b) (hU : Eqm Q ((a - b) * U) 1) (u0 : 0 ≤ U) (u1 : U < Q) : U = vdoc Q a b := by
  have Q2 := h.1
  have r := vdoc_rng (a := a) (b := b) (show 0 < Q by omega)
  have h1 := vdoc_inv h hd
  have h2 : Eqm Q U (vdoc Q a b) := by
    have h3 := hU.mul (Eqm.refl Q (vdoc Q a b))
    have h4 := h1.mul (Eqm.refl Q U)
    rw [Int.one_mul] at h3 h4
    have e : (a - b) * U * vdoc Q a b = (a - b) * vdoc Q a b * U := by grind
    rw [e] at h3
    exact h4.symm.trans h3
  exact h2.eq u0 u1 r.1 r.2
/-! ### Values, weights and what shares combine to, reduced at each step -/
/-- A polynomial's value, as the document reckons: coefficients times powers, added up. -/
def pwN (Q y : Int) : Nat → Int
  | 0 => 1
  | n + 1 => pwN Q y n * y % Q
def vlN (Q : Int) (a : Nat → Int) (y : Int) : Nat → Int
  | 0 => 0
  | n + 1 => (vlN Q a y n + pwN Q y n * a n) % Q
theorem pwN_eqm {Q y : Int} : ∀ n, Eqm Q (pwN Q y n) (y ^ n)
  | 0 => Eqm.of_eq (by simp [pwN])
  | n + 1 => by rw [pwN, Int.pow_succ]; exact (Eqm.mod _ _).trans ((pwN_eqm n).mul (Eqm.refl _ _))
theorem pwN_nn {Q y : Int} (hQ : 0 < Q) : ∀ n, 0 ≤ pwN Q y n
  | 0 => by simp [pwN]
  | n + 1 => Int.emod_nonneg _ (by omega)
theorem pwN_is {Q y : Int} (hQ : 2 ≤ Q) : ∀ n, pwN Q y n = y ^ n % Q
  | 0 => by rw [pwN, Int.pow_zero, Int.emod_eq_of_lt (by decide) (by omega)]
  | n + 1 => by
    have h := (pwN_eqm (Q := Q) (y := y) (n + 1)).emod
    rw [← h, pwN, Int.emod_emod_of_dvd _ (Int.dvd_refl Q)]
theorem vlN_eqm {Q y : Int} {a : Nat → Int} : ∀ n, Eqm Q (vlN Q a y n) (pvl a n y)
  | 0 => Eqm.refl _ _
  | n + 1 => by
    rw [vlN]
    refine (Eqm.mod _ _).trans ((vlN_eqm n).add ?_)
    show Eqm Q _ (a n * y ^ n)
    rw [Int.mul_comm (a n)]
    exact (pwN_eqm n).mul (Eqm.refl _ _)
theorem vlN_is {Q y : Int} {a : Nat → Int} (n : Nat) : vlN Q a y n = pvl a n y % Q := by
  cases n with
  | zero => simp [vlN, pvl, smI]
  | succ n =>
    have h := (vlN_eqm (Q := Q) (y := y) (a := a) (n + 1)).emod
    rw [← h, vlN, Int.emod_emod_of_dvd _ (Int.dvd_refl Q)]
/-- From the last coefficient on: k coefficients less j are behind. -/
def hrN (Q : Int) (a : Nat → Int) (y : Int) (k : Nat) : Nat → Int
  | 0 => 0
  | j + 1 => (hrN Q a y k j * y + a (k - 1 - j)) % Q
theorem pvl_head {a : Nat → Int} {y : Int} : ∀ k, pvl a (k + 1) y = pvl (fun t => a (t + 1)) k y * y + a 0
  | 0 => by simp [pvl, smI]
  | k + 1 => by
    have h := pvl_head (a := a) (y := y) k
    unfold pvl at *
    rw [smI, h]
    simp only [smI, Int.pow_succ]
    grind
theorem hrN_eqm {Q y : Int} {a : Nat → Int} {k : Nat} : ∀ j, j ≤ k → Eqm Q (hrN Q a y k j) (pvl (fun t => a (k - j + t)) j y)
  | 0, _ => Eqm.refl _ _
  | j + 1, h => by
    rw [hrN, pvl_head]
    have e1 : (fun t => a (k - (j + 1) + (t + 1))) = fun t => a (k - j + t) := by funext t; congr 1; omega
    rw [e1]
    refine (Eqm.mod _ _).trans (((hrN_eqm j (by omega)).mul (Eqm.refl _ y)).add (Eqm.of_eq ?_))
    congr 1
    omega
theorem hrN_is {Q y : Int} {a : Nat → Int} (k : Nat) : hrN Q a y k k = pvl a k y % Q := by
  cases k with
  | zero => simp [hrN, pvl, smI]
  | succ n =>
    have h := (hrN_eqm (Q := Q) (y := y) (a := a) (k := n + 1) (n + 1) (Nat.le_refl _)).emod
    have e : (fun t => a (n + 1 - (n + 1) + t)) = a := by funext t; congr 1; omega
    rw [e] at h
    rw [← h, hrN, Int.emod_emod_of_dvd _ (Int.dvd_refl Q)]
/-- A place's weight, reduced at each step. -/
def wgN (Q : Int) (x : Nat → Int) (y : Int) : Nat → Int
  | 0 => 1
  | n + 1 => if x n = y then wgN Q x y n else wgN Q x y n * x n * vdoc Q (x n) y % Q
theorem wgN_eqm {Q y : Int} {x : Nat → Int} : ∀ n, Eqm Q (wgN Q x y n) (wgt (vdoc Q) x y n)
  | 0 => Eqm.refl _ _
  | n + 1 => by
    rw [wgN, wgt]
    split
    · exact wgN_eqm n
    · refine (Eqm.mod _ _).trans ?_
      rw [Int.mul_assoc]
      exact (wgN_eqm n).mul (Eqm.refl _ _)
theorem wgN_rng {Q y : Int} {x : Nat → Int} (hQ : 2 ≤ Q) : ∀ n, 0 ≤ wgN Q x y n ∧ wgN Q x y n < Q
  | 0 => by simp only [wgN]; omega
  | n + 1 => by
    rw [wgN]
    split
    · exact wgN_rng hQ n
    · exact ⟨Int.emod_nonneg _ (by omega), Int.emod_lt_of_pos _ (by omega)⟩
/-- What shares combine to, reduced at each step; m of n shares. -/
def cbN (Q : Int) (x v : Nat → Int) (n : Nat) : Nat → Int
  | 0 => 0
  | m + 1 => (cbN Q x v n m + wgN Q x (x m) n * v m) % Q
theorem cbN_eqm {Q : Int} {x v : Nat → Int} {n : Nat} : ∀ m, Eqm Q (cbN Q x v n m) (smI (fun i => wgt (vdoc Q) x (x i) n * v i) m)
  | 0 => Eqm.refl _ _
  | m + 1 => by
    rw [cbN, smI]
    exact (Eqm.mod _ _).trans ((cbN_eqm m).add ((wgN_eqm n).mul (Eqm.refl _ _)))
/-- THE SHARES OF A POLYNOMIAL COMBINE TO ITS FIRST COEFFICIENT. -/
theorem back_first {Q : Int} {x v a : Nat → Int} {k n : Nat} (h : Pr Q) (h255 : 255 < Q) (hx : ∀ i, i < n → 1 ≤ x i ∧ x i ≤ 255) (hne : ∀ i j, i < n → j < n → i ≠ j → x i ≠ x j)
    (k0 : 0 < k) (hk : k ≤ n) (hv : ∀ i, i < n → v i = pvl a k (x i) % Q) : cbN Q x v n n = a 0 % Q := by
  have h1 : Eqm Q (cbN Q x v n n) (a 0) := (cbN_eqm n).trans ((smI_congr fun i hi => (Eqm.refl _ _).mul (by rw [hv i hi]; exact Eqm.mod _ _)).trans (lagrange (plc_doc h h255 hx hne) k0 hk))
  cases n with
  | zero => omega
  | succ n =>
    rw [← h1.emod, cbN, Int.emod_emod_of_dvd _ (Int.dvd_refl Q)]
end Go.Proofs.Ytkecfdeepmhggaa
