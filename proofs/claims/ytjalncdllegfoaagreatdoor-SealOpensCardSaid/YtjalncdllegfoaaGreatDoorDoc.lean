/-
  Several texts in one: Ref, Of, To, RefW, RAdd, RSum, RCmp, RefV, RDiv, RRe, RMul, RExp.
-/
import Derived.Test.YtjalncdllegfoaaGreatDoorPka
import Derived.Test.YtjalncdllegfoaaGreatDoorPkf
import Derived.Test.YtjalncdllegfoaaGreatDoorPkg
import Derived.Deep.QuietTactic
import Derived.BigQuiet
import Derived.Test.YtjalncdllegfoaaGreatDoorPkm
/-
  The document's own numbers, of digits of 16 bits: what Trim, at, Of and To answer.
-/
namespace Go.Proofs.YtjalncdllegfoaaGreatDoor
open Go.RowKit
set_option linter.unusedVariables false
/-- 2 to the 16. -/
def D : Int := 65536
theorem D_two : 2 ≤ D := by decide
theorem info3 : (Tryz.prog.info? 3).map (fun i => (i.zero, i.size, i.bytes)) = some (some (.int .i64 0), 1, 8) := by kernel_rfl

/-! ### Trim, at -/
theorem trim_end {b : Int} (hb2 : 2 ≤ b) {kd : IntKind} {A : Option Addr} {n k : Nat} {xs : List Int} {w : World} (h : Rd kd w A n xs) (hd : Dig b xs) (hk : k ≤ n) (hz : ∀ j, k ≤ j → j < n → xs.getD j 0 = 0) (hl : 0 < k → xs.getD (k - 1) 0 ≠ 0) : k = (dg b (val b xs)).length := by
  have hn := h.len
  subst hn
  exact (strip hb2 hd hk hz hl).2
/-- How many digits of 16 bits a number has. -/
def dr (N : Int) : Nat := (dg D N).length
theorem trim_any (A : Option Addr) (n c : Nat) (xs : List Int) (w : World) (h : Rd .i64 w A n xs) (hd : Dig D xs) (hnc : n ≤ c) (hn : n ≤ 1152921504606846976) :
    Calls Tryz.prog 53 #[.slice A n c] w fun e w' => e = .returned (.slice A (dr (val D xs)) c) ∧ w = w' := by
  go_enter Tryz.func53, Tryz.ntmps53
  go_wp2
  go_loop [3] (fun t => LimR xs n t) (fun t => (intOf t).toNat)
  case atStart => exact ⟨n, Nat.le_refl _, fun j h1 h2 => by omega, rfl⟩
  case round =>
    obtain ⟨k, hk, hz, rfl⟩ := hrel
    have HZ := Lib.hid hz
    clear hz
    rcases Nat.eq_zero_or_pos k with h0 | h0
    · subst h0
      go_wp2
      go_ret
      exact ⟨by unfold dr; rw [← trim_end D_two h hd hk HZ.out (fun h => absurd h (by omega))]; rfl, rfl⟩
    · obtain ⟨m, rfl⟩ : ∃ m, k = m + 1 := ⟨k - 1, by omega⟩
      obtain ⟨b, off, x, rfl, hb, hx, hcell⟩ := h.at_ (j := m) (by omega)
      have HX := Lib.hid hx
      clear hx
      by_cases hx0 : x = 0
      · subst hx0
        go_wp2
        go_round
        case rel =>
          refine ⟨m, by omega, fun j h1 h2 => ?_, by go_num⟩
          rcases Nat.lt_or_ge m j with h3 | h3
          · exact HZ.out j (by omega) h2
          · obtain rfl : j = m := by omega
            rw [List.getD_eq_getElem?_getD, HX.out]; rfl
        case measure => simp [intOf]
      · have hx1 : ((x : Int) == 0) = false := by simpa using hx0
        go_wp2
        go_ret
        exact ⟨by unfold dr; rw [← trim_end D_two h hd hk HZ.out (fun _ => by rw [Nat.add_sub_cancel, List.getD_eq_getElem?_getD, HX.out]; exact hx0)]; rfl, rfl⟩
theorem at_any (A : Option Addr) (n c : Nat) (xs : List Int) (i : Nat) (w : World) (h : Rd .i64 w A n xs) :
    Calls Tryz.prog 79 #[.slice A n c, .int .i64 i] w fun e w' => e = .returned (.int .i64 (dig xs i)) ∧ w = w' := by
  rcases Nat.lt_or_ge i n with hlt | hge
  · obtain ⟨b, off, x, rfl, hb, hx, hcell⟩ := h.at_ hlt
    rw [dig_lt hx]
    clear hx h
    go_enter Tryz.func79, Tryz.ntmps79
    go_wp2
    go_ret
    exact ⟨rfl, rfl⟩
  · rw [dig_ge (by rw [h.len]; exact hge)]
    clear h
    go_enter Tryz.func79, Tryz.ntmps79
    go_wp2
    go_ret
    exact ⟨rfl, rfl⟩
/-- The slice is the document's number N. -/
structure Rn (w : World) (A : Option Addr) (n c : Nat) (N : Int) : Prop where
  rd : Rd .i64 w A n (dg D N)
  nc : n ≤ c
  n60 : n ≤ 1125899906842624
  pos : 0 ≤ N
theorem Rn.below {w w' : World} {A : Option Addr} {n c : Nat} {N : Int} (h : Rn w A n c N) (hb : Below w.heap.size w w') : Rn w' A n c N := ⟨h.rd.below hb, h.nc, h.n60, h.pos⟩
theorem Rn.len_ {w : World} {A : Option Addr} {n c : Nat} {N : Int} (h : Rn w A n c N) : n = dr N := h.rd.len.symm
/-- A number of the document's was answered. -/
def AnsN (N : Int) (w : World) (e : Ending) (w' : World) : Prop := ∃ B m cap, e = .returned (.slice B m cap) ∧ Rn w' B m cap N ∧ Below w.heap.size w w'
/-- The number, in memory of its own. -/
def AnsNn (N : Int) (w : World) (e : Ending) (w' : World) : Prop := ∃ B m cap, e = .returned (.slice B m cap) ∧ Rn w' B m cap N ∧ Below w.heap.size w w' ∧ ∀ a, B = some a → w.heap.size ≤ a.block
/-- The digits that count are a beginning of those that are told. -/
theorem strip_ex {b : Int} (hb : 2 ≤ b) {xs : List Int} (hd : Dig b xs) : dg b (val b xs) = xs.take (dg b (val b xs)).length := by
  have key : ∀ m, (∀ j, m ≤ j → j < xs.length → xs.getD j 0 = 0) → m ≤ xs.length → ∃ m, m ≤ xs.length ∧ (∀ j, m ≤ j → j < xs.length → xs.getD j 0 = 0) ∧ (0 < m → xs.getD (m - 1) 0 ≠ 0) := by
    intro m
    induction m with
    | zero => intro h _; exact ⟨0, by omega, h, fun h => absurd h (by omega)⟩
    | succ m ih =>
      intro h hle
      by_cases hz : xs.getD m 0 = 0
      · refine ih (fun j a b => ?_) (by omega)
        rcases Nat.lt_or_ge m j with hj | hj
        · exact h j (by omega) b
        · obtain rfl : j = m := by omega
          exact hz
      · exact ⟨m + 1, hle, h, fun _ => by simpa using hz⟩
  obtain ⟨m, h1, h2, h3⟩ := key xs.length (fun j a b => by omega) (Nat.le_refl _)
  obtain ⟨e1, e2⟩ := strip hb hd h1 h2 h3
  rw [← e2]
  exact e1.symm
/-- What Trim leaves of digits. -/
theorem trim_own {w : World} {A : Option Addr} {n c : Nat} {xs : List Int} (h : Rd .i64 w A n xs) (hd : Dig D xs) (hnc : n ≤ c) (hn : n ≤ 1125899906842624) : Rn w A (dr (val D xs)) c (val D xs) := by
  have hl := h.len
  have hle : dr (val D xs) ≤ n := dg_len_le D_two (val_nonneg (by decide) hd) (hl ▸ val_lt (by decide) hd)
  refine ⟨?_, by omega, by omega, val_nonneg (by decide) hd⟩
  have key := strip_ex D_two hd
  rw [show dg D (val D xs) = xs.take (dr (val D xs)) from key]
  exact h.take hle
/-! ### Of -/
theorem W_D (k : Nat) : W ^ k = D ^ (4 * k) := by
  have : W = D ^ 4 := by decide
  rw [this, ← Int.pow_mul]
end Go.Proofs.YtjalncdllegfoaaGreatDoor
/-
  The document's own numbers: what Of answers.
-/
namespace Go.Proofs.YtjalncdllegfoaaGreatDoor
open Go.RowKit
set_option linter.unusedVariables false
theorem Dig.snoc {b y : Int} {L : List Int} (h : Dig b L) (h0 : 0 ≤ y) (h1 : y < b) : Dig b (L ++ [y]) := by
  intro x hx
  rw [List.mem_append] at hx
  rcases hx with hx | hx
  · exact h x hx
  · simp at hx; subst hx; exact ⟨h0, h1⟩
theorem val_snoc (b : Int) (L : List Int) (y : Int) : val b (L ++ [y]) = val b L + y * b ^ L.length := by
  rw [val_append]; simp [val, Int.mul_comm]
def OfO (xs : List Int) (n : Nat) (w : World) (o i : Value) (wr : World) : Prop :=
  ∃ (k : Nat) (L : List Int), k ≤ n ∧ i = .int .i64 k ∧ wr.ownsRow w.heap.size 3 1 o (4 * k) (L.map (Value.int .i64)) ∧ Dig D L ∧ val D L = val W (xs.take k) ∧ Below w.heap.size w wr
def OfI (S : Int) (x0 : Int) (k : Nat) (w : World) (o x j : Value) (wr : World) : Prop :=
  ∃ (i : Nat) (y : Int) (L : List Int), i ≤ 4 ∧ j = .int .i64 i ∧ x = .int .u64 y ∧ 0 ≤ y ∧ y < 18446744073709551616 ∧ y * D ^ i ≤ x0 ∧ wr.ownsRow w.heap.size 3 1 o (4 * k + i) (L.map (Value.int .i64)) ∧ Dig D L ∧ val D L + y * D ^ (4 * k + i) = S + x0 * W ^ k ∧ Below w.heap.size w wr
theorem of_step {S x0 y d y' : Int} {L : List Int} {k i : Nat} (hl : L.length = 4 * k + i) (e : y = d + y' * D) (h : val D L + y * D ^ (4 * k + i) = S + x0 * W ^ k) : val D (L ++ [d]) + y' * D ^ (4 * k + (i + 1)) = S + x0 * W ^ k := by
  rw [val_snoc, hl, ← h, e, ← Nat.add_assoc, Int.pow_succ]
  generalize D ^ (4 * k + i) = p
  grind
theorem of_less {x0 y y' d : Int} {i : Nat} (e : y = d + y' * D) (d0 : 0 ≤ d) (h : y * D ^ i ≤ x0) : y' * D ^ (i + 1) ≤ x0 := by
  have hp := pow_pos' D_two i
  have : y' * D ^ (i + 1) = y' * D * D ^ i := by rw [Int.pow_succ]; grind
  rw [this]
  have h2 := Int.mul_le_mul_of_nonneg_right (show y' * D ≤ y by omega) (show 0 ≤ D ^ i by omega)
  omega
theorem of_done {x0 y : Int} (h : y * D ^ 4 ≤ x0) (y0 : 0 ≤ y) (hx : x0 < 18446744073709551616) : y = 0 := by
  have : D ^ 4 = 18446744073709551616 := by decide
  rw [this] at h
  omega
theorem val_take_succ {xs : List Int} {k : Nat} {x : Int} (h : xs[k]? = some x) : val W (xs.take (k + 1)) = val W (xs.take k) + x * W ^ k := by
  have hk : k < xs.length := by
    rcases Nat.lt_or_ge k xs.length with g | g
    · exact g
    · rw [List.getElem?_eq_none g] at h; cases h
  rw [val_take W xs (by omega), val_take W xs (by omega)]
  simp only [vf]
  rw [dig_lt h]
set_option maxHeartbeats 2000000 in
theorem of_wide (A : Option Addr) (n c : Nat) (xs : List Int) (w : World) (h : Rd .u64 w A n xs) (hd : Dig W xs) (hn : n ≤ 1000000000000) :
    Calls Tryz.prog 25 #[.slice A n c] w (AnsNn (val W xs) w) := by
  go_enter Tryz.func25, Tryz.ntmps25
  go_wp2_with fail
  go_loopw [3, 4] (fun o i wr => OfO xs n w o i wr) (fun _ i _ => n - (intOf i).toNat)
  case atStart => exact ⟨0, [], Nat.zero_le _, rfl, World.ownsRow_nil _ _ _ _, dig_nil _, rfl, Below.refl _ _⟩
  case round =>
    obtain ⟨k, L, hk, rfl, hown, hL, hv, hb⟩ := hrel
    have HV := Lib.hid hv
    clear hv
    rcases Nat.lt_or_ge k n with hlt | hge
    · obtain ⟨b, off, x, rfl, hbb, hx, hcell⟩ := (h.below hb).at_ hlt
      have hdx := dig_W hd k
      rw [dig_lt hx] at hdx
      have HX := Lib.hid hx
      clear hx
      obtain ⟨wo, hwo⟩ : ∃ wo : World, wo = wr := ⟨_, rfl⟩
      go_wp2_with fail
      subst hwo
      go_loopw [3, 5, 6] (fun o x' j wr => OfI (val W (xs.take k)) x k w o x' j wr) (fun _ _ j _ => 4 - (intOf j).toNat)
      case atStart => exact ⟨0, x, L, by omega, rfl, rfl, hdx.1, hdx.2, by simp, hown, hL, by rw [HV.out, W_D]; rfl, hb⟩
      case round =>
        obtain ⟨i, y, L2, hi, rfl, rfl, y0, y1, yx, hown2, hL2, hv2, hb2⟩ := hrel
        have HV2 := Lib.hid hv2
        have HYX := Lib.hid yx
        clear hv2 yx
        have hl2 : L2.length = 4 * k + i := by have := hown2.1; simpa using this
        have HL2 := Lib.hid hl2
        clear hl2
        rcases Nat.lt_or_ge i 4 with hlt2 | hge2
        · have hbase : w.heap.size ≤ wr.heap.size := hb2.size
          go_wp2_with (at_builtin; refine wpList_app _ rfl _ _ 70 rfl w.heap.size 3 .i64 Tryz.underlying70 info3 _ _ L2 rfl (hown2.alloc _) wr.heap.size (y % 65536) rfl ?hc (by omega) ?hb ?_)
          case hc => simp [World.cell?_alloc_new]
          case hb => simp; omega
          intro v' w1 hown' hgrow
          have hb3 := own_below (hb2.alloc hb2.size _) (hown2.alloc _) hgrow (by simp; omega) (Nat.le_refl _)
          have hyd : y = y % 65536 + y / 65536 * D := by unfold D; omega
          have HST := Lib.hid (of_step HL2.out hyd HV2.out)
          have HLS := Lib.hid (of_less hyd (by omega) HYX.out)
          clear hgrow hown2 hyd
          go_wp2
          go_roundw
          case rel => exact ⟨i + 1, y / 65536, L2 ++ [y % 65536], by omega, by go_num, rfl, by omega, by omega, HLS.out, by simpa [Nat.add_assoc] using hown', hL2.snoc (by omega) (by unfold D; omega), HST.out, hb3⟩
          case measure => simp [intOf]; omega
        · obtain rfl : i = 4 := by omega
          have y00 := of_done HYX.out y0 hdx.2
          subst y00
          have hv3 : val D L2 = val W (xs.take (k + 1)) := by rw [val_take_succ HX.out]; have := HV2.out; simpa using this
          have HV3 := Lib.hid hv3
          clear hv3
          go_wp2
          go_roundw
          case rel => exact ⟨k + 1, L2, by omega, by go_num, hown2, hL2, HV3.out, hb2⟩
          case measure => simp [intOf]; omega
    · obtain rfl : k = n := by omega
      obtain ⟨A2, cap, rfl, hrd, hcap, hbl⟩ := own_rd hown
      have hv4 : val D L = val W xs := by rw [HV.out, ← h.len, List.take_length]
      go_wp2_with fail
      refine (trim_any A2 (4 * k) cap L _ hrd hL hcap (by omega)).mono ?_
      rintro e w1 ⟨rfl, rfl⟩
      go_wp2
      go_ret
      exact ⟨_, _, _, rfl, by have := trim_own hrd hL hcap (by omega); rw [hv4] at this; exact this, hb, hbl⟩
theorem of_new (A : Option Addr) (n c : Nat) (xs : List Int) (w : World) (h : Rd .u64 w A n xs) (hd : Dig W xs) (hn : n ≤ 1000) :
    Calls Tryz.prog 25 #[.slice A n c] w (AnsNn (val W xs) w) := of_wide A n c xs w h hd (by omega)
theorem of_any (A : Option Addr) (n c : Nat) (xs : List Int) (w : World) (h : Rd .u64 w A n xs) (hd : Dig W xs) (hn : n ≤ 1000) :
    Calls Tryz.prog 25 #[.slice A n c] w (AnsN (val W xs) w) :=
  (of_new A n c xs w h hd hn).mono fun e w' ⟨B, m, cap, h1, h2, h3, _⟩ => ⟨B, m, cap, h1, h2, h3⟩
end Go.Proofs.YtjalncdllegfoaaGreatDoor
/-
  The document's own numbers: what To answers.
-/
namespace Go.Proofs.YtjalncdllegfoaaGreatDoor
open Go.RowKit
set_option linter.unusedVariables false
def ToO (X : List Int) (n : Nat) (w : World) (o i : Value) (wr : World) : Prop :=
  ∃ (k : Nat) (u : Int) (L : List Int), i = .int .i64 u ∧ u = 4 * (k : Int) ∧ (0 < k → 4 * (k - 1) < n) ∧ wr.ownsRow w.heap.size 56 1 o k (L.map (Value.int .u64)) ∧ Dig W L ∧ val W L = vf D (dig X) (4 * k) ∧ Below w.heap.size w wr
def ToI (X : List Int) (k : Nat) (w : World) (x j : Value) (wr : World) : Prop :=
  ∃ (r : Nat) (u y : Int), r ≤ 4 ∧ j = .int .i64 u ∧ u = (r : Int) - 1 ∧ x = .int .u64 y ∧ 0 ≤ y ∧ y < D ^ (4 - r) ∧ vf D (fun j => dig X (4 * k + j)) 4 = vf D (fun j => dig X (4 * k + j)) r + y * D ^ r ∧ w = wr
theorem to_step {X : List Int} {k s : Nat} {y S : Int} (h : S = vf D (fun j => dig X (4 * k + j)) (s + 1) + y * D ^ (s + 1)) : S = vf D (fun j => dig X (4 * k + j)) s + (y * 65536 + dig X (4 * k + s)) * D ^ s := by
  rw [h]
  have e : D ^ (s + 1) = D ^ s * 65536 := Int.pow_succ _ _
  simp only [vf]
  rw [e]
  generalize D ^ s = p
  grind
theorem to_bd {y x : Int} {s : Nat} (hs : s + 1 ≤ 4) (h0 : 0 ≤ y) (h : y < D ^ (4 - (s + 1))) (x0 : 0 ≤ x) (x1 : x < 65536) : 0 ≤ y * 65536 + x ∧ y * 65536 + x < D ^ (4 - s) ∧ y < 281474976710656 := by
  have e : D ^ (4 - s) = D ^ (4 - (s + 1)) * 65536 := by
    have : 4 - s = (4 - (s + 1)) + 1 := by omega
    rw [this]; exact Int.pow_succ _ _
  have h3 := pow_mono (b := D) (by decide) (show 4 - (s + 1) ≤ 3 by omega)
  have h4 : D ^ 3 = 281474976710656 := by decide
  rw [e]
  have : (y + 1) * 65536 ≤ D ^ (4 - (s + 1)) * 65536 := Int.mul_le_mul_of_nonneg_right (by omega) (by decide)
  omega
theorem to_sum {X L : List Int} {k : Nat} {y : Int} (hl : L.length = k) (hv : val W L = vf D (dig X) (4 * k)) (h : vf D (fun j => dig X (4 * k + j)) 4 = y) : val W (L ++ [y]) = vf D (dig X) (4 * (k + 1)) := by
  have e : 4 * (k + 1) = 4 * k + 4 := by omega
  rw [val_snoc, hl, hv, e, vf_split D (dig X) (4 * k) 4, h, W_D, Int.mul_comm]
/-- As many digits of 64 bits as those of 16 bits need. -/
theorem to_end {N : Int} {L : List Int} {k : Nat} (hN : 0 ≤ N) (hl : L.length = k) (hd : Dig W L) (hv : val W L = N) (h : 0 < k → 4 * (k - 1) < dr N) : dg W N = L := by
  have e := strip_ex W_two hd
  rw [hv] at e
  have hk : k ≤ (dg W N).length := by
    rcases Nat.eq_zero_or_pos k with g | g
    · omega
    · have h1 := h g
      rcases Nat.lt_or_ge (dg W N).length k with q | q
      · exfalso
        have a := dg_lt_pow W_two hN (show (dg W N).length ≤ k - 1 by omega)
        rw [W_D] at a
        have b := dg_len_le D_two hN a
        have : (dg D N).length = dr N := rfl
        omega
      · exact q
  rw [e, List.take_of_length_le (by omega)]
def AnsL (N : Int) (w : World) (e : Ending) (w' : World) : Prop := ∃ B m cap, e = .returned (.slice B m cap) ∧ Rd .u64 w' B m (dg W N) ∧ Below w.heap.size w w'
/-- A number in new memory that the call owns. -/
def AnsO (N : Int) (w : World) (e : Ending) (w' : World) : Prop := ∃ v n, e = .returned v ∧ w'.ownsRow w.heap.size 56 1 v n ((dg W N).map (Value.int .u64)) ∧ Below w.heap.size w w'
def AnsL2 (N : Int) (w : World) (e : Ending) (w' : World) : Prop := ∃ B m cap, e = .returned (.slice B m cap) ∧ Rd .u64 w' B m (dg W N) ∧ m ≤ cap ∧ Below w.heap.size w w'
set_option maxHeartbeats 4000000 in
theorem to_own {A : Option Addr} {n c : Nat} {N : Int} {w : World} (h : Rn w A n c N) (hn : n ≤ 100000) :
    Calls Tryz.prog 29 #[.slice A n c] w (AnsO N w) := by
  obtain ⟨X, hX⟩ : ∃ X, X = dg D N := ⟨_, rfl⟩
  have hrd := h.rd
  have hXd := dig_dg D_two h.pos
  rw [← hX] at hrd hXd
  have HX := Lib.hid hX
  clear hX
  go_enter Tryz.func29, Tryz.ntmps29
  go_wp2_with fail
  go_loopw [3, 4] (fun o i wr => ToO X n w o i wr) (fun _ i _ => (n + 4 - intOf i).toNat)
  case atStart => exact ⟨0, 0, [], rfl, rfl, fun h => absurd h (by omega), World.ownsRow_nil _ _ _ _, dig_nil _, rfl, Below.refl _ _⟩
  case round =>
    obtain ⟨k, u, L, rfl, hu, hk, hown, hL, hv, hb⟩ := hrel
    have HV := Lib.hid hv
    have HK := Lib.hid hk
    have HU := Lib.hid hu
    have hk4 : 4 * k ≤ n + 3 := by
      rcases Nat.eq_zero_or_pos k with g | g
      · omega
      · have := hk g; omega
    have u0 : 0 ≤ u := by omega
    have u1 : u ≤ 100003 := by omega
    clear hv hk
    have hll : L.length = k := by have := hown.1; simpa using this
    have HLL := Lib.hid hll
    clear hll
    rcases Int.lt_or_le u n with hlt | hge
    · have hbase : w.heap.size ≤ wr.heap.size := hb.size
      clear hu
      obtain ⟨wo, hwo⟩ : ∃ wo : World, wo = wr := ⟨_, rfl⟩
      go_wp2_with fail
      subst hwo
      go_loopw [5, 6] (fun x j wr => ToI X k wo x j wr) (fun _ j _ => (intOf j + 1).toNat)
      case atStart => exact ⟨4, 3, 0, by omega, rfl, by omega, rfl, Int.le_refl _, by simp, by simp, rfl⟩
      case round =>
        obtain ⟨r, q, y, hr, rfl, hq, rfl, y0, y1, hs, rfl⟩ := hrel
        have HS := Lib.hid hs
        clear hs
        rcases Nat.eq_zero_or_pos r with g | g
        · subst g
          obtain rfl : q = -1 := by omega
          have hs2 : vf D (fun j => dig X (4 * k + j)) 4 = y := by have := HS.out; simpa [vf] using this
          have y2 : y < W := by have : D ^ (4 - 0) = W := by decide
                                rw [this] at y1; exact y1
          have HT := Lib.hid (to_sum HLL.out HV.out hs2)
          clear hq hs2 y1 hr
          go_wp2_with (at_builtin; refine wpList_app _ rfl _ _ 22 rfl w.heap.size 56 .u64 Tryz.underlying22 info62u _ _ L rfl (hown.alloc _) wo.heap.size y rfl ?hc (by omega) ?hb ?_)
          case hc => simp [World.cell?_alloc_new]
          case hb => simp; omega
          intro v' w1 hown' hgrow
          have hb3 := own_below (hb.alloc hb.size _) (hown.alloc _) hgrow (by simp; omega) (Nat.le_refl _)
          clear hgrow hown
          go_wp2
          go_roundw
          case rel => exact ⟨k + 1, _, L ++ [y], rfl, by have := HU.out; omega, fun _ => by have := HU.out; simp; omega, by simpa using hown', hL.snoc y0 y2, HT.out, hb3⟩
          case measure => simp [intOf]; omega
        · obtain ⟨s, rfl⟩ : ∃ s, r = s + 1 := ⟨r - 1, by omega⟩
          obtain rfl : q = (s : Int) := by omega
          have hxd := dig_bd (b := D) (by decide) hXd (4 * k + s)
          have hxd2 : dig X (4 * k + s) < 65536 := hxd.2
          obtain ⟨z1, z2, z3⟩ := to_bd (by omega) y0 y1 hxd.1 hxd2
          have HT := Lib.hid (to_step HS.out)
          have s3 : s ≤ 3 := by omega
          clear hq y1
          rcases Nat.lt_or_ge (4 * k + s) n with hin | hin
          · obtain ⟨b, off, x, rfl, hbb, hx, hcell⟩ := (hrd.below hb).at_ hin
            have hxe := dig_lt hx
            rw [hxe] at hxd hxd2 z1 z2
            have HXE := Lib.hid hxe
            have e1 : u + (s : Int) = ((4 * k + s : Nat) : Int) := by have := HU.out; omega
            have e2 : (((4 * k + s : Nat) : Int)) < (n : Int) := by omega
            have hx0 := hxd.1
            clear hx hxe
            go_wp2_with fail
            go_roundw
            case rel => exact ⟨s, _, _, by omega, rfl, rfl, rfl, z1, z2, by rw [← HXE.out]; exact HT.out, rfl⟩
            case measure => simp [intOf]
          · have hx0 := dig_ge (xs := X) (i := 4 * k + s) (by rw [hrd.len]; exact hin)
            rw [hx0] at z1 z2
            have HX0 := Lib.hid hx0
            have e2 : (n : Int) ≤ u + (s : Int) := by have := HU.out; omega
            clear hx0 hxd hxd2
            go_wp2_with fail
            go_roundw
            case rel => exact ⟨s, _, _, by omega, rfl, rfl, rfl, by omega, by simpa using z2, by have := HT.out; rw [HX0.out] at this; simpa using this, rfl⟩
            case measure => simp [intOf]
    · have hN0 : dg W N = L := to_end h.pos HLL.out hL (by rw [HV.out]; rw [← val_vf D X (by rw [hrd.len]; have := HU.out; omega), HX.out]; exact val_dg D_two h.pos) (fun g => by have := HK.out g; rw [h.len_] at this; exact this)
      rw [← hN0] at hown
      have HN0 := Lib.hid hN0
      have HOWN := Lib.hid hown
      clear hN0 hu hown
      go_wp2
      go_ret
      exact ⟨_, _, rfl, HOWN.out, hb⟩
theorem to_any2 {A : Option Addr} {n c : Nat} {N : Int} {w : World} (h : Rn w A n c N) (hn : n ≤ 100000) :
    Calls Tryz.prog 29 #[.slice A n c] w (AnsL2 N w) := (to_own h hn).mono fun e w' ⟨v, m, he, ho, hb⟩ => by
  obtain ⟨A2, cap, rfl, hr2, hcap, -⟩ := own_rd ho
  exact ⟨_, _, _, he, hr2, hcap, hb⟩
theorem to_any {A : Option Addr} {n c : Nat} {N : Int} {w : World} (h : Rn w A n c N) (hn : n ≤ 100000) :
    Calls Tryz.prog 29 #[.slice A n c] w (AnsL N w) := (to_any2 h hn).mono fun e w' ⟨B, m, cap, he, hr, _, hb⟩ => ⟨B, m, cap, he, hr, hb⟩
end Go.Proofs.YtjalncdllegfoaaGreatDoor
/-
  Calls of the document's own numbers, in the form of the laws' walks: Of; two lists that are the same.
-/
namespace Go.Proofs.YtjalncdllegfoaaGreatDoor
open Go.RowKit
set_option linter.unusedVariables false
theorem same_rd {B B' : Option Addr} {m m' cap cap' : Nat} {N : Int} {w : World} (h : Rd .u64 w B m (dg W N)) (h' : Rd .u64 w B' m' (dg W N)) (hm : m ≤ 17592186044416) :
    Calls Tryz.prog 30 #[.slice B m cap, .slice B' m' cap'] w (AnsV (.bool true) w) := by
  obtain rfl : m = m' := by rw [← h.len, ← h'.len]
  exact (same_yes h h' hm).mono fun e w' ⟨he, q, hq⟩ => ⟨he, hq ▸ below_drewN (Below.refl _ _) q⟩
theorem dr_le {N : Int} (h0 : 0 ≤ N) {k : Nat} (h : dl N ≤ k) : dr N ≤ 4 * k := by
  refine dg_len_le D_two h0 ?_
  rw [← W_D]
  exact lt_dl h0 h
theorem of_v {A : Option Addr} {n c : Nat} {xs : List Int} {w : World} (h : Told w A n c xs) (hn : n ≤ 1000) :
    Calls Tryz.prog 25 #[.slice A n c] w (AnsN (val W xs) w) := of_any A n c xs w h.rd h.dig_ hn
end Go.Proofs.YtjalncdllegfoaaGreatDoor
/-
  The document's own sums and differences: what treenailref01.Add and Sub answer.
-/
namespace Go.Proofs.YtjalncdllegfoaaGreatDoor
open Go.RowKit
set_option linter.unusedVariables false
theorem val_dr {N : Int} (h0 : 0 ≤ N) {m : Nat} (h : dr N ≤ m) : vf D (dig (dg D N)) m = N := by
  rw [← val_vf D (dg D N) h, val_dg D_two h0]
theorem dig_D {xs : List Int} (h : Dig D xs) (i : Nat) : 0 ≤ dig xs i ∧ dig xs i < 65536 := dig_bd (by decide) h i
def RaR (X Y : List Int) (mx : Nat) (w : World) (o c i : Value) (wr : World) : Prop :=
  ∃ (k : Nat) (cr : Int) (L : List Int), k ≤ mx + 1 ∧ i = .int .i64 k ∧ c = .int .i64 cr ∧ 0 ≤ cr ∧ cr ≤ 1 ∧ (mx < k → cr = 0) ∧ wr.ownsRow w.heap.size 3 1 o k (L.map (Value.int .i64)) ∧ Dig D L ∧ val D L + cr * D ^ k = vf D (dig X) k + vf D (dig Y) k ∧ Below w.heap.size w wr
theorem ra_step {X Y L : List Int} {k : Nat} {cr d c' : Int} (hl : L.length = k) (e : d + c' * 65536 = dig X k + dig Y k + cr) (h : val D L + cr * D ^ k = vf D (dig X) k + vf D (dig Y) k) : val D (L ++ [d]) + c' * D ^ (k + 1) = vf D (dig X) (k + 1) + vf D (dig Y) (k + 1) := by
  rw [val_snoc, hl]
  simp only [vf]
  have e2 : D ^ (k + 1) = D ^ k * 65536 := Int.pow_succ _ _
  rw [e2]
  generalize D ^ k = p at *
  generalize val D L = a at *
  generalize vf D (dig X) k = x at *
  generalize vf D (dig Y) k = y at *
  grind
set_option maxHeartbeats 4000000 in
theorem radd_new {A A' : Option Addr} {n c n' c' : Nat} {N M : Int} {w : World} (h : Rn w A n c N) (h' : Rn w A' n' c' M) (hn : n ≤ 100000) (hn' : n' ≤ 100000) :
    Calls Tryz.prog 113 #[.slice A n c, .slice A' n' c'] w (AnsNn (N + M) w) := by
  obtain ⟨mx, hmx⟩ : ∃ mx, mx = max n n' := ⟨_, rfl⟩
  have m1 : n ≤ mx := by omega
  have m2 : n' ≤ mx := by omega
  have m3 : mx ≤ 100000 := by omega
  have m4 : mx = n ∨ mx = n' := by omega
  clear hmx
  have M4 := Lib.hid m4
  clear m4
  have dX := dig_D (dig_dg D_two h.pos)
  have dY := dig_D (dig_dg D_two h'.pos)
  have DX := Lib.hid dX
  have DY := Lib.hid dY
  clear dX dY
  go_enter Tryz.func113, Tryz.ntmps113
  go_wp2_with fail
  go_loopw [5, 6, 7] (fun o c i wr => RaR (dg D N) (dg D M) mx w o c i wr) (fun _ _ i _ => mx + 2 - (intOf i).toNat)
  case atStart => exact ⟨0, 0, [], Nat.zero_le _, rfl, rfl, Int.le_refl _, by decide, fun _ => rfl, World.ownsRow_nil _ _ _ _, dig_nil _, by simp [vf, val], Below.refl _ _⟩
  case round =>
    obtain ⟨k, cr, L, hk, rfl, rfl, c0, c1, hcz, hown, hL, hv, hb⟩ := hrel
    have HV := Lib.hid hv
    have HCZ := Lib.hid hcz
    clear hv hcz
    have hll : L.length = k := by have := hown.1; simpa using this
    have HLL := Lib.hid hll
    clear hll
    by_cases hstop : n ≤ k ∧ n' ≤ k ∧ cr = 0
    · obtain ⟨q1, q2, rfl⟩ := hstop
      obtain ⟨A2, cap, rfl, hrd, hcap, hbl⟩ := own_rd hown
      have hval : val D L = N + M := by
        have := HV.out
        rw [val_dr h.pos (by rw [← h.len_]; exact q1), val_dr h'.pos (by rw [← h'.len_]; exact q2)] at this
        simpa using this
      have HVL := Lib.hid hval
      clear hval
      go_wp2_with fail
      refine (trim_any A2 k cap L _ hrd hL hcap (by omega)).mono ?_
      rintro e w1 ⟨rfl, rfl⟩
      go_wp2
      go_ret
      exact ⟨_, _, _, rfl, by have := trim_own hrd hL hcap (by omega); rw [HVL.out] at this; rw [HVL.out]; exact this, hb, hbl⟩
    · have hkm : k ≤ mx := by
        rcases Nat.lt_or_ge mx k with g | g
        · exfalso; exact hstop ⟨by omega, by omega, HCZ.out g⟩
        · exact g
      have d1 := DX.out k
      have d2 := DY.out k
      obtain ⟨x, hx⟩ : ∃ x, dig (dg D N) k = x := ⟨_, rfl⟩
      obtain ⟨y, hy⟩ : ∃ y, dig (dg D M) k = y := ⟨_, rfl⟩
      rw [hx] at d1
      rw [hy] at d2
      have x0 := d1.1
      have x1 := d1.2
      have y0 := d2.1
      have y1 := d2.2
      have HX := Lib.hid hx
      have HY := Lib.hid hy
      have HST := Lib.hid (ra_step (c' := (x + y + cr) / 65536) HLL.out (show (x + y + cr) % 65536 + (x + y + cr) / 65536 * 65536 = dig (dg D N) k + dig (dg D M) k + cr by rw [hx, hy]; omega) HV.out)
      have hz : mx < k + 1 → (x + y + cr) / 65536 = 0 := by
        intro g
        have e1 : x = 0 := by rw [← hx]; exact dig_ge (by rw [h.rd.len]; omega)
        have e2 : y = 0 := by rw [← hy]; exact dig_ge (by rw [h'.rd.len]; omega)
        omega
      have HZZ := Lib.hid hz
      clear hx hy hz d1 d2
      have hbase : w.heap.size ≤ wr.heap.size := hb.size
      have hA := fun W => (at_any A n c (dg D N) k W)
      have HA1 := Lib.hid (at_any A n c (dg D N) k wr (h.rd.below hb))
      have HA2 := Lib.hid (at_any A' n' c' (dg D M) k wr (h'.rd.below hb))
      clear hA
      rw [HX.out] at HA1
      rw [HY.out] at HA2
      rcases Nat.lt_or_ge k n with q1 | q1
      · clear hstop
        go_wp2_with fail
        refine HA1.out.mono ?_
        rintro e w1 ⟨rfl, rfl⟩
        go_wp2_with fail
        refine HA2.out.mono ?_
        rintro e w1 ⟨rfl, rfl⟩
        go_wp2_with (at_builtin; refine wpList_app _ rfl _ _ 70 rfl w.heap.size 3 .i64 Tryz.underlying70 info3 _ _ L rfl (hown.alloc _) wr.heap.size ((x + y + cr) % 65536) rfl ?hc1 (by omega) ?hb1 ?_)
        case hc1 => simp [World.cell?_alloc_new]
        case hb1 => simp; omega
        intro v' w1 hown' hgrow
        have hb3 := own_below (hb.alloc hb.size _) (hown.alloc _) hgrow (by simp; omega) (Nat.le_refl _)
        clear hgrow hown
        go_wp2
        go_roundw
        case rel => exact ⟨k + 1, _, L ++ [(x + y + cr) % 65536], by omega, by go_num, rfl, by omega, by omega, HZZ.out, by simpa using hown', hL.snoc (by omega) (by unfold D; omega), HST.out, hb3⟩
        case measure => simp [intOf]; omega
      · rcases Nat.lt_or_ge k n' with q2 | q2
        · clear hstop
          go_wp2_with fail
          refine HA1.out.mono ?_
          rintro e w1 ⟨rfl, rfl⟩
          go_wp2_with fail
          refine HA2.out.mono ?_
          rintro e w1 ⟨rfl, rfl⟩
          go_wp2_with (at_builtin; refine wpList_app _ rfl _ _ 70 rfl w.heap.size 3 .i64 Tryz.underlying70 info3 _ _ L rfl (hown.alloc _) wr.heap.size ((x + y + cr) % 65536) rfl ?hc2 (by omega) ?hb2 ?_)
          case hc2 => simp [World.cell?_alloc_new]
          case hb2 => simp; omega
          intro v' w1 hown' hgrow
          have hb3 := own_below (hb.alloc hb.size _) (hown.alloc _) hgrow (by simp; omega) (Nat.le_refl _)
          clear hgrow hown
          go_wp2
          go_roundw
          case rel => exact ⟨k + 1, _, L ++ [(x + y + cr) % 65536], by omega, by go_num, rfl, by omega, by omega, HZZ.out, by simpa using hown', hL.snoc (by omega) (by unfold D; omega), HST.out, hb3⟩
          case measure => simp [intOf]; omega
        · have q3 : 0 < cr := by
            rcases Int.lt_or_le 0 cr with g | g
            · exact g
            · exfalso; exact hstop ⟨q1, q2, by omega⟩
          clear hstop
          go_wp2_with fail
          refine HA1.out.mono ?_
          rintro e w1 ⟨rfl, rfl⟩
          go_wp2_with fail
          refine HA2.out.mono ?_
          rintro e w1 ⟨rfl, rfl⟩
          go_wp2_with (at_builtin; refine wpList_app _ rfl _ _ 70 rfl w.heap.size 3 .i64 Tryz.underlying70 info3 _ _ L rfl (hown.alloc _) wr.heap.size ((x + y + cr) % 65536) rfl ?hc3 (by omega) ?hb3 ?_)
          case hc3 => simp [World.cell?_alloc_new]
          case hb3 => simp; omega
          intro v' w1 hown' hgrow
          have hb3 := own_below (hb.alloc hb.size _) (hown.alloc _) hgrow (by simp; omega) (Nat.le_refl _)
          clear hgrow hown
          go_wp2
          go_roundw
          case rel => exact ⟨k + 1, _, L ++ [(x + y + cr) % 65536], by omega, by go_num, rfl, by omega, by omega, HZZ.out, by simpa using hown', hL.snoc (by omega) (by unfold D; omega), HST.out, hb3⟩
          case measure => simp [intOf]; omega
/-! ### Sub -/
theorem radd_any {A A' : Option Addr} {n c n' c' : Nat} {N M : Int} {w : World} (h : Rn w A n c N) (h' : Rn w A' n' c' M) (hn : n ≤ 100000) (hn' : n' ≤ 100000) :
    Calls Tryz.prog 113 #[.slice A n c, .slice A' n' c'] w (AnsN (N + M) w) :=
  (radd_new h h' hn hn').mono fun e w' ⟨B, m, cap, h1, h2, h3, _⟩ => ⟨B, m, cap, h1, h2, h3⟩
end Go.Proofs.YtjalncdllegfoaaGreatDoor
/-
  What the document's Sub answers.
-/
namespace Go.Proofs.YtjalncdllegfoaaGreatDoor
open Go.RowKit
set_option linter.unusedVariables false
def RsR (X Y : List Int) (n : Nat) (w : World) (o c i : Value) (wr : World) : Prop :=
  ∃ (k : Nat) (cr : Int) (L : List Int), k ≤ n ∧ i = .int .i64 k ∧ c = .int .i64 cr ∧ 0 ≤ cr ∧ cr ≤ 1 ∧ wr.ownsRow w.heap.size 3 1 o k (L.map (Value.int .i64)) ∧ Dig D L ∧ val D L - cr * D ^ k = vf D (dig X) k - vf D (dig Y) k ∧ Below w.heap.size w wr
theorem rs_step {X Y L : List Int} {k : Nat} {cr d c' : Int} (hl : L.length = k) (e : d - c' * 65536 = dig X k - dig Y k - cr) (h : val D L - cr * D ^ k = vf D (dig X) k - vf D (dig Y) k) : val D (L ++ [d]) - c' * D ^ (k + 1) = vf D (dig X) (k + 1) - vf D (dig Y) (k + 1) := by
  rw [val_snoc, hl]
  simp only [vf]
  have e2 : D ^ (k + 1) = D ^ k * 65536 := Int.pow_succ _ _
  rw [e2]
  generalize D ^ k = p at *
  generalize val D L = a at *
  generalize vf D (dig X) k = x at *
  generalize vf D (dig Y) k = y at *
  grind
theorem rs_end {N M cr : Int} {L : List Int} {n : Nat} (h0 : 0 ≤ M) (hNM : M ≤ N) (hl : L.length = n) (hn : n = dr N) (hd : Dig D L) (c0 : 0 ≤ cr) (h : val D L - cr * D ^ n = vf D (dig (dg D N)) n - vf D (dig (dg D M)) n) : val D L = N - M := by
  have hM : dr M ≤ n := by rw [hn]; exact dg_len_mono D_two h0 hNM
  rw [val_dr (by omega) (by omega), val_dr h0 hM] at h
  have hb := val_lt (b := D) (by decide) hd
  rw [hl] at hb
  have hp := pow_pos' D_two n
  rcases Int.lt_or_le 0 cr with g | g
  · have := Int.mul_le_mul_of_nonneg_right (show (1 : Int) ≤ cr by omega) (show 0 ≤ D ^ n by omega)
    omega
  · have : cr = 0 := by omega
    subst this; simpa using h
set_option maxHeartbeats 4000000 in
theorem rsub_any {A A' : Option Addr} {n c n' c' : Nat} {N M : Int} {w : World} (h : Rn w A n c N) (h' : Rn w A' n' c' M) (hn : n ≤ 100000) (hNM : M ≤ N) :
    Calls Tryz.prog 78 #[.slice A n c, .slice A' n' c'] w (AnsN (N - M) w) := by
  have dX := dig_D (dig_dg D_two h.pos)
  have dY := dig_D (dig_dg D_two h'.pos)
  have DX := Lib.hid dX
  have DY := Lib.hid dY
  clear dX dY
  go_enter Tryz.func78, Tryz.ntmps78
  go_wp2_with fail
  go_loopw [5, 6, 7] (fun o c i wr => RsR (dg D N) (dg D M) n w o c i wr) (fun _ _ i _ => n - (intOf i).toNat)
  case atStart => exact ⟨0, 0, [], Nat.zero_le _, rfl, rfl, Int.le_refl _, by decide, World.ownsRow_nil _ _ _ _, dig_nil _, by simp [vf, val], Below.refl _ _⟩
  case round =>
    obtain ⟨k, cr, L, hk, rfl, rfl, c0, c1, hown, hL, hv, hb⟩ := hrel
    have HV := Lib.hid hv
    clear hv
    have hll : L.length = k := by have := hown.1; simpa using this
    have HLL := Lib.hid hll
    clear hll
    rcases Nat.lt_or_ge k n with hlt | hge
    · have d1 := DX.out k
      have d2 := DY.out k
      obtain ⟨x, hx⟩ : ∃ x, dig (dg D N) k = x := ⟨_, rfl⟩
      obtain ⟨y, hy⟩ : ∃ y, dig (dg D M) k = y := ⟨_, rfl⟩
      rw [hx] at d1
      rw [hy] at d2
      have x0 := d1.1
      have x1 := d1.2
      have y0 := d2.1
      have y1 := d2.2
      have hbase : w.heap.size ≤ wr.heap.size := hb.size
      have HA1 := Lib.hid (at_any A n c (dg D N) k wr (h.rd.below hb))
      have HA2 := Lib.hid (at_any A' n' c' (dg D M) k wr (h'.rd.below hb))
      rw [hx] at HA1
      rw [hy] at HA2
      rcases Int.lt_or_le (x - y - cr) 0 with g | g
      · have HST := Lib.hid (rs_step (c' := 1) HLL.out (show (x - y - cr + 65536) - 1 * 65536 = dig (dg D N) k - dig (dg D M) k - cr by rw [hx, hy]; omega) HV.out)
        clear hx hy d1 d2
        go_wp2_with fail
        refine HA1.out.mono ?_
        rintro e w1 ⟨rfl, rfl⟩
        go_wp2_with fail
        refine HA2.out.mono ?_
        rintro e w1 ⟨rfl, rfl⟩
        go_wp2_with (at_builtin; refine wpList_app _ rfl _ _ 70 rfl w.heap.size 3 .i64 Tryz.underlying70 info3 _ _ L rfl (hown.alloc _) wr.heap.size (x - y - cr + 65536) rfl ?hc1 (by omega) ?hb1 ?_)
        case hc1 => simp [World.cell?_alloc_new]
        case hb1 => simp; omega
        intro v' w1 hown' hgrow
        have hb3 := own_below (hb.alloc hb.size _) (hown.alloc _) hgrow (by simp; omega) (Nat.le_refl _)
        clear hgrow hown
        go_wp2
        go_roundw
        case rel => exact ⟨k + 1, _, L ++ [x - y - cr + 65536], by omega, by go_num, rfl, by omega, by omega, by simpa using hown', hL.snoc (by omega) (by unfold D; omega), HST.out, hb3⟩
        case measure => simp [intOf]; omega
      · have HST := Lib.hid (rs_step (c' := 0) HLL.out (show (x - y - cr) - 0 * 65536 = dig (dg D N) k - dig (dg D M) k - cr by rw [hx, hy]; omega) HV.out)
        clear hx hy d1 d2
        go_wp2_with fail
        refine HA1.out.mono ?_
        rintro e w1 ⟨rfl, rfl⟩
        go_wp2_with fail
        refine HA2.out.mono ?_
        rintro e w1 ⟨rfl, rfl⟩
        go_wp2_with (at_builtin; refine wpList_app _ rfl _ _ 70 rfl w.heap.size 3 .i64 Tryz.underlying70 info3 _ _ L rfl (hown.alloc _) wr.heap.size (x - y - cr) rfl ?hc2 (by omega) ?hb2 ?_)
        case hc2 => simp [World.cell?_alloc_new]
        case hb2 => simp; omega
        intro v' w1 hown' hgrow
        have hb3 := own_below (hb.alloc hb.size _) (hown.alloc _) hgrow (by simp; omega) (Nat.le_refl _)
        clear hgrow hown
        go_wp2
        go_roundw
        case rel => exact ⟨k + 1, _, L ++ [x - y - cr], by omega, by go_num, rfl, by omega, by omega, by simpa using hown', hL.snoc (by omega) (by unfold D; omega), HST.out, hb3⟩
        case measure => simp [intOf]; omega
    · obtain rfl : k = n := by omega
      obtain ⟨A2, cap, rfl, hrd, hcap, hbl⟩ := own_rd hown
      have hval := rs_end h'.pos hNM HLL.out h.len_ hL c0 HV.out
      have HVL := Lib.hid hval
      clear hval
      go_wp2_with fail
      refine (trim_any A2 k cap L _ hrd hL hcap (by omega)).mono ?_
      rintro e w1 ⟨rfl, rfl⟩
      go_wp2
      go_ret
      exact ⟨_, _, _, rfl, by have := trim_own hrd hL hcap (by omega); rw [HVL.out] at this; rw [HVL.out]; exact this, hb⟩
end Go.Proofs.YtjalncdllegfoaaGreatDoor
/-
  The document's own order and bits: what treenailref01.Cmp, Bits and Bit answer.
-/
namespace Go.Proofs.YtjalncdllegfoaaGreatDoor
open Go.RowKit
set_option linter.unusedVariables false
theorem rcmp_at {N M : Int} (hN : 0 ≤ N) (hM : 0 ≤ M) {k m : Nat} (h1 : dr N = m) (h2 : dr M = m) (hm : k < m) (h : ∀ j, k < j → dig (dg D N) j = dig (dg D M) j) : cmpI N M = cmpI (dig (dg D N) k) (dig (dg D M) k) ∨ dig (dg D N) k = dig (dg D M) k := by
  have a1 := val_dr hN (m := m) (by omega)
  have a2 := val_dr hM (m := m) (by omega)
  have b1 := fun j => dig_bd (b := D) (by decide) (dig_dg D_two hN) j
  have b2 := fun j => dig_bd (b := D) (by decide) (dig_dg D_two hM) j
  rcases Int.lt_trichotomy (dig (dg D N) k) (dig (dg D M) k) with g | g | g
  · left
    have := vf_less (b := D) (by decide) b1 b2 hm h g
    rw [cmpI_lt g, cmpI_lt (by omega)]
  · exact .inr g
  · left
    have := vf_less (b := D) (by decide) b2 b1 hm (fun j hj => (h j hj).symm) g
    rw [cmpI_gt g, cmpI_gt (by omega)]
theorem rcmp_all {N M : Int} (hN : 0 ≤ N) (hM : 0 ≤ M) (h : ∀ j, dig (dg D N) j = dig (dg D M) j) : cmpI N M = 0 := by
  have a1 := val_dr hN (m := max (dr N) (dr M)) (by omega)
  have a2 := val_dr hM (m := max (dr N) (dr M)) (by omega)
  rw [vf_congr D (g := dig (dg D M)) (fun j _ => h j), a2] at a1
  subst a1
  exact cmpI_eq _
theorem rcmp_len {N M : Int} (hN : 0 ≤ N) (hM : 0 ≤ M) (h : dr N < dr M) : N < M := by
  rcases Int.lt_or_le N M with k | k
  · exact k
  · have := dg_len_mono D_two hM k
    have e1 : (dg D N).length = dr N := rfl
    have e2 : (dg D M).length = dr M := rfl
    omega
theorem rdig_past {N : Int} {j : Nat} (h : dr N ≤ j) : dig (dg D N) j = 0 := dig_ge h
def RCmpR (N M : Int) (n : Nat) (w : World) (i : Value) (wr : World) : Prop :=
  ∃ v : Int, i = .int .i64 v ∧ -1 ≤ v ∧ v < n ∧ (∀ j : Nat, v < j → dig (dg D N) j = dig (dg D M) j) ∧ ∃ q, wr = w.drewN q
set_option maxHeartbeats 4000000 in
theorem rcmp_any {A A' : Option Addr} {n c n' c' : Nat} {N M : Int} {w : World} (h : Rn w A n c N) (h' : Rn w A' n' c' M) (hn : n ≤ 100000) (hn' : n' ≤ 100000) :
    Calls Tryz.prog 44 #[.slice A n c, .slice A' n' c'] w (AnsI (cmpI N M) w) := by
  have e1 := h.len_
  have e2 := h'.len_
  rcases Nat.lt_trichotomy n n' with g | g | g
  · have hlt := rcmp_len h.pos h'.pos (show dr N < dr M by omega)
    rw [cmpI_lt hlt]
    have hq : ((n : Int) != (n' : Int)) = true := by simp; omega
    clear e1 e2 hlt
    go_enter Tryz.func44, Tryz.ntmps44
    go_wp2
    go_ret
    exact ⟨rfl, 0, rfl⟩
  · subst g
    have hq : ((n : Int) != (n : Int)) = false := by simp
    have E1 := Lib.hid e1
    have E2 := Lib.hid e2
    clear e1 e2
    go_enter Tryz.func44, Tryz.ntmps44
    go_wp2_with fail
    go_loopw [5] (fun i wr => RCmpR N M n w i wr) (fun i _ => (intOf i + 1).toNat)
    case atStart =>
      exact ⟨_, rfl, by omega, by omega, fun j hj => by rw [rdig_past (N := N) (by have := E1.out; omega), rdig_past (N := M) (by have := E2.out; omega)], 0, rfl⟩
    case round =>
      obtain ⟨v, rfl, v0, v1, hd, q, rfl⟩ := hrel
      have HD := Lib.hid hd
      clear hd
      rcases Int.lt_or_le v 0 with hv | hv
      · obtain rfl : v = -1 := by omega
        go_wp2
        go_ret
        exact ⟨by rw [rcmp_all h.pos h'.pos (fun j => HD.out j (by omega))]; rfl, q, rfl⟩
      · obtain ⟨k, rfl⟩ := Int.eq_ofNat_of_zero_le hv
        obtain ⟨b, off, x, rfl, hb, hxx, hcell⟩ := h.rd.at_ (j := k) (by omega)
        obtain ⟨b', off', y, rfl, hb', hyy, hcell'⟩ := h'.rd.at_ (j := k) (by omega)
        have e1 := dig_lt hxx
        have e2 := dig_lt hyy
        have H1 := Lib.hid e1
        have H2 := Lib.hid e2
        clear hxx hyy e1 e2
        have hk1 : (k : Int) < (n : Int) := v1
        rcases Int.lt_trichotomy x y with g | g | g
        · have t1 : decide (x < y) = true := by simpa using g
          go_wp2_with fail
          go_quiet (fail)
          go_wp2
          go_ret
          refine ⟨?_, _, by rw [World.drewN_drewN]⟩
          rcases rcmp_at h.pos h'.pos E1.out.symm E2.out.symm (show k < n by omega) (fun j hj => HD.out j (by omega)) with f | f
          · rw [f, H1.out, H2.out, cmpI_lt g]; rfl
          · rw [H1.out, H2.out] at f; omega
        · subst g
          have t1 : decide (x < x) = false := by simp
          go_wp2_with fail
          go_quiet (fail)
          go_wp2_with fail
          go_quiet (fail)
          go_wp2
          go_roundw
          case rel =>
            refine ⟨_, rfl, by omega, by omega, fun j hj => ?_, _, by first | rfl | (rw [World.drewN_drewN, World.drewN_drewN])⟩
            rcases Nat.lt_or_ge k j with h3 | h3
            · exact HD.out j (by omega)
            · obtain rfl : j = k := by omega
              rw [H1.out, H2.out]
          case measure => simp [intOf]
        · have t1 : decide (x < y) = false := by simp; omega
          have t2 : decide (y < x) = true := by simpa using g
          go_wp2_with fail
          go_quiet (fail)
          go_wp2_with fail
          go_quiet (fail)
          go_wp2
          go_ret
          refine ⟨?_, _, by rw [World.drewN_drewN, World.drewN_drewN]⟩
          rcases rcmp_at h.pos h'.pos E1.out.symm E2.out.symm (show k < n by omega) (fun j hj => HD.out j (by omega)) with f | f
          · rw [f, H1.out, H2.out, cmpI_gt g]; rfl
          · rw [H1.out, H2.out] at f; omega
  · have hlt := rcmp_len h'.pos h.pos (show dr M < dr N by omega)
    rw [cmpI_gt hlt]
    have hq : ((n : Int) != (n' : Int)) = true := by simp; omega
    clear e1 e2 hlt
    go_enter Tryz.func44, Tryz.ntmps44
    go_wp2
    go_ret
    exact ⟨rfl, 0, rfl⟩
/-! ### Bits -/
theorem D_pow (n : Nat) : D ^ n = 2 ^ (16 * n) := by
  have : D = 2 ^ 16 := by decide
  rw [this, ← Int.pow_mul]
theorem rnb_top {N t : Int} {m r : Nat} (hN : 0 < N) (hm : dr N = m + 1) (ht : dig (dg D N) m = t) (h0 : t < 2 ^ r) (h1 : 0 < r → 2 ^ (r - 1) ≤ t) (h2 : 0 < t) : nb N = 16 * m + r := by
  have hv := val_dr (show 0 ≤ N by omega) (Nat.le_of_eq hm)
  have hlow := vf_bd (b := D) (by decide) (fun j => dig_bd (b := D) (by decide) (dig_dg D_two (show 0 ≤ N by omega)) j) m
  have hv' : vf D (dig (dg D N)) m + dig (dg D N) m * D ^ m = N := hv
  rw [ht] at hv'
  have hp := pow_pos' D_two m
  have hr : 0 < r := by
    rcases Nat.eq_zero_or_pos r with g | g
    · subst g; simp at h0; omega
    · exact g
  refine dg_len_eq (by decide) ?_ ?_ (by omega)
  · have e1 : 16 * m + r - 1 = (r - 1) + 16 * m := by omega
    rw [e1, Int.pow_add, ← D_pow]
    have := Int.mul_le_mul_of_nonneg_right (h1 hr) (show 0 ≤ D ^ m by omega)
    omega
  · have e1 : 16 * m + r = r + 16 * m := by omega
    rw [e1, Int.pow_add, ← D_pow]
    have := Int.mul_le_mul_of_nonneg_right (show t + 1 ≤ 2 ^ r by omega) (show 0 ≤ D ^ m by omega)
    rw [Int.add_mul] at this
    omega
def RbR (m : Nat) (t : Int) (c x : Value) : Prop := ∃ (r : Nat) (y : Int), c = .int .i64 (16 * (m : Int) + r) ∧ x = .int .i64 y ∧ y = t / 2 ^ r ∧ (0 < r → 2 ^ (r - 1) ≤ t) ∧ r ≤ 16
theorem half_half {t : Int} {r : Nat} : t / 2 ^ r / 2 = t / 2 ^ (r + 1) := by
  have e : (2 : Int) ^ (r + 1) = 2 ^ r * 2 := Int.pow_succ _ _
  rw [e, ← Int.ediv_ediv_of_nonneg (Int.le_of_lt (Int.pow_pos (by decide)))]
theorem le_of_half {t : Int} {r : Nat} (h : 0 < t / 2 ^ r) (h0 : 0 ≤ t) : 2 ^ r ≤ t := by
  have hp : (0 : Int) < 2 ^ r := Int.pow_pos (by decide)
  rcases Int.lt_or_le t (2 ^ r) with g | g
  · rw [Int.ediv_eq_zero_of_lt h0 g] at h; omega
  · exact g
set_option maxHeartbeats 1000000 in
theorem rbits_any {A : Option Addr} {n c : Nat} {N : Int} {w : World} (h : Rn w A n c N) (hn : n ≤ 100000) :
    Calls Tryz.prog 75 #[.slice A n c] w fun e w' => e = .returned (.int .i64 (nb N : Nat)) ∧ w = w' := by
  have e1 := h.len_
  rcases Nat.eq_zero_or_pos n with g | g
  · subst g
    have hN0 : N = 0 := (dg_nil_iff D_two h.pos).1 e1.symm
    subst hN0
    have e0 : nb 0 = 0 := by unfold nb; rw [dg_zero]; rfl
    rw [e0]
    clear e0 e1
    go_enter Tryz.func75, Tryz.ntmps75
    go_wp2
    go_ret
    exact ⟨rfl, rfl⟩
  · obtain ⟨m, hm⟩ : ∃ m, m + 1 = n := ⟨n - 1, by omega⟩
    have hN : 0 < N := by
      rcases Int.lt_or_le 0 N with q | q
      · exact q
      · have : N = 0 := by have := h.pos; omega
        subst this
        have : dr 0 = 0 := by unfold dr; rw [dg_zero]; rfl
        omega
    have htop := dg_top D_two hN
    rw [show (dg D N).length - 1 = m by have : (dg D N).length = n := e1.symm; omega] at htop
    obtain ⟨b, off, t, rfl, hb, ht, hct⟩ := h.rd.at_ (j := m) (by omega)
    have hte := dig_lt ht
    have hd := dig_D (dig_dg D_two h.pos) m
    rw [hte] at htop hd
    have HTE := Lib.hid hte
    have HM := Lib.hid hm
    have E1 := Lib.hid e1
    have hne : ((n : Int) == 0) = false := by simp; omega
    have f1 : (n : Int) - 1 = m := by omega
    have hmn : m < n := by omega
    have hm0 : (m : Int) ≤ 100000 := by omega
    clear ht hte e1 hm
    go_enter Tryz.func75, Tryz.ntmps75
    go_wp2_with fail
    go_loop [3, 4] (fun c x => RbR m t c x) (fun _ x => (intOf x).toNat)
    case atStart => exact ⟨0, t, by simp, rfl, by simp, fun h => absurd h (by omega), by omega⟩
    case round =>
      obtain ⟨r, y, rfl, rfl, hy, hr, hr16⟩ := hrel
      have HY := Lib.hid hy
      have HR := Lib.hid hr
      have y0 : 0 ≤ y := by rw [hy]; exact Int.ediv_nonneg (by omega) (Int.le_of_lt (Int.pow_pos (by decide)))
      have y1 : y ≤ 65535 := by have := Int.ediv_le_self (2 ^ r) (show 0 ≤ t by omega); rw [← hy] at this; omega
      clear hy hr
      rcases Int.lt_or_le 0 y with hp | hp
      · have hle : 2 ^ r ≤ t := le_of_half (by rw [← HY.out]; exact hp) (by omega)
        have hr15 : r ≤ 15 := by
          rcases Nat.lt_or_ge r 16 with q | q
          · omega
          · have := pow_mono (b := 2) (by decide) q
            have e16 : (2 : Int) ^ 16 = 65536 := by decide
            omega
        have HLE := Lib.hid hle
        clear hle
        go_wp2
        go_round
        case rel => exact ⟨r + 1, _, by go_num, rfl, by rw [HY.out]; exact half_half, fun _ => by simpa using HLE.out, by omega⟩
        case measure => simp [intOf]; omega
      · have hy0 : y = 0 := by omega
        have hlt : t < 2 ^ r := by
          rcases Int.lt_or_le t (2 ^ r) with q | q
          · exact q
          · have := Int.le_ediv_of_mul_le (a := 1) (b := t) (c := 2 ^ r) (Int.pow_pos (by decide)) (by omega)
            rw [← HY.out] at this; omega
        have hnb := rnb_top hN (by rw [← E1.out, HM.out]) HTE.out hlt HR.out (by omega)
        have HNB := Lib.hid hnb
        clear hnb hlt
        subst hy0
        go_wp2
        go_ret
        exact ⟨by rw [HNB.out]; go_num, rfl⟩
/-! ### Bit -/
theorem rsplit {xs : List Int} {m r : Nat} (hd : Dig D xs) (hr : r < 16) : val D xs / 2 ^ (16 * m + r) % 2 = dig xs m / 2 ^ r % 2 := by
  have h := val_vf D xs (m := m + 1 + xs.length) (by omega)
  rw [vf_split D (dig xs) (m + 1) xs.length] at h
  have hlow := vf_bd (b := D) (by decide) (fun j => dig_bd (b := D) (by decide) hd j) m
  generalize vf D (fun j => dig xs (m + 1 + j)) xs.length = hi at h
  simp only [vf] at h
  rw [h]
  have e1 : (2 : Int) ^ (16 * m + r) = D ^ m * 2 ^ r := by rw [Int.pow_add, D_pow]
  have e2 : D ^ (m + 1) = D ^ m * D := Int.pow_succ _ _
  have e3 : D = 2 ^ r * 2 ^ (15 - r) * 2 := by
    rw [← Int.pow_add, show r + (15 - r) = 15 by omega]; decide
  have hp := pow_pos' D_two m
  have hp2 : (0 : Int) < 2 ^ r := Int.pow_pos (by decide)
  have e4 : vf D (dig xs) m + dig xs m * D ^ m + D ^ (m + 1) * hi = vf D (dig xs) m + D ^ m * (dig xs m + D * hi) := by rw [e2]; grind
  rw [e4, e1, ← Int.ediv_ediv_of_nonneg (Int.le_of_lt hp), Int.add_mul_ediv_left _ _ (Int.ne_of_gt hp), Int.ediv_eq_zero_of_lt hlow.1 hlow.2, Int.zero_add]
  have e5 : dig xs m + D * hi = dig xs m + 2 ^ r * (2 * (2 ^ (15 - r) * hi)) := by
    have : D * hi = 2 ^ r * (2 * (2 ^ (15 - r) * hi)) := by
      conv => lhs; rw [e3]
      generalize (2 : Int) ^ r = p
      generalize (2 : Int) ^ (15 - r) = q
      grind
    rw [this]
  rw [e5, Int.add_mul_ediv_left _ _ (Int.ne_of_gt hp2), Int.add_mul_emod_self_left]
def RtR (t : Int) (r : Nat) (x k : Value) : Prop := ∃ (j : Nat) (y : Int), j ≤ r ∧ k = .int .i64 j ∧ x = .int .i64 y ∧ y = t / 2 ^ j ∧ 0 ≤ y ∧ y ≤ 65535
set_option maxHeartbeats 1000000 in
theorem rbit_any {A : Option Addr} {n c : Nat} {N : Int} {w : World} (h : Rn w A n c N) (hn : n ≤ 100000) (i : Int) (i1 : i ≤ 9223372036854775807) :
    Calls Tryz.prog 76 #[.slice A n c, .int .i64 i] w fun e w' => e = .returned (.bool (bt N i)) ∧ w = w' := by
  by_cases hi : i < 0
  · have e : bt N i = false := by unfold bt; simp; omega
    rw [e]
    clear e
    go_enter Tryz.func76, Tryz.ntmps76
    go_wp2
    go_ret
    exact ⟨rfl, rfl⟩
  · obtain ⟨k, rfl⟩ := Int.eq_ofNat_of_zero_le (show 0 ≤ i by omega)
    have hXd := dig_dg D_two h.pos
    have hsp := rsplit (xs := dg D N) (m := k / 16) (r := k % 16) hXd (by omega)
    rw [show 16 * (k / 16) + k % 16 = k by omega, val_dg D_two h.pos] at hsp
    have e : bt N k = decide (dig (dg D N) (k / 16) / 2 ^ (k % 16) % 2 = 1) := by
      unfold bt; rw [Int.toNat_natCast, hsp]; simp
    rw [e]
    clear e hsp hi
    rcases Nat.lt_or_ge (k / 16) n with hlt | hge
    · obtain ⟨b, off, x, rfl, hb, hxx, hcell⟩ := h.rd.at_ hlt
      rw [dig_lt hxx]
      have hd := dig_D hXd (k / 16)
      rw [dig_lt hxx] at hd
      have hkk : (k : Int) / 16 < (n : Int) := by omega
      have hr : k % 16 ≤ 15 := by omega
      clear hxx
      go_enter Tryz.func76, Tryz.ntmps76
      go_wp2_with fail
      go_loop [5, 6] (fun x' j => RtR x (k % 16) x' j) (fun _ j => k % 16 - (intOf j).toNat)
      case atStart => exact ⟨0, x, by omega, rfl, rfl, by simp, hd.1, by omega⟩
      case round =>
        obtain ⟨j, y, hj, rfl, rfl, hy, y0, y1⟩ := hrel
        have HY := Lib.hid hy
        clear hy
        rcases Nat.lt_or_ge j (k % 16) with q | q
        · have q' : (j : Int) < (k : Int) % 16 := by omega
          go_wp2
          go_round
          case rel => exact ⟨j + 1, _, by omega, by go_num, rfl, by rw [HY.out]; exact half_half, by omega, by omega⟩
          case measure => simp [intOf]; omega
        · obtain rfl : j = k % 16 := by omega
          go_wp2
          go_ret
          exact ⟨congrArg (fun b => Ending.returned (.bool b)) (by rw [← HY.out]; simp [BEq.beq]), rfl⟩
    · rw [dig_ge (by rw [h.rd.len]; exact hge)]
      have hkk : (n : Int) ≤ (k : Int) / 16 := by omega
      go_enter Tryz.func76, Tryz.ntmps76
      go_wp2
      go_ret
      exact ⟨by simp, rfl⟩
end Go.Proofs.YtjalncdllegfoaaGreatDoor
/-
  What the document's Cmp answers, in the form of the laws' walks.
-/
namespace Go.Proofs.YtjalncdllegfoaaGreatDoor
open Go.RowKit
set_option linter.unusedVariables false
theorem rcmp_v {A A' : Option Addr} {n c n' c' : Nat} {N M : Int} {w : World} (h : Rn w A n c N) (h' : Rn w A' n' c' M) (hn : n ≤ 100000) (hn' : n' ≤ 100000) :
    Calls Tryz.prog 44 #[.slice A n c, .slice A' n' c'] w (AnsV (.int .i64 (cmpI N M)) w) :=
  (rcmp_any h h' hn hn').mono fun e w' ⟨he, q, hq⟩ => ⟨he, hq ▸ below_drewN (Below.refl _ _) q⟩
end Go.Proofs.YtjalncdllegfoaaGreatDoor
/-
  The document's own quotient and rest: what treenailref01.double and Div answer.
-/
namespace Go.Proofs.YtjalncdllegfoaaGreatDoor
open Go.RowKit
set_option linter.unusedVariables false
theorem Rn.nil (w : World) : Rn w none 0 0 0 := ⟨by rw [dg_zero]; exact Rd.nil _ _ _, Nat.le_refl _, by omega, Int.le_refl _⟩
theorem dgD_one {x : Int} (h0 : 1 ≤ x) (h1 : x < D) : dg D x = [x] := by
  rw [dg_pos D_two (by omega), Int.emod_eq_of_lt (by omega) h1, Int.ediv_eq_zero_of_lt (by omega) h1, dg_zero]
theorem rlit (w : World) {x : Int} (h0 : 1 ≤ x) (h1 : x < D) : Rn (w.alloc (.cells #[.int .i64 x] 3)) (some ⟨w.heap.size, 0, none⟩) 1 1 x := by
  have hr : Row (w.alloc (.cells #[.int .i64 x] 3)) w.heap.size 3 .i64 [x] := Row.new w 3 .i64 [x]
  exact ⟨by rw [dgD_one h0 h1]; exact hr.rd rfl (fun j y hy => by rwa [Nat.zero_add]), Nat.le_refl _, by omega, by omega⟩
/-- Twice, and one more. -/
def dbl (N : Int) (b : Bool) : Int := 2 * N + if b then 1 else 0
theorem dr_mono {N M : Int} (h0 : 0 ≤ N) (h : N ≤ M) : dr N ≤ dr M := dg_len_mono D_two h0 h
theorem double_any {A : Option Addr} {n c : Nat} {N : Int} {w : World} (h : Rn w A n c N) (hn : n ≤ 90000) (b : Bool) (hd : dr (2 * N) ≤ 90000) :
    Calls Tryz.prog 77 #[.slice A n c, .bool b] w (AnsN (dbl N b) w) := by
  cases b with
  | false =>
    have e : dbl N false = N + N := by unfold dbl; simp; omega
    rw [e]
    clear e
    go_enter Tryz.func77, Tryz.ntmps77
    go_wp2_with fail
    refine (radd_any h h (by omega) (by omega)).mono ?_
    rintro e w1 ⟨B, m, cap, rfl, k1, b1⟩
    go_wp2
    go_ret
    exact ⟨B, m, cap, rfl, k1, b1⟩
  | true =>
    have e : dbl N true = (N + N) + 1 := by unfold dbl; simp; omega
    rw [e]
    clear e
    have e2 : N + N = 2 * N := by omega
    go_enter Tryz.func77, Tryz.ntmps77
    clear e2
    go_wp2_with fail
    refine (radd_any h h (by omega) (by omega)).mono ?_
    rintro e w1 ⟨B, m, cap, rfl, k1, b1⟩
    have hm : m ≤ 100000 := by have := k1.len_; rw [show N + N = 2 * N by omega] at this; omega
    go_wp2_with fail
    refine (radd_any (k1.below ((Below.refl _ _).alloc (Nat.le_refl _) _)) (rlit w1 (x := 1) (by decide) (by decide)) hm (by omega)).mono ?_
    rintro e w2 ⟨B2, m2, cap2, rfl, k2, b2⟩
    have b3 := b1.trans ((below_one b2).mono b1.size)
    go_wp2
    go_ret
    exact ⟨B2, m2, cap2, rfl, k2, b3⟩
def RdR (N M : Int) (w : World) (q r i : Value) (wr : World) : Prop :=
  ∃ (k : Nat) (v Q R : Int) (B : Option Addr) (m cap : Nat) (B' : Option Addr) (m' cap' : Nat), i = .int .i64 v ∧ v = (k : Int) - 1 ∧ k ≤ nb N ∧ q = .slice B m cap ∧ r = .slice B' m' cap' ∧ Rn wr B m cap Q ∧ Rn wr B' m' cap' R ∧ R < M ∧ Q * M + R = N / 2 ^ k ∧ Below w.heap.size w wr
def QRN (Q R : Int) (w : World) (e : Ending) (w' : World) : Prop :=
  ∃ B m cap B' m' cap', e = .returned (.tuple #[.slice B m cap, .slice B' m' cap']) ∧ Rn w' B m cap Q ∧ Rn w' B' m' cap' R ∧ Below w.heap.size w w'
theorem rdiv_fin {N M Q R : Int} (h : Q * M + R = N) (r0 : 0 ≤ R) (r1 : R < M) : Q = N / M ∧ R = N % M := by
  have e : N = R + M * Q := by rw [Int.mul_comm]; omega
  rw [e]
  refine ⟨?_, ?_⟩
  · rw [Int.add_mul_ediv_left _ _ (by omega), Int.ediv_eq_zero_of_lt r0 r1]; simp
  · rw [Int.add_mul_emod_self_left, Int.emod_eq_of_lt r0 r1]
set_option maxHeartbeats 8000000 in
theorem rdiv_any {A A' : Option Addr} {n c n' c' : Nat} {N M : Int} {w : World} (h : Rn w A n c N) (h' : Rn w A' n' c' M) (hn : n ≤ 1000) (hn' : n' ≤ 1000) (hM : 0 < M) :
    Calls Tryz.prog 43 #[.slice A n c, .slice A' n' c'] w (QRN (N / M) (N % M) w) := by
  have n0 := h.pos
  have hnl := h.len_
  have hml := h'.len_
  have hN1 : N < D ^ 1000 := dg_lt_pow D_two n0 (by have : (dg D N).length = dr N := rfl; omega)
  have hM1 : M < D ^ 1000 := dg_lt_pow D_two (show 0 ≤ M by omega) (by have : (dg D M).length = dr M := rfl; omega)
  have hlim : ∀ x : Int, 0 ≤ x → x ≤ 4 * N + 4 * M → dr x ≤ 1001 := fun x h0 h1 => dg_len_le D_two h0 (by
    have e : D ^ 1001 = D ^ 1000 * D := Int.pow_succ _ _
    have : D ^ 1000 * 8 ≤ D ^ 1000 * D := Int.mul_le_mul_of_nonneg_left (by decide) (Int.le_of_lt (pow_pos' D_two 1000))
    generalize D ^ 1000 = p at *
    omega)
  have HLIM := Lib.hid hlim
  clear hlim hN1 hM1 hnl hml
  have hnb : nb N ≤ 16000 := by
    refine dg_len_le (by decide) n0 ?_
    have := dg_lt_pow D_two n0 (show (dg D N).length ≤ 1000 by have := h.rd.len; omega)
    rw [D_pow] at this
    exact this
  go_enter Tryz.func43, Tryz.ntmps43
  go_wp2_with fail
  refine (rbits_any h (by omega)).mono ?_
  rintro e w1 ⟨rfl, rfl⟩
  go_wp2_with fail
  go_loopw [6, 7, 8] (fun q r i wr => RdR N M w q r i wr) (fun _ _ i _ => (intOf i + 1).toNat)
  case atStart => exact ⟨nb N, _, 0, 0, none, 0, 0, none, 0, 0, rfl, rfl, Nat.le_refl _, rfl, rfl, Rn.nil _, Rn.nil _, hM, by rw [Int.ediv_eq_zero_of_lt n0 (nb_lt n0)]; simp, Below.refl _ _⟩
  case round =>
    obtain ⟨k, v, Q, R, B, m, cap, B', m', cap', rfl, hv, hk, rfl, rfl, kq, kr, r1, hs, hb⟩ := hrel
    have HS := Lib.hid hs
    clear hs
    rcases Nat.eq_zero_or_pos k with g | g
    · subst g
      obtain rfl : v = -1 := by omega
      have hs2 : Q * M + R = N := by have := HS.out; simpa using this
      obtain ⟨rfl, rfl⟩ := rdiv_fin hs2 kr.pos r1
      clear hv hk hs2
      go_wp2
      go_ret2
      exact ⟨_, _, _, _, _, _, rfl, kq, kr, hb⟩
    · obtain ⟨j, rfl⟩ : ∃ j, k = j + 1 := ⟨k - 1, by omega⟩
      obtain rfl : v = (j : Int) := by omega
      have hstep := half_step (N := N) (j := j)
      rw [bt_val] at hstep
      have hq0 := kq.pos
      have hr0 := kr.pos
      have hQM : Q ≤ Q * M := by have := Int.mul_le_mul_of_nonneg_left (show (1 : Int) ≤ M by omega) hq0; omega
      have hle1 : N / 2 ^ (j + 1) ≤ N := Int.ediv_le_self _ n0
      have hle2 : N / 2 ^ j ≤ N := Int.ediv_le_self _ n0
      have hQ : Q ≤ N := by have := HS.out; omega
      have s1 : m ≤ 90000 := by have := kq.len_; have := HLIM.out Q hq0 (by omega); omega
      have s2 : m' ≤ 90000 := by have := kr.len_; have := HLIM.out R hr0 (by omega); omega
      have s3 : dr (2 * R) ≤ 90000 := by have := HLIM.out (2 * R) (by omega) (by omega); omega
      have s4 : dr (2 * Q) ≤ 90000 := by have := HLIM.out (2 * Q) (by omega) (by omega); omega
      have dR0 : 0 ≤ dbl R (bt N (j : Int)) := by unfold dbl; split <;> omega
      have dR1 : dbl R (bt N (j : Int)) ≤ 2 * M - 1 := by unfold dbl; split <;> omega
      have s5 : dr (dbl R (bt N (j : Int))) ≤ 100000 := by have := HLIM.out _ dR0 (by omega); omega
      have hmain : 2 * Q * M + dbl R (bt N (j : Int)) = N / 2 ^ j := by
        unfold dbl
        rw [hstep, ← HS.out]
        have e : 2 * Q * M = 2 * (Q * M) := Int.mul_assoc _ _ _
        rw [e]
        omega
      have HMAIN := Lib.hid hmain
      have hj : (j : Int) ≤ 16000 := by omega
      clear hv hstep hQM hle1 hle2 hQ hmain
      go_wp2_with fail
      refine (rbit_any (h.below hb) (by omega) (j : Int) (by omega)).mono ?_
      rintro e w2 ⟨rfl, rfl⟩
      go_wp2_with fail
      refine (double_any kr s2 (bt N (j : Int)) s3).mono ?_
      rintro e w2 ⟨B2, m2, p2, rfl, k2, b2⟩
      have b2' := hb.trans (b2.mono hb.size)
      have kq2 := kq.below b2
      have z2 : m2 ≤ 100000 := by have := k2.len_; omega
      go_wp2_with fail
      refine (rcmp_v k2 (h'.below b2') z2 (by omega)).mono ?_
      rintro e w3 ⟨rfl, b3⟩
      have b3' := b2'.trans (b3.mono b2'.size)
      have kq3 := kq2.below b3
      have k3 := k2.below b3
      clear kq2 k2 b2 b3 b2' kq kr
      obtain ⟨R2, hR2⟩ : ∃ R2, dbl R (bt N (j : Int)) = R2 := ⟨_, rfl⟩
      rw [hR2] at k3 dR0 dR1 s5 HMAIN
      by_cases hge : M ≤ R2
      · have t1 : decide (0 ≤ cmpI (dbl R (bt N (j : Int))) M) = true := by
          rw [hR2]
          rcases Int.lt_or_eq_of_le hge with q | q
          · rw [cmpI_gt q]; rfl
          · rw [q, cmpI_eq]; rfl
        have HR2 := Lib.hid hR2
        clear hR2
        go_wp2_with fail
        refine (rsub_any k3 (h'.below b3') (by have := k3.len_; omega) hge).mono ?_
        rintro e w4 ⟨B4, m4, p4, rfl, k4, b4⟩
        have b4' := b3'.trans (b4.mono b3'.size)
        have kq4 := kq3.below b4
        go_wp2_with fail
        refine (double_any kq4 s1 true s4).mono ?_
        rintro e w5 ⟨B5, m5, p5, rfl, k5, b5⟩
        have b5' := b4'.trans (b5.mono b4'.size)
        have k4' := k4.below b5
        have hfin : dbl Q true * M + (R2 - M) = N / 2 ^ j := by
          rw [← HMAIN.out]; unfold dbl; simp only [if_true]; rw [Int.add_mul]; omega
        have HFIN := Lib.hid hfin
        clear hfin kq3 k3 kq4 k4 b4 b5 b3' b4' t1
        go_wp2
        go_roundw
        case rel => exact ⟨j, _, _, _, _, _, _, _, _, _, rfl, rfl, by omega, rfl, rfl, k5, k4', by omega, HFIN.out, b5'⟩
        case measure => simp [intOf]
      · have hlt : R2 < M := by omega
        have t1 : decide (0 ≤ cmpI (dbl R (bt N (j : Int))) M) = false := by rw [hR2, cmpI_lt hlt]; rfl
        have HR2 := Lib.hid hR2
        clear hR2 hge
        go_wp2_with fail
        refine (double_any kq3 s1 false s4).mono ?_
        rintro e w5 ⟨B5, m5, p5, rfl, k5, b5⟩
        have b5' := b3'.trans (b5.mono b3'.size)
        have k3' := k3.below b5
        have hfin : dbl Q false * M + R2 = N / 2 ^ j := by
          rw [← HMAIN.out]; unfold dbl; simp
        have HFIN := Lib.hid hfin
        clear hfin kq3 k3 b5 b3' t1
        go_wp2
        go_roundw
        case rel => exact ⟨j, _, _, _, _, _, _, _, _, _, rfl, rfl, by omega, rfl, rfl, k5, k3', hlt, HFIN.out, b5'⟩
        case measure => simp [intOf]
end Go.Proofs.YtjalncdllegfoaaGreatDoor
/-
  The document's own rest; a number of theirs as digits of 64 bits; digits of 64 bits as a number of theirs.
-/
namespace Go.Proofs.YtjalncdllegfoaaGreatDoor
open Go.RowKit
set_option linter.unusedVariables false
def AnsCn (N : Int) (w : World) (e : Ending) (w' : World) : Prop := ∃ B m cap, e = .returned (.slice B m cap) ∧ Cn w' B m cap N ∧ Below w.heap.size w w'
theorem dl_dr {N : Int} (h : 0 ≤ N) : dl N ≤ dr N := by
  refine dl_le h ?_
  have h1 := dg_lt_pow D_two h (Nat.le_refl (dr N))
  rw [W_D]
  exact Int.lt_of_lt_of_le h1 (pow_mono (by decide) (by omega))
theorem to_cn {A : Option Addr} {n c : Nat} {N : Int} {w : World} (h : Rn w A n c N) (hn : n ≤ 100000) :
    Calls Tryz.prog 29 #[.slice A n c] w (AnsCn N w) :=
  (to_any2 h hn).mono fun e w' ⟨B, m, cap, he, hr, hc, hb⟩ => ⟨B, m, cap, he, ⟨hr, hc, by have h1 := hr.len; have h2 := dl_dr h.pos; have h3 := h.len_; have h4 : (dg W N).length = dl N := rfl; omega, h.pos⟩, hb⟩
theorem below_one_ (w : World) (o : Obj) : Below w.heap.size w (w.alloc o) := (Below.refl _ _).alloc (Nat.le_refl _) _
theorem rrest_any {A A' : Option Addr} {n c n' c' : Nat} {N M : Int} {w : World} (h : Rn w A n c N) (h' : Rn w A' n' c' M) (hn : n ≤ 1000) (hn' : n' ≤ 1000) (hM : 0 < M) :
    Calls Tryz.prog 55 #[.slice A n c, .slice A' n' c'] w (AnsN (N % M) w) := by
  go_enter Tryz.func55, Tryz.ntmps55
  go_wp2_with fail
  refine (rdiv_any h h' hn hn' hM).mono ?_
  rintro e w1 ⟨B, m, cap, B', m', cap', rfl, -, k2, b1⟩
  go_wp2
  go_ret
  exact ⟨_, _, _, rfl, k2, b1⟩
theorem dr_rest {N M : Int} (hM : 0 < M) : dr (N % M) ≤ dr M := dr_mono (Int.emod_nonneg _ (by omega)) (Int.le_of_lt (Int.emod_lt_of_pos _ hM))
theorem of_nm {A : Option Addr} {n c : Nat} {N : Int} {w : World} (h : Nm w A n c N) (hn : n ≤ 1000) : Calls Tryz.prog 25 #[.slice A n c] w (AnsN N w) := by
  obtain ⟨⟨xs, h1, h2, h3⟩, -, -, -⟩ := h
  have := of_any A n c xs w h1 h2 hn
  rwa [h3] at this
end Go.Proofs.YtjalncdllegfoaaGreatDoor
/-
  The document's own products and quotients: what treenailref01.Mul, double and Div answer.
-/
namespace Go.Proofs.YtjalncdllegfoaaGreatDoor
open Go.RowKit
set_option linter.unusedVariables false
/-- The number that n digits of 16 bits from off on are. -/
def wd (zs : List Int) (off n : Nat) : Int := vf D (fun j => dig zs (off + j)) n
theorem wd_set {zs : List Int} {off k : Nat} (hk : off + k < zs.length) (v : Int) : wd (zs.set (off + k) v) off (k + 1) = wd zs off k + v * D ^ k := by
  unfold wd
  simp only [vf]
  rw [dig_set_same hk, vf_congr D (g := fun j => dig zs (off + j)) (fun j hj => dig_set_ne (by omega))]
theorem vf_windowD {rs ys : List Int} {j n t : Nat} (hr : ∀ i, i < j ∨ j + n ≤ i → dig ys i = dig rs i) (ht : j + n ≤ t) : vf D (dig ys) t - vf D (dig rs) t = D ^ j * (wd ys j n - wd rs j n) := by
  have a := vf_split D (dig ys) j n
  have b := vf_split D (dig rs) j n
  have c := vf_same D (f := dig ys) (g := dig rs) (k := j + n) ht (fun i hi => hr i (.inr hi))
  have d := vf_congr D (f := dig ys) (g := dig rs) (k := j) (fun i hi => hr i (.inl hi))
  have ea : vf D (fun i => dig ys (j + i)) n = wd ys j n := rfl
  have eb : vf D (fun i => dig rs (j + i)) n = wd rs j n := rfl
  rw [ea] at a
  rw [eb] at b
  rw [Int.mul_sub]
  omega
theorem rm_step {zs ys Y : List Int} {i k : Nat} {x c d c' : Int} (hk : i + k < ys.length) (hr : dig ys (i + k) = dig zs (i + k)) (e : d + c' * 65536 = dig ys (i + k) + x * dig Y k + c)
    (h : wd ys i k + c * D ^ k = wd zs i k + x * vf D (dig Y) k) : wd (ys.set (i + k) d) i (k + 1) + c' * D ^ (k + 1) = wd zs i (k + 1) + x * vf D (dig Y) (k + 1) := by
  rw [wd_set hk]
  have e2 : D ^ (k + 1) = D ^ k * 65536 := Int.pow_succ _ _
  have e3 : wd zs i (k + 1) = wd zs i k + dig zs (i + k) * D ^ k := rfl
  rw [e2, e3, ← hr]
  simp only [vf]
  generalize wd ys i k = a at *
  generalize wd zs i k = b at *
  generalize vf D (dig Y) k = y at *
  generalize D ^ k = p at *
  generalize dig ys (i + k) = z at *
  generalize dig Y k = q at *
  grind
def RmI (zs Y : List Int) (x : Int) (i n' T : Nat) (w : World) (c k : Value) (wr : World) : Prop :=
  ∃ (j : Nat) (cr : Int) (ys : List Int), j ≤ n' + 1 ∧ k = .int .i64 j ∧ c = .int .i64 cr ∧ 0 ≤ cr ∧ cr ≤ 65535 ∧ (n' < j → cr = 0) ∧ Row wr w.heap.size 3 .i64 ys ∧ ys.length = T ∧ Dig D ys ∧ (∀ q, q < i ∨ i + j ≤ q → dig ys q = dig zs q) ∧
    wd ys i j + cr * D ^ j = wd zs i j + x * vf D (dig Y) j ∧ Below w.heap.size w wr
def RmO (X : List Int) (M : Int) (n n' T : Nat) (w : World) (k : Value) (wr : World) : Prop :=
  ∃ (i : Nat) (zs : List Int), i ≤ n ∧ k = .int .i64 i ∧ Row wr w.heap.size 3 .i64 zs ∧ zs.length = T ∧ Dig D zs ∧ (∀ q, i + n' ≤ q → dig zs q = 0) ∧ vf D (dig zs) T = vf D (dig X) i * M ∧ Below w.heap.size w wr
theorem made3 (n : Nat) : madeCells (Value.cells (.int .i64 0)) (n * 1) = ((List.replicate n 0).map (Value.int .i64)).toArray := by
  apply Array.ext'
  rw [Nat.mul_one]
  show (madeCells #[Value.int .i64 0] n).toList = _
  rw [toList_madeCells_one]; simp
theorem run_make3 (n : Nat) {C : Int} (hC : C = n) (hn : n ≤ 35184372088832) (w : World) : (Instr.makeSlice 70 (.int .i64 C) (.int .i64 C)).run Tryz.prog w =
    .ok (.slice (some ⟨w.heap.size, 0, none⟩) n n) (w.alloc (.cells ((List.replicate n 0).map (Value.int .i64)).toArray 3)) := by
  subst hC
  obtain ⟨i0, hi, hz0, hz1, hz2⟩ := info_parts info3
  have hr := run_make (P := Tryz.prog) w 70 3 i0 (.int .i64 0) Tryz.underlying70 hi hz0 .i64 .i64 n n (by omega) (by omega) (by rw [hz2]; omega) (by omega)
  rw [hz1, made3] at hr
  simpa using hr
set_option maxHeartbeats 8000000 in
theorem rmul_any {A A' : Option Addr} {n c n' c' : Nat} {N M : Int} {w : World} (h : Rn w A n c N) (h' : Rn w A' n' c' M) (hn : n ≤ 10000) (hn' : n' ≤ 10000) :
    Calls Tryz.prog 46 #[.slice A n c, .slice A' n' c'] w (AnsN (N * M) w) := by
  have dX := dig_D (dig_dg D_two h.pos)
  have dY := dig_D (dig_dg D_two h'.pos)
  have DX := Lib.hid dX
  have DY := Lib.hid dY
  clear dX dY
  obtain ⟨T, hT⟩ : ∃ T, T = n + n' + 1 := ⟨_, rfl⟩
  have hmk := fun W => run_make3 T (C := (n : Int) + (n' : Int) + 1) (by omega) (by omega) W
  obtain ⟨Z, hZ⟩ : ∃ Z : List Int, Z = List.replicate T 0 := ⟨_, rfl⟩
  rw [← hZ] at hmk
  have HZ := Lib.hid hZ
  have HT := Lib.hid hT
  have hT1 : n + n' < T := by omega
  have hT2 : T ≤ 20001 := by omega
  clear hZ hT
  go_enter Tryz.func46, Tryz.ntmps46
  go_wp2_with fail
  clear hmk
  go_loopw [6] (fun k wr => RmO (dg D N) M n n' T w k wr) (fun k _ => n - (intOf k).toNat)
  case atStart =>
    refine ⟨0, Z, Nat.zero_le _, rfl, Row.new _ _ _ _, by rw [HZ.out]; simp, by rw [HZ.out]; intro x hx; simp at hx; rw [hx.2]; exact ⟨by decide, by decide⟩, fun q _ => by rw [HZ.out]; exact dig_replicate _ _, ?_, (Below.refl _ _).alloc (Nat.le_refl _) _⟩
    rw [HZ.out, vf_zero D (k := 0) (Nat.zero_le _) (fun j _ => dig_replicate _ j)]; simp [vf]
  case round =>
    obtain ⟨i, zs, hi, rfl, hrow, hzl, hzd, hz, hv, hb⟩ := hrel
    have HV := Lib.hid hv
    have HZE := Lib.hid hz
    have HZL := Lib.hid hzl
    clear hv hz
    rcases Nat.lt_or_ge i n with hlt | hge
    · obtain ⟨ba, oa, x, rfl, hba, hxx, hcx⟩ := h.rd.at_ hlt
      have hxe := dig_lt hxx
      have dx := DX.out i
      rw [hxe] at dx
      have HXE := Lib.hid hxe
      clear hxx hxe hzl
      obtain ⟨wo, hwo⟩ : ∃ wo : World, wo = wr := ⟨_, rfl⟩
      go_wp2_with fail
      subst hwo
      go_loopw [7, 8] (fun c k wr => RmI zs (dg D M) x i n' T w c k wr) (fun _ k _ => n' + 2 - (intOf k).toNat)
      case atStart => exact ⟨0, 0, zs, by omega, rfl, rfl, Int.le_refl _, by decide, fun h => absurd h (by omega), hrow, HZL.out, hzd, fun _ _ => rfl, by simp [wd, vf], hb⟩
      case round =>
        obtain ⟨j, cr, ys, hj, rfl, rfl, c0, c1, hcz, yr, yl, yd, yo, yv, hb2⟩ := hrel
        have HCZ := Lib.hid hcz
        have HYO := Lib.hid yo
        have HYV := Lib.hid yv
        have HYL := Lib.hid yl
        clear hcz yo yv
        by_cases hstop : n' ≤ j ∧ cr = 0
        · obtain ⟨q1, rfl⟩ := hstop
          have hsum : vf D (dig ys) T = vf D (dig (dg D N)) (i + 1) * M := by
            have a := vf_windowD (rs := zs) (ys := ys) (j := i) (n := j) (t := T) HYO.out (by have := HT.out; omega)
            have b := HYV.out
            rw [val_dr h'.pos (by rw [← h'.len_]; exact q1)] at b
            simp only [Int.zero_mul, Int.add_zero] at b
            rw [b, HV.out] at a
            simp only [vf]
            rw [HXE.out]
            have e : wd zs i j + x * M - wd zs i j = x * M := by omega
            rw [e] at a
            generalize D ^ i = p at *
            generalize vf D (dig (dg D N)) i = u at *
            grind
          have HSUM := Lib.hid hsum
          clear hsum yl
          go_wp2
          go_roundw
          case rel => exact ⟨i + 1, ys, by omega, by go_num, yr, HYL.out, yd, fun q hq => by rw [HYO.out q (.inr (by omega))]; exact HZE.out q (by omega), HSUM.out, hb2⟩
          case measure => simp [intOf]; omega
        · have hjn : j ≤ n' := by
            rcases Nat.lt_or_ge n' j with g | g
            · exfalso; exact hstop ⟨by omega, HCZ.out g⟩
            · exact g
          have dy := DY.out j
          obtain ⟨y, hy⟩ : ∃ y, dig (dg D M) j = y := ⟨_, rfl⟩
          rw [hy] at dy
          have dz := dig_D yd (i + j)
          have cz := yr.cell (getElem?_dig (show i + j < ys.length by omega))
          have fz := yr.frozen (i + j)
          obtain ⟨z, hz⟩ : ∃ z, dig ys (i + j) = z := ⟨_, rfl⟩
          rw [hz] at dz cz
          obtain ⟨p, hp⟩ : ∃ p, x * y = p := ⟨_, rfl⟩
          have p0 : 0 ≤ p := by rw [← hp]; exact Int.mul_nonneg dx.1 dy.1
          have p1 : p ≤ 4294836225 := by
            have := Int.mul_le_mul (show x ≤ 65535 by omega) (show y ≤ 65535 by omega) dy.1 (by decide)
            rw [hp] at this; omega
          have hcnew : n' < j + 1 → (z + p + cr) / 65536 = 0 := by
            intro g
            have e1 : y = 0 := by rw [← hy]; exact dig_ge (by rw [h'.rd.len]; omega)
            have e2 : z = 0 := by rw [← hz, HYO.out (i + j) (.inr (Nat.le_refl _))]; exact HZE.out _ (by omega)
            have e3 : p = 0 := by rw [← hp, e1]; simp
            omega
          have HST := Lib.hid (rm_step (x := x) (d := (z + p + cr) % 65536) (c' := (z + p + cr) / 65536) (show i + j < ys.length by omega) (HYO.out _ (.inr (Nat.le_refl _))) (by rw [hz, hy, hp]; omega) HYV.out)
          have HCN := Lib.hid hcnew
          have HA1 := Lib.hid (fun W' (hh : Rd .i64 W' A' n' (dg D M)) => at_any A' n' c' (dg D M) j W' hh)
          have hrdb := h'.rd.below hb2
          have hcx2 := (hb2.cell (p := ⟨ba, oa + i, none⟩) hba).trans hcx
          rw [hy] at HA1
          have g1 : IntKind.i64.wrap ((i : Int) + (j : Int)) = (i : Int) + (j : Int) := IntWalk.i64_in _ (by omega)
          have g2 : 0 ≤ (i : Int) + (j : Int) := by omega
          have g3 : ((i : Int) + (j : Int)).toNat = i + j := by omega
          have g4 : (i : Int) + (j : Int) < (T : Int) := by omega
          have g5 : IntKind.i64.wrap (x * y) = p := by rw [hp]; exact IntWalk.i64_in _ (by omega)
          have g6 : IntKind.i64.wrap (z + p) = z + p := IntWalk.i64_in _ (by omega)
          have g7 : IntKind.i64.wrap (z + p + cr) = z + p + cr := IntWalk.i64_in _ (by omega)
          have g8 : (i : Int) < (n : Int) := by omega
          have hT3 : i + j < T := by omega
          clear hcnew hy hz hp yl
          rcases Nat.lt_or_ge j n' with q1 | q1
          · clear hstop
            go_wp2_with fail
            go_quiet ((go_at_call 79; exact quiet_one (HA1.out _ (hrdb.drewN _))))
            clear g1 g2 g3 g5 g6 g7
            go_wp2
            go_roundw
            case rel => exact ⟨j + 1, _, _, by omega, by go_num, rfl, by omega, by omega, HCN.out, (yr.set _ _).drewN _, by simpa using HYL.out, yd.set (by omega) (by unfold D; omega) _, fun q hq => by rw [dig_set_ne (by omega)]; exact HYO.out q (by omega), HST.out, below_drewN (hb2.setCell (Nat.le_refl _) _) _⟩
            case measure => simp [intOf]; omega
          · have q3 : 0 < cr := by
              rcases Int.lt_or_le 0 cr with g | g
              · exact g
              · exfalso; exact hstop ⟨q1, by omega⟩
            clear hstop
            go_wp2_with fail
            go_quiet ((go_at_call 79; exact quiet_one (HA1.out _ (hrdb.drewN _))))
            clear g1 g2 g3 g5 g6 g7
            go_wp2
            go_roundw
            case rel => exact ⟨j + 1, _, _, by omega, by go_num, rfl, by omega, by omega, HCN.out, (yr.set _ _).drewN _, by simpa using HYL.out, yd.set (by omega) (by unfold D; omega) _, fun q hq => by rw [dig_set_ne (by omega)]; exact HYO.out q (by omega), HST.out, below_drewN (hb2.setCell (Nat.le_refl _) _) _⟩
            case measure => simp [intOf]; omega
    · obtain rfl : i = n := by omega
      have hval : val D zs = N * M := by
        rw [val_vf D zs (m := T) (by omega), HV.out, val_dr h.pos (by rw [← h.len_]; exact Nat.le_refl _)]
      have hrd : Rd .i64 wr (some ⟨w.heap.size, 0, none⟩) T zs := hrow.rd hzl (fun j x hx => by rwa [Nat.zero_add])
      have HVL := Lib.hid hval
      clear hval hzl
      go_wp2_with fail
      refine (trim_any _ T T zs _ hrd hzd (Nat.le_refl _) (by omega)).mono ?_
      rintro e w1 ⟨rfl, rfl⟩
      go_wp2
      go_ret
      exact ⟨_, _, _, rfl, by have := trim_own hrd hzd (Nat.le_refl T) (by omega); rw [HVL.out] at this; rw [HVL.out]; exact this, hb⟩
end Go.Proofs.YtjalncdllegfoaaGreatDoor
/-
  The document's own rest, power and greatest common divisor; a number of theirs as digits of 64 bits.
-/
namespace Go.Proofs.YtjalncdllegfoaaGreatDoor
open Go.RowKit
set_option linter.unusedVariables false
theorem dr_mul {N M : Int} (h0 : 0 ≤ N) (h1 : 0 ≤ M) : dr (N * M) ≤ dr N + dr M := by
  refine dg_len_le D_two (Int.mul_nonneg h0 h1) ?_
  have a := dg_lt_pow D_two h0 (Nat.le_refl (dr N))
  have b := dg_lt_pow D_two h1 (Nat.le_refl (dr M))
  rw [Int.pow_add]
  have hp := pow_pos' D_two (dr N)
  have hq := pow_pos' D_two (dr M)
  have c1 := Int.mul_le_mul_of_nonneg_left (show M ≤ D ^ dr M by omega) h0
  have c2 := Int.mul_lt_mul_of_pos_right a hq
  omega
/-! ### Gcd -/
def GcR (g : Int) (lim : Nat) (w : World) (a b : Value) (wr : World) : Prop :=
  ∃ N M A n c A' n' c', a = .slice A n c ∧ b = .slice A' n' c' ∧ Rn wr A n c N ∧ Rn wr A' n' c' M ∧ n ≤ lim ∧ n' ≤ lim ∧ (Int.gcd N M : Int) = g ∧ Below w.heap.size w wr
theorem readN_rn {w : World} {A : Option Addr} {n c : Nat} {N : Int} (h : Rn w A n c N) : readN D w (.slice A n c) = N := by
  rw [readN_rd h.rd, val_dg D_two h.pos]
set_option maxHeartbeats 1000000 in
theorem rgcd_any {A A' : Option Addr} {n c n' c' : Nat} {N M : Int} {w : World} (h : Rn w A n c N) (h' : Rn w A' n' c' M) (hn : n ≤ 1000) (hn' : n' ≤ 1000) :
    Calls Tryz.prog 112 #[.slice A n c, .slice A' n' c'] w (AnsN (Int.gcd N M : Nat) w) := by
  go_enter Tryz.func112, Tryz.ntmps112
  go_wp2_with fail
  go_loopw [0, 1] (fun a b wr => GcR (Int.gcd N M : Nat) (max n n') w a b wr) (fun _ b wr => (readN D wr b).toNat)
  case atStart => exact ⟨N, M, _, _, _, _, _, _, rfl, rfl, h, h', by omega, by omega, rfl, Below.refl _ _⟩
  case round =>
    obtain ⟨N1, M1, A1, n1, c1, A2, n2, c2, rfl, rfl, k1, k2, l1, l2, hg, hb⟩ := hrel
    have HG := Lib.hid hg
    clear hg
    have e2 := k2.len_
    rcases Nat.eq_zero_or_pos n2 with g | g
    · subst g
      have hM1 : M1 = 0 := (dg_nil_iff D_two k2.pos).1 e2.symm
      have HM1 := Lib.hid hM1
      clear hM1 e2
      go_wp2
      go_ret
      have := HG.out
      rw [HM1.out, Int.gcd_zero_right] at this
      refine ⟨_, _, _, rfl, ?_, hb⟩
      rw [← this]
      have hp := k1.pos
      rw [Int.natAbs_of_nonneg hp]
      exact k1
    · have hM1 : 0 < M1 := by
        rcases Int.lt_or_eq_of_le k2.pos with h1 | h1
        · exact h1
        · have := (dg_nil_iff D_two k2.pos).2 h1.symm
          have h2 : (dg D M1).length = dr M1 := rfl
          omega
      have HR2 := Lib.hid (readN_rn k2)
      have hd := dr_rest (N := N1) hM1
      have hN1 := k1.pos
      have E2 := Lib.hid e2
      clear e2
      go_wp2_with fail
      refine (rrest_any k1 k2 (by omega) (by omega) hM1).mono ?_
      rintro e w1 ⟨B3, n3, c3, rfl, k3, b3⟩
      have k2' := k2.below b3
      have hb3 := hb.trans (b3.mono hb.size)
      have HR3 := Lib.hid (readN_rn k3)
      have hn3 : n3 ≤ max n n' := by have := k3.len_; have := E2.out; omega
      clear b3
      go_wp2
      go_roundw
      case rel =>
        refine ⟨M1, N1 % M1, _, _, _, _, _, _, rfl, rfl, k2', k3, l2, hn3, ?_, hb3⟩
        rw [gcd_step hN1 k2.pos]
        exact HG.out
      case measure =>
        rw [HR2.out, HR3.out]
        have := Int.emod_lt_of_pos N1 hM1
        have := Int.emod_nonneg N1 (show M1 ≠ 0 by omega)
        omega
/-! ### Exp -/
def RxR (A E M : Int) (w : World) (o i : Value) (wr : World) : Prop :=
  ∃ (k : Nat) (v : Int) (B : Option Addr) (n c : Nat), i = .int .i64 v ∧ v = (k : Int) - 1 ∧ k ≤ nb E ∧ o = .slice B n c ∧ Rn wr B n c (A ^ (E / 2 ^ k).toNat % M) ∧ Below w.heap.size w wr
theorem rx_next {A E M : Int} {j : Nat} (h : 0 ≤ E) : A ^ (E / 2 ^ j).toNat % M = (if bt E j = true then (A ^ (E / 2 ^ (j + 1)).toNat % M * (A ^ (E / 2 ^ (j + 1)).toNat % M) % M * (A % M)) % M else A ^ (E / 2 ^ (j + 1)).toNat % M * (A ^ (E / 2 ^ (j + 1)).toNat % M) % M) := by
  have hs := half_step (N := E) (j := j)
  have hv := bt_val (N := E) (j := j)
  have q0 : 0 ≤ E / 2 ^ (j + 1) := Int.ediv_nonneg h (Int.le_of_lt (Int.pow_pos (by decide)))
  generalize E / 2 ^ j = q at *
  generalize E / 2 ^ (j + 1) = t at *
  by_cases g : bt E j = true
  · rw [if_pos g] at hv ⊢
    have e : q.toNat = t.toNat + t.toNat + 1 := by omega
    rw [e, Int.pow_succ, Int.pow_add]
    rw [← Eqm.iff]
    refine Eqm.trans ?_ ((((Eqm.mod M _).symm.mul (Eqm.mod M _).symm).trans (Eqm.mod M _).symm).mul (Eqm.mod M A).symm)
    exact Eqm.refl _ _
  · rw [if_neg g] at hv ⊢
    have e : q.toNat = t.toNat + t.toNat := by omega
    rw [e, Int.pow_add]
    exact Int.mul_emod _ _ _
theorem nb_dr {E : Int} (h : 0 ≤ E) {k : Nat} (hk : dr E ≤ k) : nb E ≤ 16 * k := by
  refine dg_len_le (by decide) h ?_
  have := dg_lt_pow D_two h hk
  rw [D_pow] at this
  exact this
set_option maxHeartbeats 400000 in
theorem rexp_any {A1 A2 A3 : Option Addr} {n1 c1 n2 c2 n3 c3 : Nat} {A E M : Int} {w : World} (ha : Rn w A1 n1 c1 A) (he : Rn w A2 n2 c2 E) (hm : Rn w A3 n3 c3 M) (l1 : n1 ≤ 300) (l2 : n2 ≤ 300) (l3 : n3 ≤ 300) (hM : 0 < M) :
    Calls Tryz.prog 54 #[.slice A1 n1 c1, .slice A2 n2 c2, .slice A3 n3 c3] w (AnsN (A ^ E.toNat % M) w) := by
  have D3 := Lib.hid hm.len_
  have E0 := he.pos
  have L1 := Lib.hid (rlit w (x := 1) (by decide) (by decide))
  have hnb := nb_dr E0 (show dr E ≤ 300 by have := he.len_; omega)
  go_enter Tryz.func54, Tryz.ntmps54
  go_wp2_with fail
  refine (rrest_any L1.out (hm.below (below_one_ _ _)) (by omega) (by omega) hM).mono ?_
  rintro e w1 ⟨B1, m1, p1, rfl, k1, b1⟩
  have b1 := below_one b1
  clear L1
  go_wp2_with fail
  refine (rrest_any (ha.below b1) (hm.below b1) (by omega) (by omega) hM).mono ?_
  rintro e w2 ⟨B2, m2, p2, rfl, k2, b2⟩
  have k1 := k1.below b2
  have b2' := b1.trans (b2.mono b1.size)
  clear b1 b2
  go_wp2_with fail
  refine (rbits_any (he.below b2') (by omega)).mono ?_
  rintro e w2' ⟨rfl, rfl⟩
  have d2 := dr_rest (N := A) hM
  have d3 := D3.out
  have hm2 : m2 ≤ 300 := by have := k2.len_; omega
  have hm1 : m1 ≤ 300 := by have := k1.len_; have := dr_rest (N := 1) hM; omega
  clear d3
  go_wp2_with fail
  go_loopw [7, 9] (fun o i wr => RxR A E M w2 o i wr) (fun _ i _ => (intOf i + 1).toNat)
  case atStart =>
    refine ⟨nb E, _, _, _, _, rfl, by omega, Nat.le_refl _, rfl, ?_, Below.refl _ _⟩
    have e : (E / 2 ^ nb E).toNat = 0 := by rw [Int.ediv_eq_zero_of_lt E0 (nb_lt E0)]; rfl
    rw [e, Int.pow_zero]
    exact k1
  case round =>
    obtain ⟨k, v, B, n, c, rfl, hv, hk, rfl, kO, hb⟩ := hrel
    have b3 := b2'.trans (hb.mono b2'.size)
    rcases Nat.eq_zero_or_pos k with g | g
    · subst g
      obtain rfl : v = -1 := by omega
      clear hv
      go_wp2
      go_ret
      rw [Int.pow_zero, Int.ediv_one] at kO
      exact ⟨_, _, _, rfl, kO, b3⟩
    · obtain ⟨j, rfl⟩ : ∃ j, k = j + 1 := ⟨k - 1, by omega⟩
      obtain rfl : v = j := by omega
      clear hv
      have HN := Lib.hid (rx_next (A := A) (M := M) (j := j) E0)
      have r0 := Int.emod_nonneg (A ^ (E / 2 ^ (j + 1)).toNat) (show M ≠ 0 by omega)
      have dO := dr_rest (N := A ^ (E / 2 ^ (j + 1)).toNat) hM
      have dM : dr M ≤ 300 := by have := D3.out; omega
      generalize A ^ (E / 2 ^ (j + 1)).toNat % M = t at *
      have dtt := dr_mul r0 r0
      have ln := Lib.hid kO.len_
      have hm3 := hm.below b3
      go_wp2_with fail
      refine (rmul_any kO kO (by have := ln.out; omega) (by have := ln.out; omega)).mono ?_
      rintro e w4 ⟨B4, n4, c4, rfl, k4, b4⟩
      have b4' := b3.trans (b4.mono b3.size)
      have hb4 := hb.trans (b4.mono hb.size)
      have hm4 := hm3.below b4
      clear b4 b3 hm3 kO hb
      go_wp2_with fail
      refine (rrest_any k4 hm4 (by have := k4.len_; omega) (by omega) hM).mono ?_
      rintro e w5 ⟨B5, n5, c5, rfl, k5, b5⟩
      have b5' := b4'.trans (b5.mono b4'.size)
      have hb5 := hb4.trans (b5.mono hb4.size)
      have hm5 := hm4.below b5
      have he5 := he.below b5'
      have k25 := k2.below hb5
      clear b5 b4' hm4 k4 hb4
      have d5 := dr_rest (N := t * t) hM
      have t0 := Int.emod_nonneg (t * t) (show M ≠ 0 by omega)
      go_wp2_with fail
      refine (rbit_any he5 (by omega) j (by omega)).mono ?_
      rintro e w5' ⟨rfl, rfl⟩
      by_cases hbt : bt E j = true
      · have hn := HN.out
        rw [if_pos hbt] at hn
        have HN2 := Lib.hid hn
        clear hn HN
        have d6 := dr_mul t0 (Int.emod_nonneg A (show M ≠ 0 by omega))
        have dA := dr_rest (N := A) hM
        go_wp2_with fail
        refine (rmul_any k5 k25 (by have := k5.len_; omega) (by omega)).mono ?_
        rintro e w6 ⟨B6, n6, c6, rfl, k6, b6⟩
        have b6' := b5'.trans (b6.mono b5'.size)
        have hb6 := hb5.trans (b6.mono hb5.size)
        have hm6 := hm5.below b6
        clear b6 b5' hm5 k5 hb5 he5 k25
        go_wp2_with fail
        refine (rrest_any k6 hm6 (by have := k6.len_; omega) (by omega) hM).mono ?_
        rintro e w7 ⟨B7, n7, c7, rfl, k7, b7⟩
        have hb7 := hb6.trans (b7.mono hb6.size)
        go_wp2
        go_roundw
        case rel => exact ⟨j, _, _, _, _, rfl, by omega, by omega, rfl, by rw [HN2.out]; exact k7, hb7⟩
        case measure => simp [intOf]
      · have hbf : bt E j = false := by simpa using hbt
        have hn := HN.out
        rw [if_neg hbt] at hn
        have HN2 := Lib.hid hn
        clear hn HN hbt
        go_wp2
        go_roundw
        case rel => exact ⟨j, _, _, _, _, rfl, by omega, by omega, rfl, by rw [HN2.out]; exact k5, hb5⟩
        case measure => simp [intOf]
end Go.Proofs.YtjalncdllegfoaaGreatDoor
