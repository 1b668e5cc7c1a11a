/-
  The document's own numbers: what To answers.
-/
import Derived.Test.YtbgnjbalojcgkaaGreatDoorOf
namespace Go.Proofs.YtbgnjbalojcgkaaGreatDoor
open Go.RowKit
set_option linter.unusedVariables false
def ToO (X : List Int) (n : Nat) (w : World) (o i : Value) (wr : World) : Prop :=
  ∃ (k : Nat) (u : Int) (L : List Int), i = .int .i64 u ∧ u = 4 * (k : Int) ∧ (0 < k → 4 * (k - 1) < n) ∧ wr.ownsRow w.heap.size 35 1 o k (L.map (Value.int .u64)) ∧ Dig W L ∧ val W L = vf D (dig X) (4 * k) ∧ Below w.heap.size w wr
def ToI (X : List Int) (k : Nat) (w : World) (x j : Value) (wr : World) : Prop :=
  ∃ (r : Nat) (u y : Int), r ≤ 4 ∧ j = .int .i64 u ∧ u = (r : Int) - 1 ∧ x = .int .u64 y ∧ 0 ≤ y ∧ y < D ^ (4 - r) ∧ vf D (fun j => dig X (4 * k + j)) 4 = vf D (fun j => dig X (4 * k + j)) r + y * D ^ r ∧ w = wr
theorem to_step {X : List Int} {k s : Nat} {y S : Int} (h : S = vf D (fun j => dig X (4 * k + j)) (s + 1) + y * D ^ (s + 1)) : S = vf D (fun j => dig X (4 * k + j)) s + (y * 65536 + dig X (4 * k + s)) * D ^ s := by
  rw [h]
  have e : D ^ (s + 1) = D ^ s * 65536 := Int.pow_succ _ _
  simp only [vf]
  rw [e]
  generalize D ^ s = p
  grind
theorem to_bd {y x : Int} {s : Nat} (hs : s + 1 ≤ 4) (h0 : 0 ≤ y) (h : y < D ^ (4 - (s + 1))) (x0 : 0 ≤ x) (x1 : x < 65536) : 0 ≤ y * 65536 + x ∧ y * 65536 + x < D ^ (4 - s) ∧ y < 281474976710656 := by
  have e : D ^ (4 - s) = D ^ (4 - (s + 1)) * 65536 := by
    have : 4 - s = (4 - (s + 1)) + 1 := by omega
    rw [this]; exact Int.pow_succ _ _
  have h3 := pow_mono (b := D) (by decide) (show 4 - (s + 1) ≤ 3 by omega)
  have h4 : D ^ 3 = 281474976710656 := by decide
  rw [e]
  have : (y + 1) * 65536 ≤ D ^ (4 - (s + 1)) * 65536 := Int.mul_le_mul_of_nonneg_right (by omega) (by decide)
  omega
theorem to_sum {X L : List Int} {k : Nat} {y : Int} (hl : L.length = k) (hv : val W L = vf D (dig X) (4 * k)) (h : vf D (fun j => dig X (4 * k + j)) 4 = y) : val W (L ++ [y]) = vf D (dig X) (4 * (k + 1)) := by
  have e : 4 * (k + 1) = 4 * k + 4 := by omega
  rw [val_snoc, hl, hv, e, vf_split D (dig X) (4 * k) 4, h, W_D, Int.mul_comm]
/-- As many digits of 64 bits as those of 16 bits need. -/
theorem to_end {N : Int} {L : List Int} {k : Nat} (hN : 0 ≤ N) (hl : L.length = k) (hd : Dig W L) (hv : val W L = N) (h : 0 < k → 4 * (k - 1) < dr N) : dg W N = L := by
  have e := strip_ex W_two hd
  rw [hv] at e
  have hk : k ≤ (dg W N).length := by
    rcases Nat.eq_zero_or_pos k with g | g
    · omega
    · have h1 := h g
      rcases Nat.lt_or_ge (dg W N).length k with q | q
      · exfalso
        have a := dg_lt_pow W_two hN (show (dg W N).length ≤ k - 1 by omega)
        rw [W_D] at a
        have b := dg_len_le D_two hN a
        have : (dg D N).length = dr N := rfl
        omega
      · exact q
  rw [e, List.take_of_length_le (by omega)]
def AnsL (N : Int) (w : World) (e : Ending) (w' : World) : Prop := ∃ B m cap, e = .returned (.slice B m cap) ∧ Rd .u64 w' B m (dg W N) ∧ Below w.heap.size w w'
/-- A number in new memory that the call owns. -/
def AnsO (N : Int) (w : World) (e : Ending) (w' : World) : Prop := ∃ v n, e = .returned v ∧ w'.ownsRow w.heap.size 35 1 v n ((dg W N).map (Value.int .u64)) ∧ Below w.heap.size w w'
def AnsL2 (N : Int) (w : World) (e : Ending) (w' : World) : Prop := ∃ B m cap, e = .returned (.slice B m cap) ∧ Rd .u64 w' B m (dg W N) ∧ m ≤ cap ∧ Below w.heap.size w w'
set_option maxHeartbeats 4000000 in
theorem to_own {A : Option Addr} {n c : Nat} {N : Int} {w : World} (h : Rn w A n c N) (hn : n ≤ 100000) :
    Calls Tryz.prog 20 #[.slice A n c] w (AnsO N w) := by
  obtain ⟨X, hX⟩ : ∃ X, X = dg D N := ⟨_, rfl⟩
  have hrd := h.rd
  have hXd := dig_dg D_two h.pos
  rw [← hX] at hrd hXd
  have HX := Lib.hid hX
  clear hX
  go_enter Tryz.func20, Tryz.ntmps20
  go_wp2_with fail
  go_loopw [3, 4] (fun o i wr => ToO X n w o i wr) (fun _ i _ => (n + 4 - intOf i).toNat)
  case atStart => exact ⟨0, 0, [], rfl, rfl, fun h => absurd h (by omega), World.ownsRow_nil _ _ _ _, dig_nil _, rfl, Below.refl _ _⟩
  case round =>
    obtain ⟨k, u, L, rfl, hu, hk, hown, hL, hv, hb⟩ := hrel
    have HV := Lib.hid hv
    have HK := Lib.hid hk
    have HU := Lib.hid hu
    have hk4 : 4 * k ≤ n + 3 := by
      rcases Nat.eq_zero_or_pos k with g | g
      · omega
      · have := hk g; omega
    have u0 : 0 ≤ u := by omega
    have u1 : u ≤ 100003 := by omega
    clear hv hk
    have hll : L.length = k := by have := hown.1; simpa using this
    have HLL := Lib.hid hll
    clear hll
    rcases Int.lt_or_le u n with hlt | hge
    · have hbase : w.heap.size ≤ wr.heap.size := hb.size
      clear hu
      obtain ⟨wo, hwo⟩ : ∃ wo : World, wo = wr := ⟨_, rfl⟩
      go_wp2_with fail
      subst hwo
      go_loopw [5, 6] (fun x j wr => ToI X k wo x j wr) (fun _ j _ => (intOf j + 1).toNat)
      case atStart => exact ⟨4, 3, 0, by omega, rfl, by omega, rfl, Int.le_refl _, by simp, by simp, rfl⟩
      case round =>
        obtain ⟨r, q, y, hr, rfl, hq, rfl, y0, y1, hs, rfl⟩ := hrel
        have HS := Lib.hid hs
        clear hs
        rcases Nat.eq_zero_or_pos r with g | g
        · subst g
          obtain rfl : q = -1 := by omega
          have hs2 : vf D (fun j => dig X (4 * k + j)) 4 = y := by have := HS.out; simpa [vf] using this
          have y2 : y < W := by have : D ^ (4 - 0) = W := by decide
                                rw [this] at y1; exact y1
          have HT := Lib.hid (to_sum HLL.out HV.out hs2)
          clear hq hs2 y1 hr
          go_wp2_with (at_builtin; refine wpList_app _ rfl _ _ 25 rfl w.heap.size 35 .u64 Tryz.underlying25 info62u _ _ L rfl (hown.alloc _) wo.heap.size y rfl ?hc (by omega) ?hb ?_)
          case hc => simp [World.cell?_alloc_new]
          case hb => simp; omega
          intro v' w1 hown' hgrow
          have hb3 := own_below (hb.alloc hb.size _) (hown.alloc _) hgrow (by simp; omega) (Nat.le_refl _)
          clear hgrow hown
          go_wp2
          go_roundw
          case rel => exact ⟨k + 1, _, L ++ [y], rfl, by have := HU.out; omega, fun _ => by have := HU.out; simp; omega, by simpa using hown', hL.snoc y0 y2, HT.out, hb3⟩
          case measure => simp [intOf]; omega
        · obtain ⟨s, rfl⟩ : ∃ s, r = s + 1 := ⟨r - 1, by omega⟩
          obtain rfl : q = (s : Int) := by omega
          have hxd := dig_bd (b := D) (by decide) hXd (4 * k + s)
          have hxd2 : dig X (4 * k + s) < 65536 := hxd.2
          obtain ⟨z1, z2, z3⟩ := to_bd (by omega) y0 y1 hxd.1 hxd2
          have HT := Lib.hid (to_step HS.out)
          have s3 : s ≤ 3 := by omega
          clear hq y1
          rcases Nat.lt_or_ge (4 * k + s) n with hin | hin
          · obtain ⟨b, off, x, rfl, hbb, hx, hcell⟩ := (hrd.below hb).at_ hin
            have hxe := dig_lt hx
            rw [hxe] at hxd hxd2 z1 z2
            have HXE := Lib.hid hxe
            have e1 : u + (s : Int) = ((4 * k + s : Nat) : Int) := by have := HU.out; omega
            have e2 : (((4 * k + s : Nat) : Int)) < (n : Int) := by omega
            have hx0 := hxd.1
            clear hx hxe
            go_wp2_with fail
            go_roundw
            case rel => exact ⟨s, _, _, by omega, rfl, rfl, rfl, z1, z2, by rw [← HXE.out]; exact HT.out, rfl⟩
            case measure => simp [intOf]
          · have hx0 := dig_ge (xs := X) (i := 4 * k + s) (by rw [hrd.len]; exact hin)
            rw [hx0] at z1 z2
            have HX0 := Lib.hid hx0
            have e2 : (n : Int) ≤ u + (s : Int) := by have := HU.out; omega
            clear hx0 hxd hxd2
            go_wp2_with fail
            go_roundw
            case rel => exact ⟨s, _, _, by omega, rfl, rfl, rfl, by omega, by simpa using z2, by have := HT.out; rw [HX0.out] at this; simpa using this, rfl⟩
            case measure => simp [intOf]
    · have hN0 : dg W N = L := to_end h.pos HLL.out hL (by rw [HV.out]; rw [← val_vf D X (by rw [hrd.len]; have := HU.out; omega), HX.out]; exact val_dg D_two h.pos) (fun g => by have := HK.out g; rw [h.len_] at this; exact this)
      rw [← hN0] at hown
      have HN0 := Lib.hid hN0
      have HOWN := Lib.hid hown
      clear hN0 hu hown
      go_wp2
      go_ret
      exact ⟨_, _, rfl, HOWN.out, hb⟩
theorem to_any2 {A : Option Addr} {n c : Nat} {N : Int} {w : World} (h : Rn w A n c N) (hn : n ≤ 100000) :
    Calls Tryz.prog 20 #[.slice A n c] w (AnsL2 N w) := (to_own h hn).mono fun e w' ⟨v, m, he, ho, hb⟩ => by
  obtain ⟨A2, cap, rfl, hr2, hcap, -⟩ := own_rd ho
  exact ⟨_, _, _, he, hr2, hcap, hb⟩
theorem to_any {A : Option Addr} {n c : Nat} {N : Int} {w : World} (h : Rn w A n c N) (hn : n ≤ 100000) :
    Calls Tryz.prog 20 #[.slice A n c] w (AnsL N w) := (to_any2 h hn).mono fun e w' ⟨B, m, cap, he, hr, _, hb⟩ => ⟨B, m, cap, he, hr, hb⟩
end Go.Proofs.YtbgnjbalojcgkaaGreatDoor
