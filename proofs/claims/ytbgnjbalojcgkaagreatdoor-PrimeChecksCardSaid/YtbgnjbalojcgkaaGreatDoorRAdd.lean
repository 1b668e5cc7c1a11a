/-
  The document's own sums and differences: what treenailref01.Add and Sub answer.
-/
import Derived.Test.YtbgnjbalojcgkaaGreatDoorTo
namespace Go.Proofs.YtbgnjbalojcgkaaGreatDoor
open Go.RowKit
set_option linter.unusedVariables false
theorem val_dr {N : Int} (h0 : 0 ≤ N) {m : Nat} (h : dr N ≤ m) : vf D (dig (dg D N)) m = N := by
  rw [← val_vf D (dg D N) h, val_dg D_two h0]
theorem dig_D {xs : List Int} (h : Dig D xs) (i : Nat) : 0 ≤ dig xs i ∧ dig xs i < 65536 := dig_bd (by decide) h i
def RaR (X Y : List Int) (mx : Nat) (w : World) (o c i : Value) (wr : World) : Prop :=
  ∃ (k : Nat) (cr : Int) (L : List Int), k ≤ mx + 1 ∧ i = .int .i64 k ∧ c = .int .i64 cr ∧ 0 ≤ cr ∧ cr ≤ 1 ∧ (mx < k → cr = 0) ∧ wr.ownsRow w.heap.size 3 1 o k (L.map (Value.int .i64)) ∧ Dig D L ∧ val D L + cr * D ^ k = vf D (dig X) k + vf D (dig Y) k ∧ Below w.heap.size w wr
theorem ra_step {X Y L : List Int} {k : Nat} {cr d c' : Int} (hl : L.length = k) (e : d + c' * 65536 = dig X k + dig Y k + cr) (h : val D L + cr * D ^ k = vf D (dig X) k + vf D (dig Y) k) : val D (L ++ [d]) + c' * D ^ (k + 1) = vf D (dig X) (k + 1) + vf D (dig Y) (k + 1) := by
  rw [val_snoc, hl]
  simp only [vf]
  have e2 : D ^ (k + 1) = D ^ k * 65536 := Int.pow_succ _ _
  rw [e2]
  generalize D ^ k = p at *
  generalize val D L = a at *
  generalize vf D (dig X) k = x at *
  generalize vf D (dig Y) k = y at *
  grind
set_option maxHeartbeats 4000000 in
theorem radd_any {A A' : Option Addr} {n c n' c' : Nat} {N M : Int} {w : World} (h : Rn w A n c N) (h' : Rn w A' n' c' M) (hn : n ≤ 100000) (hn' : n' ≤ 100000) :
    Calls Tryz.prog 36 #[.slice A n c, .slice A' n' c'] w (AnsN (N + M) w) := by
  obtain ⟨mx, hmx⟩ : ∃ mx, mx = max n n' := ⟨_, rfl⟩
  have m1 : n ≤ mx := by omega
  have m2 : n' ≤ mx := by omega
  have m3 : mx ≤ 100000 := by omega
  have m4 : mx = n ∨ mx = n' := by omega
  clear hmx
  have M4 := Lib.hid m4
  clear m4
  have dX := dig_D (dig_dg D_two h.pos)
  have dY := dig_D (dig_dg D_two h'.pos)
  have DX := Lib.hid dX
  have DY := Lib.hid dY
  clear dX dY
  go_enter Tryz.func36, Tryz.ntmps36
  go_wp2_with fail
  go_loopw [5, 6, 7] (fun o c i wr => RaR (dg D N) (dg D M) mx w o c i wr) (fun _ _ i _ => mx + 2 - (intOf i).toNat)
  case atStart => exact ⟨0, 0, [], Nat.zero_le _, rfl, rfl, Int.le_refl _, by decide, fun _ => rfl, World.ownsRow_nil _ _ _ _, dig_nil _, by simp [vf, val], Below.refl _ _⟩
  case round =>
    obtain ⟨k, cr, L, hk, rfl, rfl, c0, c1, hcz, hown, hL, hv, hb⟩ := hrel
    have HV := Lib.hid hv
    have HCZ := Lib.hid hcz
    clear hv hcz
    have hll : L.length = k := by have := hown.1; simpa using this
    have HLL := Lib.hid hll
    clear hll
    by_cases hstop : n ≤ k ∧ n' ≤ k ∧ cr = 0
    · obtain ⟨q1, q2, rfl⟩ := hstop
      obtain ⟨A2, cap, rfl, hrd, hcap, hbl⟩ := own_rd hown
      have hval : val D L = N + M := by
        have := HV.out
        rw [val_dr h.pos (by rw [← h.len_]; exact q1), val_dr h'.pos (by rw [← h'.len_]; exact q2)] at this
        simpa using this
      have HVL := Lib.hid hval
      clear hval
      go_wp2_with fail
      refine (trim_any A2 k cap L _ hrd hL hcap (by omega)).mono ?_
      rintro e w1 ⟨rfl, rfl⟩
      go_wp2
      go_ret
      exact ⟨_, _, _, rfl, by have := trim_own hrd hL hcap (by omega); rw [HVL.out] at this; rw [HVL.out]; exact this, hb⟩
    · have hkm : k ≤ mx := by
        rcases Nat.lt_or_ge mx k with g | g
        · exfalso; exact hstop ⟨by omega, by omega, HCZ.out g⟩
        · exact g
      have d1 := DX.out k
      have d2 := DY.out k
      obtain ⟨x, hx⟩ : ∃ x, dig (dg D N) k = x := ⟨_, rfl⟩
      obtain ⟨y, hy⟩ : ∃ y, dig (dg D M) k = y := ⟨_, rfl⟩
      rw [hx] at d1
      rw [hy] at d2
      have x0 := d1.1
      have x1 := d1.2
      have y0 := d2.1
      have y1 := d2.2
      have HX := Lib.hid hx
      have HY := Lib.hid hy
      have HST := Lib.hid (ra_step (c' := (x + y + cr) / 65536) HLL.out (show (x + y + cr) % 65536 + (x + y + cr) / 65536 * 65536 = dig (dg D N) k + dig (dg D M) k + cr by rw [hx, hy]; omega) HV.out)
      have hz : mx < k + 1 → (x + y + cr) / 65536 = 0 := by
        intro g
        have e1 : x = 0 := by rw [← hx]; exact dig_ge (by rw [h.rd.len]; omega)
        have e2 : y = 0 := by rw [← hy]; exact dig_ge (by rw [h'.rd.len]; omega)
        omega
      have HZZ := Lib.hid hz
      clear hx hy hz d1 d2
      have hbase : w.heap.size ≤ wr.heap.size := hb.size
      have hA := fun W => (at_any A n c (dg D N) k W)
      have HA1 := Lib.hid (at_any A n c (dg D N) k wr (h.rd.below hb))
      have HA2 := Lib.hid (at_any A' n' c' (dg D M) k wr (h'.rd.below hb))
      clear hA
      rw [HX.out] at HA1
      rw [HY.out] at HA2
      rcases Nat.lt_or_ge k n with q1 | q1
      · clear hstop
        go_wp2_with fail
        refine HA1.out.mono ?_
        rintro e w1 ⟨rfl, rfl⟩
        go_wp2_with fail
        refine HA2.out.mono ?_
        rintro e w1 ⟨rfl, rfl⟩
        go_wp2_with (at_builtin; refine wpList_app _ rfl _ _ 50 rfl w.heap.size 3 .i64 Tryz.underlying50 info3 _ _ L rfl (hown.alloc _) wr.heap.size ((x + y + cr) % 65536) rfl ?hc1 (by omega) ?hb1 ?_)
        case hc1 => simp [World.cell?_alloc_new]
        case hb1 => simp; omega
        intro v' w1 hown' hgrow
        have hb3 := own_below (hb.alloc hb.size _) (hown.alloc _) hgrow (by simp; omega) (Nat.le_refl _)
        clear hgrow hown
        go_wp2
        go_roundw
        case rel => exact ⟨k + 1, _, L ++ [(x + y + cr) % 65536], by omega, by go_num, rfl, by omega, by omega, HZZ.out, by simpa using hown', hL.snoc (by omega) (by unfold D; omega), HST.out, hb3⟩
        case measure => simp [intOf]; omega
      · rcases Nat.lt_or_ge k n' with q2 | q2
        · clear hstop
          go_wp2_with fail
          refine HA1.out.mono ?_
          rintro e w1 ⟨rfl, rfl⟩
          go_wp2_with fail
          refine HA2.out.mono ?_
          rintro e w1 ⟨rfl, rfl⟩
          go_wp2_with (at_builtin; refine wpList_app _ rfl _ _ 50 rfl w.heap.size 3 .i64 Tryz.underlying50 info3 _ _ L rfl (hown.alloc _) wr.heap.size ((x + y + cr) % 65536) rfl ?hc2 (by omega) ?hb2 ?_)
          case hc2 => simp [World.cell?_alloc_new]
          case hb2 => simp; omega
          intro v' w1 hown' hgrow
          have hb3 := own_below (hb.alloc hb.size _) (hown.alloc _) hgrow (by simp; omega) (Nat.le_refl _)
          clear hgrow hown
          go_wp2
          go_roundw
          case rel => exact ⟨k + 1, _, L ++ [(x + y + cr) % 65536], by omega, by go_num, rfl, by omega, by omega, HZZ.out, by simpa using hown', hL.snoc (by omega) (by unfold D; omega), HST.out, hb3⟩
          case measure => simp [intOf]; omega
        · have q3 : 0 < cr := by
            rcases Int.lt_or_le 0 cr with g | g
            · exact g
            · exfalso; exact hstop ⟨q1, q2, by omega⟩
          clear hstop
          go_wp2_with fail
          refine HA1.out.mono ?_
          rintro e w1 ⟨rfl, rfl⟩
          go_wp2_with fail
          refine HA2.out.mono ?_
          rintro e w1 ⟨rfl, rfl⟩
          go_wp2_with (at_builtin; refine wpList_app _ rfl _ _ 50 rfl w.heap.size 3 .i64 Tryz.underlying50 info3 _ _ L rfl (hown.alloc _) wr.heap.size ((x + y + cr) % 65536) rfl ?hc3 (by omega) ?hb3 ?_)
          case hc3 => simp [World.cell?_alloc_new]
          case hb3 => simp; omega
          intro v' w1 hown' hgrow
          have hb3 := own_below (hb.alloc hb.size _) (hown.alloc _) hgrow (by simp; omega) (Nat.le_refl _)
          clear hgrow hown
          go_wp2
          go_roundw
          case rel => exact ⟨k + 1, _, L ++ [(x + y + cr) % 65536], by omega, by go_num, rfl, by omega, by omega, HZZ.out, by simpa using hown', hL.snoc (by omega) (by unfold D; omega), HST.out, hb3⟩
          case measure => simp [intOf]; omega
/-! ### Sub -/
end Go.Proofs.YtbgnjbalojcgkaaGreatDoor
