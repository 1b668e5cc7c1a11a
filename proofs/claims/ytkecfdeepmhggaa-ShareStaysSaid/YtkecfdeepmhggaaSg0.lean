/-
  What the small calls of package sigma answer: limbs, same, byteCount, toBytes, fromBytes.
-/
import Derived.Test.YtkecfdeepmhggaaPkg
import Derived.Deep.QuietTactic
import Derived.BigQuiet
namespace Go.Proofs.Ytkecfdeepmhggaa
open Go.RowKit
set_option linter.unusedVariables false
/-! ### limbs -/
theorem drewN_two (w : World) (a b : Nat) : (w.drewN a).drewN b = w.drewN (a + b) := by
  simp [World.drewN, Nat.add_assoc]
/-! ### same -/
def EqsR (xs ys : List Int) (n : Nat) (w : World) (i : Value) (wr : World) : Prop := ∃ k : Nat, k ≤ n ∧ i = .int .i64 k ∧ (∀ j, j < k → dig xs j = dig ys j) ∧ ∃ q, wr = w.drewN q
/-- slices.Equal of two lists of limbs. -/
theorem eqs_any {A A' : Option Addr} {n n' c c' : Nat} {xs ys : List Int} {w : World} (h : Rd .u64 w A n xs) (h' : Rd .u64 w A' n' ys) (hn : n ≤ 17592186044416) (hn' : n' ≤ 17592186044416) :
    Calls Try.prog 37 #[.slice A n c, .slice A' n' c'] w (fun e w' => (∃ q : Bool, e = .returned (.bool q) ∧ (q = true ↔ xs = ys)) ∧ ∃ q, w' = w.drewN q) := by
  have hl := h.len
  have hl' := h'.len
  have HL := Lib.hid hl
  have HL' := Lib.hid hl'
  clear hl hl'
  by_cases hnn : n = n'
  · have hq : ((n : Int) != (n' : Int)) = false := by simp; omega
    have HN := Lib.hid hnn
    clear hnn
    go_enter Try.func37, Try.ntmps37
    go_wp2_with fail
    go_loopw [13] (fun i wr => EqsR xs ys n w i wr) (fun i _ => n - (intOf i).toNat)
    case atStart => exact ⟨0, Nat.zero_le _, rfl, fun j hj => absurd hj (Nat.not_lt_zero j), 0, rfl⟩
    case round =>
      obtain ⟨k, hk, rfl, hs, q, rfl⟩ := hrel
      have HS := Lib.hid hs
      clear hs
      rcases Nat.lt_or_ge k n with hlt | hge
      · obtain ⟨b, off, x, rfl, hb, hx, hcell⟩ := h.at_ hlt
        obtain ⟨b', off', y, rfl, hb', hy, hcell'⟩ := h'.at_ (j := k) (by have := HN.out; omega)
        have ex := dig_lt hx
        have ey := dig_lt hy
        have EX := Lib.hid ex
        have EY := Lib.hid ey
        have hkn : (k : Int) < (n : Int) := by omega
        have hkn' : (k : Int) < (n' : Int) := by have := HN.out; omega
        clear hx hy ex ey
        by_cases hxy : x = y
        · subst hxy
          have hne : ((x : Int) != x) = false := by simp
          go_wp2_with fail
          go_quiet (fail)
          go_wp2
          go_roundw
          case rel =>
            refine ⟨k + 1, by omega, by go_num, fun j hj => ?_, _, rfl⟩
            rcases Nat.lt_or_ge j k with g | g
            · exact HS.out j g
            · obtain rfl : j = k := by omega
              rw [EX.out, EY.out]
          case measure => simp [intOf]; omega
        · have hne : ((x : Int) != y) = true := by simpa using hxy
          have HXY := Lib.hid hxy
          clear hxy
          go_wp2_with fail
          go_quiet (fail)
          go_wp2
          go_ret
          refine ⟨⟨false, rfl, ?_⟩, _, drewN_two _ _ _⟩
          constructor
          · intro h; cases h
          · intro e
            exfalso
            apply HXY.out
            rw [← EX.out, ← EY.out, e]
      · obtain rfl : k = n := by omega
        go_wp2
        go_ret
        refine ⟨⟨true, rfl, fun _ => ?_, fun _ => rfl⟩, q, rfl⟩
        exact ext_dig (by rw [HL.out, HL'.out]; exact HN.out) (fun j hj => HS.out j (by have := HL.out; omega))
  · have hq : ((n : Int) != (n' : Int)) = true := by simp; omega
    have HN := Lib.hid hnn
    clear hnn h h'
    go_enter Try.func37, Try.ntmps37
    go_wp2
    go_ret
    refine ⟨⟨false, rfl, ?_⟩, 0, rfl⟩
    constructor
    · intro h; cases h
    · intro e
      exfalso
      apply HN.out
      rw [← HL.out, ← HL'.out, e]
theorem dg_inj {N M : Int} (h0 : 0 ≤ N) (h1 : 0 ≤ M) (h : dg W N = dg W M) : N = M := by
  rw [← val_dg W_two h0, ← val_dg W_two h1, h]
/-! ### byteCount -/
end Go.Proofs.Ytkecfdeepmhggaa
