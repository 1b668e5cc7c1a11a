/-
  Shapes of batches: what isBatch, isPermutation, haveScalars answer, and whether any list of scalars is too long.
-/
import Derived.Test.YtpmnghealjgkeaaGreatSh7
import Derived.Test.YtpmnghealjgkeaaGreatLe7
namespace Go.Proofs.YtpmnghealjgkeaaGreat
open Go.RowKit
set_option linter.unusedVariables false
/-- What asks, and has turned nothing that was there. -/
def AskB (p : Prop) (w : World) (e : Ending) (w' : World) : Prop := Below w.heap.size w w' ∧ ∃ q : Bool, e = .returned (.bool q) ∧ (q = true ↔ p)
theorem AskP.b {p : Prop} {w : World} {e : Ending} {w' : World} (h : AskP p w e w') : AskB p w e w' := by
  obtain ⟨rfl, q, h1, h2⟩ := h
  exact ⟨Below.refl _ _, q, h1, h2⟩
section
variable {w : World} {A A2 : Option Addr} {n c n2 c2 : Nat} {B : Nat → Lsl} {Rs : Nat → Rsl}
/-! ### Scalars of a batch -/
set_option maxHeartbeats 1000000 in
theorem idf2_any (h : Rls w A n c Rs) {k : Nat} (hent : ∀ (xs : Array Value) (W : World), (callFunc k xs).run Tryz.prog W = .ok (.enter k xs) W) (p : Nat → Prop)
    (hF : ∀ i, i < n → Calls Tryz.prog k #[.slice (Rs i).A (Rs i).n (Rs i).c] w (AskP (p i) w)) :
    Calls Tryz.prog 97 #[.slice A n c, .func (.func k) #[] #[]] w (IdfP (∃ i, i < n ∧ p i) w) := by
  have HF := Lib.hid hF
  have hex := h.ex
  have h60 := h.c60
  clear hF h
  go_enter Tryz.func97, Tryz.ntmps97
  go_wp2_with fail
  go_loopw [8] (fun i wr => IdfR p n w i wr) (fun i _ => n - (intOf i).toNat)
  case atStart => exact ⟨0, Nat.zero_le _, rfl, fun m hm => absurd hm (Nat.not_lt_zero m), rfl⟩
  case round =>
    obtain ⟨j, hj, rfl, hno, rfl⟩ := hrel
    rcases Nat.lt_or_ge j n with hlt | hge
    · obtain ⟨b, off, rfl, hb, hc⟩ := hex (by omega)
      have hcj := hc j hlt
      have hji : (j : Int) < (n : Int) := by omega
      go_wp2_with fail
      refine (HF.out j hlt).mono ?_
      rintro e w1 ⟨rfl, q, rfl, hq⟩
      cases q with
      | true =>
        go_wp2_with fail
        go_ret
        exact ⟨rfl, _, rfl, ⟨fun _ => ⟨j, hlt, hq.1 (by trivial)⟩, fun _ => by omega⟩⟩
      | false =>
        go_wp2_with fail
        go_roundw
        case rel =>
          refine ⟨j + 1, by omega, by go_num, fun m hm => ?_, rfl⟩
          rcases Nat.lt_or_ge m j with g | g
          · exact hno m g
          · obtain rfl : m = j := by omega
            intro hp
            have := hq.2 hp
            cases this
        case measure => simp [intOf]; omega
    · obtain rfl : n = j := by omega
      go_wp2_with fail
      go_ret
      exact ⟨rfl, _, rfl, ⟨fun h => absurd h (by decide), fun ⟨i, hi, hp⟩ => absurd hp (hno i hi)⟩⟩
theorem ent_anyl : ∀ (xs : Array Value) (W : World), (callFunc 43 xs).run Tryz.prog W = .ok (.enter 43 xs) W := mtl_fn Tryz.func43 (by kernel_rfl) rfl
theorem cof2_any (h : Rls w A n c Rs) :
    Calls Tryz.prog 61 #[.slice A n c, .func (.func 43) #[] #[]] w (AskP (∃ i, i < n ∧ LgS (Rs i).S (Rs i).n) w) := by
  have key := Lib.hid (idf2_any h ent_anyl (fun i => LgS (Rs i).S (Rs i).n) (fun i hi => anyl_any (h.at_ i hi)))
  clear h
  go_enter Tryz.func61, Tryz.ntmps61
  go_wp2_with fail
  refine key.out.mono ?_
  rintro e w1 ⟨rfl, r, rfl, hr⟩
  go_wp2_with fail
  go_ret
  exact ⟨rfl, _, rfl, by rw [← hr]; simp⟩
/-! ### isBatch -/
def BatR (p : Nat → Prop) (n : Nat) (w : World) (i : Value) (wr : World) : Prop := ∃ j : Nat, j ≤ n ∧ i = .int .i64 j ∧ (∀ m, m < j → p m) ∧ w = wr
def okL (B : Nat → Lsl) (i : Nat) : Prop := (1 ≤ (B i).n ∧ (B i).n ≤ 32) ∧ (B i).n = (B 0).n
set_option maxHeartbeats 1000000 in
set_option maxRecDepth 100000 in
theorem isb_any (h : Bat w A n c B) : Calls Tryz.prog 58 #[.slice A n c] w (AskP (n ≤ 256 ∧ ∀ i, i < n → okL B i) w) := by
  have hex := h.ex
  rcases Nat.lt_or_ge 256 n with g | g
  · have e1 : decide ((256 : Int) < (n : Int)) = true := by simp; omega
    have g1 : (256 : Int) < (n : Int) := by omega
    clear h hex
    go_enter Tryz.func58, Tryz.ntmps58
    go_wp2_with fail
    go_ret
    exact ⟨rfl, false, rfl, by simp; omega⟩
  have e1 : decide ((256 : Int) < (n : Int)) = false := by simp; omega
  have g1 : ¬ (256 : Int) < (n : Int) := by omega
  clear h
  go_enter Tryz.func58, Tryz.ntmps58
  go_wp2_with fail
  go_loopw [10] (fun i wr => BatR (okL B) n w i wr) (fun i _ => n - (intOf i).toNat)
  case atStart => exact ⟨0, Nat.zero_le _, rfl, fun m hm => absurd hm (Nat.not_lt_zero m), rfl⟩
  case round =>
    obtain ⟨j, hj, rfl, hno, rfl⟩ := hrel
    rcases Nat.lt_or_ge j n with hlt | hge
    · obtain ⟨b, off, rfl, hb, hc⟩ := hex (by omega)
      have hcj := hc j hlt
      have hc0 := hc 0 (by omega)
      rw [Nat.add_zero] at hc0
      have hji : (j : Int) < (n : Int) := by omega
      have hn0 : (0 : Int) < (n : Int) := by omega
      have HNO := Lib.hid hno
      clear hc hno hex
      go_wp2_with fail
      refine (isl_any (B j).n w).mono ?_
      rintro e w1 ⟨rfl, q, rfl, hq⟩
      cases q with
      | false =>
        have hx : ¬ (1 ≤ (B j).n ∧ (B j).n ≤ 32) := fun k => by have := hq.2 k; cases this
        clear hq
        go_wp2_with fail
        go_ret
        exact ⟨rfl, false, rfl, ⟨(by intro k; cases k), fun k => absurd (k.2 j hlt).1 hx⟩⟩
      | true =>
        have hx := hq.1 rfl
        clear hq
        by_cases hz : (B j).n = (B 0).n
        · have t1 : (((B j).n : Int) == ((B 0).n : Int)) = true := by simp; omega
          have HZ := Lib.hid hz
          have HX := Lib.hid hx
          clear hz hx
          go_wp2_with fail
          go_roundw
          case rel =>
            refine ⟨j + 1, by omega, by go_num, fun m hm => ?_, rfl⟩
            rcases Nat.lt_or_ge m j with g | g
            · exact HNO.out m g
            · obtain rfl : m = j := by omega
              exact ⟨HX.out, HZ.out⟩
          case measure => simp [intOf]; omega
        · have t1 : (((B j).n : Int) == ((B 0).n : Int)) = false := by simp; omega
          have t2 : ¬ ((B j).n : Int) = ((B 0).n : Int) := by omega
          have HZ := Lib.hid hz
          go_wp2_with fail
          go_ret
          exact ⟨rfl, false, rfl, ⟨(by intro k; cases k), fun k => absurd (k.2 j hlt).2 HZ.out⟩⟩
    · obtain rfl : n = j := by omega
      go_wp2_with fail
      go_ret
      exact ⟨rfl, true, rfl, ⟨fun _ => ⟨g, hno⟩, fun _ => rfl⟩⟩
/-! ### haveScalars -/
theorem hsc_fn {A1 A2 : Option Addr} {n1 c1 n2 c2 : Nat} (w : World) : Calls Tryz.prog 96 #[.slice A1 n1 c1, .slice A2 n2 c2] w (AskP (n1 = n2) w) := by
  go_enter Tryz.func96, Tryz.ntmps96
  go_wp2_with fail
  go_ret
  exact ⟨rfl, _, rfl, by simp; omega⟩
set_option maxHeartbeats 1000000 in
set_option maxRecDepth 100000 in
theorem eqf_any (h : Bat w A n c B) (h2 : Rls w A2 n2 c2 Rs) :
    Calls Tryz.prog 95 #[.slice A n c, .slice A2 n2 c2, .func (.func 96) #[] #[]] w (AskP (n = n2 ∧ ∀ i, i < n → (B i).n = (Rs i).n) w) := by
  have hex := h.ex
  have hex2 := h2.ex
  have h60 := h.c60
  clear h h2
  by_cases g : n = n2
  · subst g
    go_enter Tryz.func95, Tryz.ntmps95
    go_wp2_with fail
    go_loopw [17] (fun i wr => BatR (fun i => (B i).n = (Rs i).n) n w i wr) (fun i _ => n - (intOf i).toNat)
    case atStart => exact ⟨0, Nat.zero_le _, rfl, fun m hm => absurd hm (Nat.not_lt_zero m), rfl⟩
    case round =>
      obtain ⟨j, hj, rfl, hno, rfl⟩ := hrel
      rcases Nat.lt_or_ge j n with hlt | hge
      · obtain ⟨b, off, rfl, hb, hc⟩ := hex (by omega)
        obtain ⟨b', off', rfl, hb', hc'⟩ := hex2 (by omega)
        have hcj := hc j hlt
        have hcj' := hc' j hlt
        have hji : (j : Int) < (n : Int) := by omega
        have HNO := Lib.hid hno
        clear hc hc' hno hex hex2
        go_wp2_with fail
        refine (hsc_fn w).mono ?_
        rintro e w1 ⟨rfl, q, rfl, hq⟩
        cases q with
        | false =>
          have hx : ¬ (B j).n = (Rs j).n := fun k => by have := hq.2 k; cases this
          have HX := Lib.hid hx
          clear hq hx
          go_wp2_with fail
          go_ret
          exact ⟨rfl, false, rfl, ⟨(by intro k; cases k), fun k => absurd (k.2 j hlt) HX.out⟩⟩
        | true =>
          have HX := Lib.hid (hq.1 rfl)
          clear hq
          go_wp2_with fail
          go_roundw
          case rel =>
            refine ⟨j + 1, by omega, by go_num, fun m hm => ?_, rfl⟩
            rcases Nat.lt_or_ge m j with g | g
            · exact HNO.out m g
            · obtain rfl : m = j := by omega
              exact HX.out
          case measure => simp [intOf]; omega
      · obtain rfl : n = j := by omega
        go_wp2_with fail
        go_ret
        exact ⟨rfl, true, rfl, ⟨fun _ => (by first | exact ⟨rfl, hno⟩ | exact hno), fun _ => rfl⟩⟩
  · have t1 : (((n : Nat) : Int) == ((n2 : Nat) : Int)) = false := by simp; omega
    have t2 : ¬ (n : Int) = (n2 : Int) := by omega
    go_enter Tryz.func95, Tryz.ntmps95
    go_wp2_with fail
    go_ret
    exact ⟨rfl, false, rfl, ⟨(by intro k; cases k), fun k => absurd k.1 g⟩⟩
theorem hsc_any (h : Bat w A n c B) (h2 : Rls w A2 n2 c2 Rs) : Calls Tryz.prog 60 #[.slice A n c, .slice A2 n2 c2] w (AskP (n = n2 ∧ ∀ i, i < n → (B i).n = (Rs i).n) w) := by
  have key := Lib.hid (eqf_any h h2)
  clear h h2
  go_enter Tryz.func60, Tryz.ntmps60
  go_wp2_with fail
  refine key.out.mono ?_
  rintro e w1 ⟨rfl, q, rfl, hq⟩
  go_wp2_with fail
  go_ret
  exact ⟨rfl, q, rfl, hq⟩
end
end Go.Proofs.YtpmnghealjgkeaaGreat
