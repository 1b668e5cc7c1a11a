/-
  Shapes: what isLetter, tooLong and anyTooLong answer.
-/
import Derived.Test.YtpmnghealjgkeaaGreatMxx
import Derived.Test.YtpmnghealjgkeaaGreatPkf
namespace Go.Proofs.YtpmnghealjgkeaaGreat
open Go.RowKit
set_option linter.unusedVariables false
/-- What asks and turns nothing. -/
def AskP (p : Prop) (w : World) (e : Ending) (w' : World) : Prop := w = w' ∧ ∃ q : Bool, e = .returned (.bool q) ∧ (q = true ↔ p)
section
variable {w : World} {A : Option Addr} {n c : Nat} {N : Int} {S : Nat → Nsl}
theorem isl_any (m : Nat) (w : World) : Calls Tryz.prog 42 #[.int .i64 (m : Int)] w (AskP (1 ≤ m ∧ m ≤ 32) w) := by
  rcases Nat.eq_zero_or_pos m with g | g
  · subst g
    go_enter Tryz.func42, Tryz.ntmps42
    go_wp2_with fail
    go_ret
    exact ⟨rfl, false, rfl, by simp⟩
  · have e1 : decide ((1 : Int) ≤ (m : Int)) = true := by simp; omega
    have g1 : (1 : Int) ≤ (m : Int) := by omega
    rcases Nat.lt_or_ge 32 m with g2 | g2
    · have e2 : decide ((m : Int) ≤ 32) = false := by simp; omega
      go_enter Tryz.func42, Tryz.ntmps42
      go_wp2_with fail
      go_ret
      exact ⟨rfl, false, rfl, by simp; omega⟩
    · have e2 : decide ((m : Int) ≤ 32) = true := by simp; omega
      have g3 : (m : Int) ≤ 32 := by omega
      go_enter Tryz.func42, Tryz.ntmps42
      go_wp2_with fail
      go_ret
      exact ⟨rfl, true, rfl, by simp; omega⟩
set_option maxHeartbeats 400000 in
theorem mtl_any (h : Nm w A n c N) : Calls Tryz.prog 63 #[.slice A n c] w (AskP (64 < dl N) w) := by
  obtain ⟨⟨xs, h, hd, h3⟩, hnc, hc, h6⟩ := h
  subst h3
  go_enter Tryz.func63, Tryz.ntmps63
  go_wp2
  go_loop [3] (fun t => LimR xs n t) (fun t => (intOf t).toNat)
  case atStart => exact ⟨n, Nat.le_refl _, fun j h1 h2 => by omega, rfl⟩
  case round =>
    obtain ⟨k, hk, hz, rfl⟩ := hrel
    have HZ := Lib.hid hz
    clear hz
    rcases Nat.eq_zero_or_pos k with h0 | h0
    · subst h0
      go_wp2
      go_ret
      exact ⟨rfl, false, rfl, by
        have := limbs_end h hd hk HZ.out (fun h => absurd h (by omega))
        have e : dl (val W xs) = nl xs := rfl
        simp; omega⟩
    · obtain ⟨m, rfl⟩ : ∃ m, k = m + 1 := ⟨k - 1, by omega⟩
      obtain ⟨b, off, x, rfl, hb, hx, hcell⟩ := h.at_ (j := m) (by omega)
      have HX := Lib.hid hx
      clear hx
      by_cases hx0 : x = 0
      · subst hx0
        go_wp2
        go_round
        case rel =>
          refine ⟨m, by omega, fun j h1 h2 => ?_, by go_num⟩
          rcases Nat.lt_or_ge m j with h3 | h3
          · exact HZ.out j (by omega) h2
          · obtain rfl : j = m := by omega
            rw [List.getD_eq_getElem?_getD, HX.out]; rfl
        case measure => simp [intOf]
      · have hx1 : ((x : Int) == 0) = false := by simpa using hx0
        go_wp2
        go_ret
        refine ⟨rfl, _, rfl, ?_⟩
        have := limbs_end h hd hk HZ.out (fun _ => by rw [Nat.add_sub_cancel, List.getD_eq_getElem?_getD, HX.out]; exact hx0)
        have e : dl (val W xs) = nl xs := rfl
        simp; omega
/-- The loop of IndexFunc. -/
def IdfR (p : Nat → Prop) (n : Nat) (w : World) (i : Value) (wr : World) : Prop := ∃ j : Nat, j ≤ n ∧ i = .int .i64 j ∧ (∀ m, m < j → ¬ p m) ∧ w = wr
/-- What IndexFunc answers. -/
def IdfP (p : Prop) (w : World) (e : Ending) (w' : World) : Prop := w = w' ∧ ∃ r : Int, e = .returned (.int .i64 r) ∧ (0 ≤ r ↔ p)
set_option maxHeartbeats 1000000 in
theorem idf_any (h : Ns w A n c S) {k : Nat} (hent : ∀ (xs : Array Value) (W : World), (callFunc k xs).run Tryz.prog W = .ok (.enter k xs) W) (p : Nat → Prop)
    (hF : ∀ i, i < n → Calls Tryz.prog k #[.slice (S i).A (S i).n (S i).c] w (AskP (p i) w)) :
    Calls Tryz.prog 122 #[.slice A n c, .func (.func k) #[] #[]] w (IdfP (∃ i, i < n ∧ p i) w) := by
  have HF := Lib.hid hF
  have hex := h.ex
  have h60 := h.c60
  clear hF h
  go_enter Tryz.func122, Tryz.ntmps122
  go_wp2_with fail
  go_loopw [8] (fun i wr => IdfR p n w i wr) (fun i _ => n - (intOf i).toNat)
  case atStart => exact ⟨0, Nat.zero_le _, rfl, fun m hm => absurd hm (Nat.not_lt_zero m), rfl⟩
  case round =>
    obtain ⟨j, hj, rfl, hno, rfl⟩ := hrel
    rcases Nat.lt_or_ge j n with hlt | hge
    · obtain ⟨b, off, rfl, hb, hc⟩ := hex (by omega)
      have hcj := hc j hlt
      have hji : (j : Int) < (n : Int) := by omega
      go_wp2_with fail
      refine (HF.out j hlt).mono ?_
      rintro e w1 ⟨rfl, q, rfl, hq⟩
      cases q with
      | true =>
        go_wp2_with fail
        go_ret
        exact ⟨rfl, _, rfl, ⟨fun _ => ⟨j, hlt, hq.1 (by trivial)⟩, fun _ => by omega⟩⟩
      | false =>
        go_wp2_with fail
        go_roundw
        case rel =>
          refine ⟨j + 1, by omega, by go_num, fun m hm => ?_, rfl⟩
          rcases Nat.lt_or_ge m j with g | g
          · exact hno m g
          · obtain rfl : m = j := by omega
            intro hp
            have := hq.2 hp
            cases this
        case measure => simp [intOf]; omega
    · obtain rfl : n = j := by omega
      go_wp2_with fail
      go_ret
      exact ⟨rfl, _, rfl, ⟨fun h => absurd h (by decide), fun ⟨i, hi, hp⟩ => absurd hp (hno i hi)⟩⟩
theorem cof_any (h : Ns w A n c S) {k : Nat} (hent : ∀ (xs : Array Value) (W : World), (callFunc k xs).run Tryz.prog W = .ok (.enter k xs) W) (p : Nat → Prop)
    (hF : ∀ i, i < n → Calls Tryz.prog k #[.slice (S i).A (S i).n (S i).c] w (AskP (p i) w)) :
    Calls Tryz.prog 86 #[.slice A n c, .func (.func k) #[] #[]] w (AskP (∃ i, i < n ∧ p i) w) := by
  have key := Lib.hid (idf_any h hent p hF)
  clear h hF hent
  go_enter Tryz.func86, Tryz.ntmps86
  go_wp2_with fail
  refine key.out.mono ?_
  rintro e w1 ⟨rfl, r, rfl, hr⟩
  go_wp2_with fail
  go_ret
  exact ⟨rfl, _, rfl, by rw [← hr]; simp⟩
theorem mtl_fn {P : Program} {f : FuncId} {fn : Func} {c : Code} (hf : P.funcs[f]? = some fn) (hname : (fn.name == "runtime.NumGoroutine") = false) (hb : fn.body = some c) : ∀ (xs : Array Value) (W : World), (callFunc f xs).run P W = .ok (.enter f xs) W := fun xs W => by
  have h1 : fn.name ≠ "runtime.NumGoroutine" := by simpa using hname
  simp [callFunc, hf, h1, hb]
theorem ent_mtl : ∀ (xs : Array Value) (W : World), (callFunc 63 xs).run Tryz.prog W = .ok (.enter 63 xs) W := mtl_fn Tryz.func63 (by kernel_rfl) rfl
theorem anyl_any (h : Ns w A n c S) : Calls Tryz.prog 43 #[.slice A n c] w (AskP (LgS S n) w) := by
  have key := Lib.hid (cof_any h ent_mtl (fun i => 64 < dl (S i).N) (fun i hi => mtl_any (h.at_ i hi)))
  clear h
  go_enter Tryz.func43, Tryz.ntmps43
  go_wp2_with fail
  refine key.out.mono ?_
  rintro e w1 ⟨rfl, q, rfl, hq⟩
  go_wp2_with fail
  go_ret
  exact ⟨rfl, q, rfl, hq⟩
end
end Go.Proofs.YtpmnghealjgkeaaGreat
