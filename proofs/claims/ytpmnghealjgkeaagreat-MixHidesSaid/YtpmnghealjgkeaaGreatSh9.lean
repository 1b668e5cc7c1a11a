/-
  isPermutation: whether a list has each of the numbers below n once.
-/
import Derived.Test.YtpmnghealjgkeaaGreatSh8
namespace Go.Proofs.YtpmnghealjgkeaaGreat
open Go.RowKit
set_option linter.unusedVariables false
/-- Each number below n once. -/
def PermF (n : Nat) (f : Nat → Int) : Prop := (∀ i, i < n → 0 ≤ f i ∧ f i < n) ∧ ∀ i k, k < i → i < n → f k ≠ f i
/-- Too many pigeons. -/
theorem php : ∀ (n : Nat) (f : Nat → Nat), (∀ i, i ≤ n → f i < n) → ∃ k i, k < i ∧ i ≤ n ∧ f k = f i
  | 0, f, h => absurd (h 0 (Nat.le_refl 0)) (Nat.not_lt_zero _)
  | n + 1, f, h => by
    by_cases g : ∃ i, i ≤ n ∧ f i = f (n + 1)
    · obtain ⟨i, hi, e⟩ := g
      exact ⟨i, n + 1, by omega, Nat.le_refl _, e⟩
    · have hne : ∀ i, i ≤ n → f i ≠ f (n + 1) := fun i hi e => g ⟨i, hi, e⟩
      have ht := h (n + 1) (Nat.le_refl _)
      obtain ⟨k, i, hk, hi, e⟩ := php n (fun i => if f (n + 1) < f i then f i - 1 else f i) (fun i hi => by
        have h1 := h i (by omega)
        have h2 := hne i hi
        show (if f (n + 1) < f i then f i - 1 else f i) < n
        split <;> omega)
      refine ⟨k, i, hk, by omega, ?_⟩
      have h1 := hne i hi
      have h2 := hne k (by omega)
      have e' : (if f (n + 1) < f k then f k - 1 else f k) = (if f (n + 1) < f i then f i - 1 else f i) := e
      split at e' <;> split at e' <;> omega
/-- A permutation comes to every number. -/
theorem PermF.onto {n : Nat} {f : Nat → Int} (h : PermF n f) {v : Nat} (hv : v < n) : ∃ i, i < n ∧ f i = v := by
  apply Classical.byContradiction
  intro g
  have hne : ∀ i, i < n → f i ≠ v := fun i hi e => g ⟨i, hi, e⟩
  obtain ⟨m, rfl⟩ : ∃ m, n = m + 1 := ⟨n - 1, by omega⟩
  obtain ⟨k, i, hk, hi, e⟩ := php m (fun i => if v < (f i).toNat then (f i).toNat - 1 else (f i).toNat) (fun i hi => by
    have h1 := h.1 i (by omega)
    have h2 := hne i (by omega)
    show (if v < (f i).toNat then (f i).toNat - 1 else (f i).toNat) < m
    split <;> omega)
  have e' : (if v < (f k).toNat then (f k).toNat - 1 else (f k).toNat) = (if v < (f i).toNat then (f i).toNat - 1 else (f i).toNat) := e
  have h1 := h.1 i (by omega)
  have h2 := h.1 k (by omega)
  have h3 := hne i (by omega)
  have h4 := hne k (by omega)
  refine h.2 i k hk (by omega) ?_
  split at e' <;> split at e' <;> omega
theorem infoBo : (Tryz.prog.info? 4).map (fun i => (i.zero, i.size, i.bytes)) = some (some (.bool false), 1, 1) := by kernel_rfl
theorem madeBo (n : Nat) : madeCells (Value.cells (.bool false)) (n * 1) = (List.replicate n (Value.bool false)).toArray := by
  apply Array.ext'
  rw [Nat.mul_one]
  show (madeCells #[Value.bool false] n).toList = _
  rw [toList_madeCells_one]
theorem run_makeBo (n : Nat) {C : Int} (hC : C = n) (hn : n ≤ 1000000) (w : World) : (Instr.makeSlice 142 (.int .i64 C) (.int .i64 C)).run Tryz.prog w =
    .ok (.slice (some ⟨w.heap.size, 0, none⟩) n n) (w.alloc (.cells (List.replicate n (Value.bool false)).toArray 4)) := by
  subst hC
  obtain ⟨i0, hi, hz0, hz1, hz2⟩ := info_parts infoBo
  have hr := run_make (P := Tryz.prog) w 142 4 i0 (.bool false) Tryz.underlying142 hi hz0 .i64 .i64 n n (by omega) (by omega) (by rw [hz2]; omega) (by omega)
  rw [hz1, madeBo] at hr
  simpa using hr
/-- The loop of isPermutation. -/
def PrmR (n : Nat) (f : Nat → Int) (w : World) (i : Value) (wr : World) : Prop :=
  ∃ (j : Nat) (cur : Array Value), j ≤ n ∧ i = .int .i64 j ∧ wr.heap[w.heap.size]? = some (.cells cur 4 (0, 0)) ∧ cur.size = n ∧
    (∀ i, i < j → 0 ≤ f i ∧ f i < n) ∧ (∀ i k, k < i → i < j → f k ≠ f i) ∧ (∀ k : Nat, k < n → ∃ q : Bool, cur[k]? = some (.bool q) ∧ (q = true ↔ ∃ m, m < j ∧ f m = k)) ∧ Below w.heap.size w wr
section
variable {w : World} {A : Option Addr} {np cp : Nat} {ps : List Int}
set_option maxHeartbeats 4000000 in
set_option maxRecDepth 100000 in
theorem isp_any (h : Rd .i64 w A np ps) {n : Nat} (hn : n ≤ 1000) :
    Calls Tryz.prog 59 #[.slice A np cp, .int .i64 (n : Int)] w (AskB (np = n ∧ PermF n (dig ps)) w) := by
  obtain ⟨PP, hPP⟩ : ∃ PP : Prop, PP = (np = n ∧ PermF n (dig ps)) := ⟨_, rfl⟩
  rw [← hPP]
  by_cases g : np = n
  · subst g
    have HPP := Lib.hid (show PP ↔ PermF np (dig ps) by rw [hPP]; exact ⟨fun k => k.2, fun k => ⟨rfl, k⟩⟩)
    clear hPP
    have hmk := fun W => run_makeBo np (C := (np : Int)) rfl (by omega) W
    obtain ⟨Z, hZ⟩ : ∃ Z : Array Value, Z = (List.replicate np (Value.bool false)).toArray := ⟨_, rfl⟩
    rw [← hZ] at hmk
    have HZ := Lib.hid (show Z.size = np by rw [hZ]; simp)
    have HZ2 := Lib.hid (show ∀ k, k < np → Z[k]? = some (.bool false) from fun k hk => by rw [hZ]; simp [hk])
    have HP := Lib.hid h
    clear h hZ
    go_enter Tryz.func59, Tryz.ntmps59
    go_wp2_with fail
    clear hmk
    go_loopw [16] (fun i wr => PrmR np (dig ps) w i wr) (fun i _ => np - (intOf i).toNat)
    case atStart => exact ⟨0, Z, Nat.zero_le _, rfl, heap_alloc_new w _, HZ.out, fun i hi => absurd hi (Nat.not_lt_zero i), fun i k _ hi => absurd hi (Nat.not_lt_zero i), fun k hk => ⟨false, HZ2.out k hk, ⟨(by intro k; cases k), fun ⟨m, hm, _⟩ => absurd hm (Nat.not_lt_zero m)⟩⟩, (Below.refl _ _).alloc (Nat.le_refl _) _⟩
    case round =>
      obtain ⟨j, cur, hj, rfl, hrow, hcs, hin, hinj, hseen, hbw⟩ := hrel
      have HR := Lib.hid hrow
      have HCS := Lib.hid hcs
      have HIN := Lib.hid hin
      have HINJ := Lib.hid hinj
      have HSEEN := Lib.hid hseen
      have HBW := Lib.hid hbw
      clear hrow hcs hin hinj hseen hbw
      rcases Nat.lt_or_ge j np with hlt | hge
      · obtain ⟨b, off, x, rfl, hb, hx, hcell⟩ := HP.out.at_ (j := j) (by omega)
        have hc2 := (HBW.out.cell (p := ⟨b, off + j, none⟩) hb).trans hcell
        have hdx : dig ps j = x := by unfold dig; rw [List.getD_eq_getElem?_getD, hx]; rfl
        have HDX := Lib.hid hdx
        have hji : (j : Int) < (np : Int) := by omega
        clear hcell hx hdx
        rcases Int.lt_or_le x 0 with x0 | x0
        · have e1 : decide (x < 0) = true := by simp; omega
          go_wp2_with fail
          go_ret
          exact ⟨HBW.out, false, rfl, ⟨(by intro k; cases k), fun k => by have := ((HPP.out.1 k).1 j hlt).1; have := HDX.out; omega⟩⟩
        have e1 : decide (x < 0) = false := by simp; omega
        have e1' : ¬ x < 0 := by omega
        rcases Int.lt_or_le x np with x1 | x1
        · obtain ⟨v, rfl⟩ : ∃ v : Nat, x = v := ⟨x.toNat, by omega⟩
          have hv : v < np := by omega
          obtain ⟨q, hq, hqq⟩ := HSEEN.out v hv
          have hcq : wr.cell? ⟨w.heap.size, v, none⟩ = some (.bool q) := (cell_of_row wr _ _ _ _ _ HR.out).trans hq
          have hfz := frozen_of_row wr w.heap.size v _ _ HR.out
          have e2 : decide ((np : Int) ≤ (v : Int)) = false := by simp; omega
          have e2' : ¬ (np : Int) ≤ (v : Int) := by omega
          have HQQ := Lib.hid hqq
          have HQ := Lib.hid hq
          have HV := Lib.hid hv
          clear hqq hq e1 e1' x0
          cases q with
          | true =>
            go_wp2_with fail
            go_ret
            refine ⟨HBW.out, false, rfl, ⟨(by intro k; cases k), fun k => ?_⟩⟩
            obtain ⟨m, hm, e⟩ := HQQ.out.1 (by trivial)
            exact absurd (e.trans HDX.out.symm) ((HPP.out.1 k).2 j m hm hlt)
          | false =>
            have hnot : ∀ m, m < j → dig ps m ≠ v := fun m hm e => by have := HQQ.out.2 ⟨m, hm, e⟩; cases this
            have HNOT := Lib.hid hnot
            clear hnot
            go_wp2_with fail
            go_roundw
            case rel =>
              have hcs := HCS.out
              refine ⟨j + 1, _, by omega, by go_num, heap_setCell_same _ _ v _ _ _ HR.out, by simpa using hcs, fun i hi => ?_, fun i k hk hi => ?_, fun k hk => ?_, (Bo.set w.heap.size v wr _).below HBW.out (Nat.le_refl _)⟩
              · rcases Nat.lt_or_ge i j with g | g
                · exact HIN.out i g
                · obtain rfl : i = j := by omega
                  have := HDX.out
                  have := HV.out
                  omega
              · rcases Nat.lt_or_ge i j with g | g
                · exact HINJ.out i k hk g
                · obtain rfl : i = j := by omega
                  rw [HDX.out]
                  exact HNOT.out k (by omega)
              · by_cases hkv : k = v
                · subst hkv
                  exact ⟨true, Array.getElem?_setIfInBounds_self_of_lt (by omega), ⟨fun _ => ⟨j, by omega, HDX.out⟩, fun _ => rfl⟩⟩
                · obtain ⟨q, h1, h2⟩ := HSEEN.out k hk
                  refine ⟨q, by rw [Array.getElem?_setIfInBounds_ne (by omega)]; exact h1, ⟨fun g => ?_, fun ⟨m, hm, e⟩ => ?_⟩⟩
                  · obtain ⟨m, hm, e⟩ := h2.1 g
                    exact ⟨m, by omega, e⟩
                  · rcases Nat.lt_or_ge m j with g | g
                    · exact h2.2 ⟨m, g, e⟩
                    · obtain rfl : m = j := by omega
                      have := HDX.out
                      omega
            case measure => simp [intOf]; omega
        · have e2 : decide ((np : Int) ≤ x) = true := by simp; omega
          go_wp2_with fail
          go_ret
          exact ⟨HBW.out, false, rfl, ⟨(by intro k; cases k), fun k => by have := ((HPP.out.1 k).1 j hlt).2; have := HDX.out; omega⟩⟩
      · obtain rfl : np = j := by omega
        go_wp2_with fail
        go_ret
        exact ⟨HBW.out, true, rfl, ⟨fun _ => HPP.out.2 ⟨HIN.out, HINJ.out⟩, fun _ => rfl⟩⟩
  · have t1 : (((np : Nat) : Int) == ((n : Nat) : Int)) = false := by simp; omega
    have t2 : ¬ (np : Int) = (n : Int) := by omega
    have HPP := Lib.hid hPP
    clear h hPP
    go_enter Tryz.func59, Tryz.ntmps59
    go_wp2_with fail
    go_ret
    exact ⟨Below.refl _ _, false, rfl, ⟨(by intro k; cases k), fun k => by rw [HPP.out] at k; exact absurd k.1 g⟩⟩
end
end Go.Proofs.YtpmnghealjgkeaaGreat
