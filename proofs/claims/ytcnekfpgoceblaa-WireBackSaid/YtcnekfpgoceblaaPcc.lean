/-
  Several texts in one: Pr0, Pr1, Int, Pr2.
-/
import Derived.Test.YtcnekfpgoceblaaPcb
import Derived.Test.YtcnekfpgoceblaaPka
/-
  The program's reader, in memory: what fail and count answer.
-/
namespace Go.Proofs.Ytcnekfpgoceblaa
open Go.RowKit
set_option linter.unusedVariables false
/-- The reader, in block r: what is left, whether something was amiss. -/
structure Rr (w : World) (r : Nat) (A : Option Addr) (n c : Nat) (L : List Int) (q : Bool) : Prop where
  row : w.heap[r]? = some (.cells #[.slice A n c, .bool q] 105 (0, 0))
  rd : Rd .u8 w A n L
  dig_ : Dig 256 L
  old : ∀ a, A = some a → 0 < n → a.block < r
  nc : n ≤ c
  nil : q = true → n = 0
  n47 : n ≤ 2097152
section
variable {w w' : World} {r : Nat} {A : Option Addr} {n c : Nat} {L : List Int} {q : Bool}
theorem Rr.lt (h : Rr w r A n c L q) : r < w.heap.size := (Array.getElem?_eq_some_iff.1 h.row).1
theorem Rr.ne (h : Rr w r A n c L q) : ∀ a, A = some a → 0 < n → a.block ≠ r := fun a ha hn => Nat.ne_of_lt (h.old a ha hn)
theorem Rr.c0 (h : Rr w r A n c L q) : w.cell? ⟨r, 0, none⟩ = some (.slice A n c) := cell_of_row w r 0 _ _ _ h.row
theorem Rr.c1 (h : Rr w r A n c L q) : w.cell? ⟨r, 1, none⟩ = some (.bool q) := cell_of_row w r 1 _ _ _ h.row
theorem Rr.fz (h : Rr w r A n c L q) (i : Nat) : w.frozen? ⟨r, i, none⟩ = false := frozen_of_row w r i _ _ h.row
theorem Rr.below (h : Rr w r A n c L q) (hb : Below w.heap.size w w') : Rr w' r A n c L q := ⟨(hb.block r h.lt).trans h.row, h.rd.below hb, h.dig_, h.old, h.nc, h.nil, h.n47⟩
theorem Rr.drewN (h : Rr w r A n c L q) (k : Nat) : Rr (w.drewN k) r A n c L q := h.below (below_drewN (Below.refl _ _) _)
/-- Something is amiss: nothing is left. -/
theorem Rr.fail (h : Rr w r A n c L q) : Rr ((w.setCell ⟨r, 0, none⟩ (.slice none 0 0)).setCell ⟨r, 1, none⟩ (.bool true)) r none 0 0 [] true :=
  ⟨heap_setCell_same _ r 1 _ _ _ (heap_setCell_same w r 0 _ _ _ h.row), Rd.nil _ _ _, fun x hx => (by cases hx), fun a ha => (by cases ha), Nat.le_refl _, fun _ => rfl, by omega⟩
/-- Some bytes are taken off. -/
theorem Rr.drop (h : Rr w r A n c L q) {k : Nat} (hk : k ≤ n) : Rr (w.setCell ⟨r, 0, none⟩ (.slice (if c = k then A else A.map (fun x => x.add k)) (n - k) (c - k))) r (if c = k then A else A.map (fun x => x.add k)) (n - k) (c - k) (L.drop k) q := by
  have hp := rd_part h.rd (p1 := k) (m := n - k) (c := c) (by omega) h.nc
  have e : (L.drop k).take (n - k) = L.drop k := List.take_of_length_le (by rw [List.length_drop, h.rd.len]; exact Nat.le_refl _)
  rw [e] at hp
  have hA : ∀ a, (if c = k then A else A.map (fun x => x.add k)) = some a → 0 < n - k → a.block < r := fun a ha hn => by
    have hnc := h.nc
    rw [if_neg (by omega)] at ha
    cases hAA : A with
    | none => rw [hAA] at ha; cases ha
    | some x =>
      rw [hAA] at ha
      injection ha with ha
      have := h.old x hAA (by omega)
      rw [← ha]
      unfold Addr.add
      split <;> exact this
  exact ⟨heap_setCell_same w r 0 _ _ _ h.row, rd_far hp (fun a ha hn => Nat.ne_of_lt (hA a ha hn)) _, fun x hx => h.dig_ x (List.mem_of_mem_drop hx), hA, by have := h.nc; omega, fun hq => by have := h.nil hq; omega, by have := h.n47; omega⟩
end
/-- The reader, by what is left. -/
def Rw (w : World) (r : Nat) (L : List Int) (q : Bool) : Prop := ∃ A n c, Rr w r A n c L q
theorem Rw.below {w w' : World} {r : Nat} {L : List Int} {q : Bool} (h : Rw w r L q) (hb : Below w.heap.size w w') : Rw w' r L q := by
  obtain ⟨A, n, c, h⟩ := h
  exact ⟨A, n, c, h.below hb⟩
theorem Rw.lt {w : World} {r : Nat} {L : List Int} {q : Bool} (h : Rw w r L q) : r < w.heap.size := by
  obtain ⟨A, n, c, h⟩ := h
  exact h.lt
theorem Rw.len {w : World} {r : Nat} {L : List Int} {q : Bool} (h : Rw w r L q) : L.length ≤ 2097152 := by
  obtain ⟨A, n, c, h⟩ := h
  rw [h.rd.len]; exact h.n47
theorem Rw.dig_ {w : World} {r : Nat} {L : List Int} {q : Bool} (h : Rw w r L q) : Dig 256 L := by
  obtain ⟨A, n, c, h⟩ := h
  exact h.dig_
theorem Rw.nil {w : World} {r : Nat} {L : List Int} (h : Rw w r L true) : L = [] := by
  obtain ⟨A, n, c, h⟩ := h
  exact List.eq_nil_of_length_eq_zero (by rw [h.rd.len]; exact h.nil rfl)
theorem Ti.grown {r : Nat} {w w1 w2 : World} {row : Option Nat} (h : Ti r w w1) (hg : w1.grownBy w2 row) (hr : ∀ k, row = some k → w.heap.size ≤ k) : Ti r w w2 :=
  ⟨hg.os.trans h.os, hg.tape.trans h.tape, hg.output.trans h.output, Nat.le_trans h.size hg.size, fun k hk hb => (hg.block k (Nat.lt_of_lt_of_le hk h.size) fun e => by have := hr k e.symm; omega).trans (h.block k hk hb)⟩
theorem Rw.grown {w w' : World} {r : Nat} {L : List Int} {q : Bool} {row : Option Nat} (h : Rw w r L q) (hg : w.grownBy w' row) (hr : ∀ k, row = some k → r < k) : Rw w' r L q := by
  obtain ⟨A, n, c, h⟩ := h
  refine ⟨A, n, c, (hg.block r h.lt fun e => by have := hr r e.symm; omega).trans h.row, ⟨h.rd.len, fun hn => ?_⟩, h.dig_, h.old, h.nc, h.nil, h.n47⟩
  obtain ⟨b, off, e, hb, hc⟩ := h.rd.cells hn
  have hlt := h.old _ e hn
  exact ⟨b, off, e, Nat.lt_of_lt_of_le hb hg.size, fun j x hj => hg.cell (hc j x hj) fun e2 => by have h9 : r < b := hr b e2.symm; have h8 : b < r := hlt; omega⟩
/-- What a reader's call answers, in a codec's words. -/
def Rx {α : Type} (cd : Cdc α) (L : List Int) (q : Bool) (u : α) (L' : List Int) (q' : Bool) : Prop :=
  (q = false ∧ cd.dec L = some (u, L') ∧ q' = false) ∨ ((q = true ∨ cd.dec L = none) ∧ q' = true)
/-- Counts that are at most so great. -/
def cmC (most : Nat) : Cdc Nat := cntC.filt fun v => decide (v ≤ most)
theorem cmC_none {most : Nat} {L : List Int} (h : cntC.dec L = none) : (cmC most).dec L = none := by
  unfold cmC Cdc.filt
  simp only [h]
theorem cmC_some {most v : Nat} {L R : List Int} (h : cntC.dec L = some (v, R)) : (cmC most).dec L = if v ≤ most then some (v, R) else none := by
  unfold cmC Cdc.filt
  simp only [h, decide_eq_true_eq]
theorem cmC_if {most v : Nat} {L R : List Int} (hm : most ≤ topC) (h : cntC.dec L = if v ≤ topC then some (v, R) else none) : (cmC most).dec L = if v ≤ most then some (v, R) else none := by
  by_cases g : v ≤ topC
  · rw [if_pos g] at h
    exact cmC_some h
  · rw [if_neg g] at h
    rw [cmC_none h, if_neg (by omega)]
theorem cmC_top (L : List Int) : (cmC topC).dec L = cntC.dec L := by
  cases h : cntC.dec L with
  | none => exact cmC_none h
  | some x =>
    obtain ⟨v, R⟩ := x
    rw [cmC_some h, if_pos]
    revert h
    show (match cntD 9 true L with | none => none | some (v, r) => if v ≤ topC then some (v, r) else none) = some (v, R) → _
    cases cntD 9 true L with
    | none => intro h; cases h
    | some y =>
      obtain ⟨v', R'⟩ := y
      intro h
      simp only at h
      by_cases g : v' ≤ topC
      · rw [if_pos g] at h
        injection h with h
        injection h with h1 h2
        subst h1
        exact g
      · rw [if_neg g] at h; cases h
/-! ### fail -/
def RfP (r : Nat) (w : World) (e : Ending) (w' : World) : Prop := e = .returned (.tuple #[]) ∧ Rw w' r [] true ∧ Ti r w w'
set_option maxHeartbeats 1000000 in
theorem rfail_any {w : World} {r : Nat} {L : List Int} {q : Bool} (h : Rw w r L q) :
    Calls Try.prog 70 #[.pointer (some ⟨r, 0, none⟩)] w (RfP r w) := by
  obtain ⟨A, n, c, h⟩ := h
  have H := Lib.hid h
  have f0 := h.fz 0
  have f1 := h.fz 1
  have c0 := h.c0
  have c1 := h.c1
  clear h
  go_enter Try.func70, Try.ntmps70
  go_wp2_with fail
  refine bodyPost_ret (results_none rfl _ _ _) rfl ?_
  exact ⟨rfl, ⟨_, _, _, H.out.fail⟩, (Ti.set _ _ _ _).trans (Ti.set _ _ _ _)⟩
/-! ### count -/
set_option maxRecDepth 100000 in
theorem and128 : ∀ a, a < 256 → a &&& (127 : Nat) = a % 128 := by decide
theorem andn8 {a : Nat} (h : a < 256) : bits .andNot .u8 (a : Int) 128 = ((a % 128 : Nat) : Int) := by
  have h1 : (BitVec.ofInt 8 (a : Int)).toNat = a := by
    rw [BitVec.ofInt_natCast, BitVec.toNat_ofNat]; exact Nat.mod_eq_of_lt (by omega)
  show IntKind.u8.wrap ((BitVec.ofInt 8 (a : Int) &&& ~~~ BitVec.ofInt 8 128).toNat : Int) = _
  rw [BitVec.toNat_and, h1]
  have h2 : (~~~ BitVec.ofInt 8 128).toNat = 127 := rfl
  rw [h2, IntKind.wrap_u8, and128 a h]
  omega
/-- Seven bits more. -/
theorem or_seven {V O x k : Nat} (hO : 128 ^ k = O) (hk : k < 9) (hV : V < O) (hx : x < 128) :
    bits .or .u64 (V : Int) (IntKind.u64.wrap ((x : Int) * 2 ^ (7 * k))) = ((V + O * x : Nat) : Int) := by
  have e : pw (7 * k) = (O : Int) := by
    rw [← pw_nat, ← hO, show (128 : Nat) = 2 ^ 7 by rfl, ← Nat.pow_mul]
  have h2 : 128 ≤ pw (64 - 7 * k) := by
    have h3 := pow_mono (b := 2) (by decide) (show 7 ≤ 64 - 7 * k by omega)
    have e3 : (2 : Int) ^ 7 = 128 := by decide
    unfold pw; omega
  rw [wrap_shl _ (by omega), Int.emod_eq_of_lt (by omega) (by omega), or_sum' (by omega) (by omega) (by omega) (by omega) (by rw [e]; omega), e]
  omega
/-- What count answers. -/
def RcP (most r : Nat) (L : List Int) (q : Bool) (w : World) (e : Ending) (w' : World) : Prop :=
  ∃ (u : Nat) (L' : List Int) (q' : Bool), e = .returned (.int .u64 u) ∧ u ≤ most ∧ Rw w' r L' q' ∧ Ti r w w' ∧ Rx (cmC most) L q u L' q' ∧ (q' = true → u = 0)
def RcR (L : List Int) (m : Nat) (w : World) (v b i : Value) (wr : World) : Prop :=
  ∃ (k V : Nat), i = .int .i64 k ∧ k ≤ m ∧ v = .int .u64 V ∧ V < 128 ^ k ∧ cntK L 0 k V ∧ w = wr
end Go.Proofs.Ytcnekfpgoceblaa
/-
  The program's reader: what count answers.
-/
namespace Go.Proofs.Ytcnekfpgoceblaa
open Go.RowKit
set_option linter.unusedVariables false
set_option maxHeartbeats 8000000 in
set_option maxRecDepth 100000 in
theorem rcnt_any {w : World} {r : Nat} {L : List Int} {q : Bool} (h : Rw w r L q) {most : Nat} (hm : most ≤ topC) :
    Calls Try.prog 51 #[.pointer (some ⟨r, 0, none⟩), .int .u64 most] w (RcP most r L q w) := by
  have HRW := Lib.hid h
  obtain ⟨A, n, c, h⟩ := h
  have HI := Lib.hid h
  have HL := Lib.hid h.rd.len
  have c0 := h.c0
  have nc := h.nc
  have n47 := h.n47
  obtain ⟨m, hmin⟩ : ∃ m, min n 9 = m := ⟨_, rfl⟩
  have HMIN := Lib.hid hmin
  have m9 : m ≤ 9 := by omega
  have mn : m ≤ n := by omega
  have mc : m ≤ c := by omega
  have hmin2 : min (n : Int) 9 = (m : Int) := by omega
  clear h hmin
  go_enter Try.func51, Try.ntmps51
  go_wp2_with fail
  go_quiet (fail)
  obtain ⟨W, hW⟩ : ∃ W, w.drewN nq = W := ⟨_, rfl⟩
  have H1 := Lib.hid (show Rr W r A n c L q by rw [← hW]; exact HI.out.drewN _)
  have B1 := Lib.hid (show Ti r w W by rw [← hW]; exact (Ti.refl _ _).drew _)
  rw [hW]
  clear hW c0 hmin2
  go_wp2_with fail
  go_loopw [5, 7, 20] (fun v b i wr => RcR L m W v b i wr) (fun _ _ i _ => m - (intOf i).toNat)
  case atStart => exact ⟨0, 0, rfl, Nat.zero_le _, rfl, by decide, cntK_zero _ _, rfl⟩
  case round =>
    obtain ⟨k, V, rfl, hk, rfl, hV, hck, rfl⟩ := hrel
    have HCK := Lib.hid hck
    clear hck
    rcases Nat.lt_or_ge k m with hlt | hge
    · have hki : (k : Int) < (m : Int) := by omega
      obtain ⟨b, off, x, rfl, hbb, hx, hcell⟩ := H1.out.rd.at_ (j := k) (by omega)
      have hxd := dig_lt hx
      have hxb := H1.out.dig_ x (List.mem_of_getElem? hx)
      obtain ⟨y, rfl⟩ := Int.eq_ofNat_of_zero_le hxb.1
      have y256 : y < 256 := by omega
      have HY := Lib.hid (show dig L (0 + k) = (y : Int) by rw [Nat.zero_add]; exact hxd)
      obtain ⟨O, hO⟩ : ∃ O, 128 ^ k = O := ⟨_, rfl⟩
      have O56 : O ≤ 72057594037927936 := by rw [← hO]; exact Nat.le_trans (Nat.pow_le_pow_right (by decide) (show k ≤ 8 by omega)) (by decide)
      have HO := Lib.hid hO
      have g1 : bits .andNot .u8 (y : Int) 128 = ((y % 128 : Nat) : Int) := andn8 y256
      have g2 := or_seven (V := V) (x := y % 128) hO (by omega) (by rw [← hO]; exact hV) (by omega)
      have VO : V < O := by rw [← hO]; exact hV
      obtain ⟨Z, hZ⟩ : ∃ Z, V + O * (y % 128) = Z := ⟨_, rfl⟩
      rw [hZ] at g2
      have HZ := Lib.hid hZ
      have Z63 : Z < O * 128 := by
        have h1 := Nat.mul_le_mul_left O (show y % 128 ≤ 127 by omega)
        omega
      obtain ⟨y7, hy7⟩ : ∃ y7, y % 128 = y7 := ⟨_, rfl⟩
      rw [hy7] at g1 g2
      have HY7 := Lib.hid hy7
      have g3 : IntKind.u64.wrap (y7 : Int) = (y7 : Int) := by rw [IntKind.wrap_u64]; omega
      have g4 : IntKind.i64.wrap (7 * (k : Int)) = ((7 * k : Nat) : Int) := by rw [IntWalk.i64_in _ (by omega)]; omega
      clear hO hZ hy7 hxd hx hxb
      have HV := Lib.hid hV
      clear hV
      rcases Nat.lt_or_ge y 128 with y128 | y128
      · have t1 : decide ((128 : Int) ≤ (y : Int)) = false := by simp; omega
        by_cases bad : (y = 0 ∧ 0 < k) ∨ most < Z
        · -- amiss
          have DEC := Lib.hid (show (cmC most).dec L = none by
            have h0 := HL.out
            rcases bad with ⟨b1, b2⟩ | b1
            · exact cmC_none (cntK_nought HCK.out h0 (by omega) (by omega) (by rw [HY.out, b1]; rfl) b2)
            · by_cases b0 : y = 0 ∧ 0 < k
              · exact cmC_none (cntK_nought HCK.out h0 (by omega) (by omega) (by rw [HY.out, b0.1]; rfl) b0.2)
              · have h1 := cntK_last HCK.out h0 (by omega) (by omega) (by rw [HY.out]; rintro ⟨x1, x2⟩; exact b0 ⟨by omega, x2⟩) (by rw [HY.out]; omega)
                rw [HY.out, Int.toNat_natCast, HO.out, show y = y7 by have := HY7.out; omega, show V + O * y7 = Z by rw [← HY7.out]; exact HZ.out, List.drop_zero] at h1
                rw [cmC_if hm h1, if_neg (by omega)])
          rcases Nat.eq_zero_or_pos y with yz | yz
          · have t2 : ((y : Int) == 0) = true := by simp; omega
            rcases Nat.eq_zero_or_pos k with kz | kz
            · have t4 : decide (0 < k) = false := by simp; omega
              have t3 : decide (most < Z) = true := by simp; omega
              clear bad kz yz
              go_wp2_with fail
              refine (rfail_any ⟨_, n, c, H1.out⟩).mono ?_
              rintro e w1 ⟨rfl, h2, b2⟩
              have H2 := Lib.hid h2
              have B2 := Lib.hid b2
              clear h2 b2
              go_wp2_with fail
              go_ret
              exact ⟨0, [], true, rfl, Nat.zero_le _, H2.out, B1.out.trans B2.out, .inr ⟨.inr DEC.out, rfl⟩, fun _ => rfl⟩
            · have t3 : decide (0 < k) = true := by simp; omega
              clear bad yz
              go_wp2_with fail
              refine (rfail_any ⟨_, n, c, H1.out⟩).mono ?_
              rintro e w1 ⟨rfl, h2, b2⟩
              have H2 := Lib.hid h2
              have B2 := Lib.hid b2
              clear h2 b2
              go_wp2_with fail
              go_ret
              exact ⟨0, [], true, rfl, Nat.zero_le _, H2.out, B1.out.trans B2.out, .inr ⟨.inr DEC.out, rfl⟩, fun _ => rfl⟩
          · have t2 : ((y : Int) == 0) = false := by simp; omega
            have t3 : decide (most < Z) = true := by simp; omega
            clear bad
            go_wp2_with fail
            refine (rfail_any ⟨_, n, c, H1.out⟩).mono ?_
            rintro e w1 ⟨rfl, h2, b2⟩
            have H2 := Lib.hid h2
            have B2 := Lib.hid b2
            clear h2 b2
            go_wp2_with fail
            go_ret
            exact ⟨0, [], true, rfl, Nat.zero_le _, H2.out, B1.out.trans B2.out, .inr ⟨.inr DEC.out, rfl⟩, fun _ => rfl⟩
        · have DEC := Lib.hid (show (cmC most).dec L = some (Z, L.drop (k + 1)) by
            have h1 := cntK_last HCK.out HL.out (by omega) (by omega) (by rw [HY.out]; rintro ⟨x1, x2⟩; exact bad (.inl ⟨by omega, x2⟩)) (by rw [HY.out]; omega)
            rw [HY.out, Int.toNat_natCast, HO.out, show y = y7 by have := HY7.out; omega, show V + O * y7 = Z by rw [← HY7.out]; exact HZ.out, Nat.zero_add, List.drop_zero] at h1
            rw [cmC_if hm h1, if_pos (by omega)])
          have ZM : Z ≤ most := by omega
          have t3 : decide (most < Z) = false := by simp; omega
          have HQ := Lib.hid (show q = false by
            cases q with
            | false => rfl
            | true => have := H1.out.nil rfl; omega)
          have c0 := H1.out.c0
          have f0 := H1.out.fz 0
          have FA := Lib.hid (show c = k + 1 → Rw (W.setCell ⟨r, 0, none⟩ (.slice (some ⟨b, off, none⟩) (n - (k + 1)) 0)) r (L.drop (k + 1)) false from fun e => by
            have hd := H1.out.drop (k := k + 1) (by omega)
            rw [HQ.out, if_pos e, show c - (k + 1) = 0 by omega] at hd
            exact ⟨_, _, _, hd⟩)
          have FB := Lib.hid (show ¬ c = k + 1 → Rw (W.setCell ⟨r, 0, none⟩ (.slice (some ⟨b, off + (k + 1), none⟩) (n - (k + 1)) (c - (k + 1)))) r (L.drop (k + 1)) false from fun e => by
            have hd := H1.out.drop (k := k + 1) (by omega)
            rw [HQ.out, if_neg e, Option.map_some, addr_addI] at hd
            exact ⟨_, _, _, hd⟩)
          rcases Nat.eq_zero_or_pos y with yz | yz
          · have t2 : ((y : Int) == 0) = true := by simp; omega
            have t4 : decide (0 < k) = false := by
              rcases Nat.eq_zero_or_pos k with g | g
              · simp; omega
              · exact absurd (.inl ⟨yz, g⟩) bad
            clear bad yz
            go_wp2_with fail
            all_goals
              go_ret
              refine ⟨Z, L.drop (k + 1), false, rfl, ZM, ?_, B1.out.trans (Ti.set _ _ _ _), .inl ⟨HQ.out, DEC.out, rfl⟩, fun h => (by cases h)⟩
              first | exact FA.out (by assumption) | exact FB.out (by assumption)
          · have t2 : ((y : Int) == 0) = false := by simp; omega
            clear bad
            go_wp2_with fail
            all_goals
              go_ret
              refine ⟨Z, L.drop (k + 1), false, rfl, ZM, ?_, B1.out.trans (Ti.set _ _ _ _), .inl ⟨HQ.out, DEC.out, rfl⟩, fun h => (by cases h)⟩
              first | exact FA.out (by assumption) | exact FB.out (by assumption)
      · have t1 : decide ((128 : Int) ≤ (y : Int)) = true := by simp; omega
        go_wp2_with fail
        go_roundw
        case rel =>
          refine ⟨k + 1, Z, by go_num, by omega, rfl, by rw [Nat.pow_succ, HO.out]; exact Z63, ?_, rfl⟩
          have e := cntK_more HCK.out HL.out (by omega) (by omega) (by rw [HY.out]; omega)
          rw [HY.out, HO.out, Int.toNat_natCast, show y - 128 = y7 by have := HY7.out; omega, show V + O * y7 = Z by rw [← HY7.out]; exact HZ.out] at e
          exact e
        case measure => simp [intOf]; omega
    · obtain rfl : k = m := by omega
      have hki : decide ((k : Int) < (k : Int)) = false := by simp
      have DEC := Lib.hid (show q = true ∨ (cmC most).dec L = none by
        have hm9 := HMIN.out
        rcases Nat.lt_or_ge k 9 with g | g
        · exact .inr (cmC_none (cntK_none HCK.out HL.out (by omega) g))
        · obtain rfl : k = 9 := by omega
          exact .inr (cmC_none (cntK_nine HCK.out)))
      go_wp2_with fail
      refine (rfail_any ⟨A, n, c, H1.out⟩).mono ?_
      rintro e w1 ⟨rfl, h2, b2⟩
      have H2 := Lib.hid h2
      have B2 := Lib.hid b2
      clear h2 b2
      go_wp2_with fail
      go_ret
      exact ⟨0, [], true, rfl, Nat.zero_le _, H2.out, B1.out.trans B2.out, .inr ⟨DEC.out, rfl⟩, fun _ => rfl⟩
end Go.Proofs.Ytcnekfpgoceblaa
/-
  The document's way of reading, in memory: what truth answers.
-/
namespace Go.Proofs.Ytcnekfpgoceblaa
open Go.RowKit
set_option linter.unusedVariables false
def ItP (r : Nat) (A : Option Addr) (n c : Nat) (xs : List Int) (p : Nat) (q : Bool) (w : World) (e : Ending) (w' : World) : Prop :=
  ∃ (b : Bool) (p' : Nat) (q' : Bool), e = .returned (.bool b) ∧ It w' r A n c xs p' q' ∧ Ti r w w' ∧ Rdd truC xs p q b p' q'
theorem truC_none {xs : List Int} {n p : Nat} (hl : xs.length = n) (h : p = n) : truC.dec (xs.drop p) = none := by
  rw [drop_end hl (by omega)]; rfl
theorem truC_at {xs : List Int} {n p : Nat} (hl : xs.length = n) (h : p < n) : truC.dec (xs.drop p) = if dig xs p = 0 then some (false, xs.drop (p + 1)) else if dig xs p = 1 then some (true, xs.drop (p + 1)) else none := by
  rw [drop_at hl h]; rfl
set_option maxHeartbeats 4000000 in
theorem itru_any {w : World} {r : Nat} {A : Option Addr} {n c : Nat} {xs : List Int} {p : Nat} {q : Bool} (h : It w r A n c xs p q) (hn : n ≤ 140737488355328) :
    Calls Try.prog 34 #[.pointer (some ⟨r, 0, none⟩)] w (ItP r A n c xs p q w) := by
  have HI := Lib.hid h
  have HL := Lib.hid h.rd.len
  clear h
  go_enter Try.func34, Try.ntmps34
  go_wp2_with fail
  refine (inext_any HI.out hn).mono ?_
  rintro e w1 (⟨hp, rfl, h1, b1⟩ | ⟨hp, rfl, h1, b1⟩)
  · obtain ⟨y, hy⟩ : ∃ y : Nat, dig xs p = y := Int.eq_ofNat_of_zero_le (dig_bd (b := 256) (by decide) HI.out.dig_ _).1
    have H1 := Lib.hid h1
    have B1 := Lib.hid b1
    have DEC := Lib.hid (truC_at HI.out.rd.len hp)
    rw [hy] at DEC ⊢
    have c2 := h1.c2
    have f2 := h1.fz 2
    clear h1 b1 hy
    by_cases h2 : 1 < y
    · have e1 : decide (1 < (y : Int)) = true := by simp; omega
      have e2 : ((y : Int) == 1) = false := by simp; omega
      have D2 := Lib.hid (show truC.dec (xs.drop p) = none by rw [DEC.out, if_neg (by omega), if_neg (by omega)])
      clear h2
      go_wp2_with fail
      go_ret
      exact ⟨_, p + 1, true, rfl, H1.out.setQ true, B1.out.trans (Ti.set _ _ _ _), .inr ⟨.inr D2.out, rfl⟩⟩
    · have e1 : decide (1 < (y : Int)) = false := by simp; omega
      have D2 := Lib.hid (show truC.dec (xs.drop p) = some ((y : Int) == 1, xs.drop (p + 1)) by
        rw [DEC.out]
        rcases (show y = 0 ∨ y = 1 by omega) with rfl | rfl
        · rfl
        · rfl)
      clear h2
      go_wp2_with fail
      go_ret
      refine ⟨_, p + 1, q, rfl, H1.out, B1.out, ?_⟩
      cases q with
      | true => exact .inr ⟨.inl rfl, rfl⟩
      | false => exact .inl ⟨rfl, D2.out, rfl⟩
  · have H1 := Lib.hid h1
    have B1 := Lib.hid b1
    clear h1 b1
    have e1 : decide ((1 : Int) < 0) = false := by decide
    go_wp2_with fail
    go_ret
    exact ⟨_, p, true, rfl, H1.out, B1.out, .inr ⟨.inr (truC_none HL.out hp), rfl⟩⟩
end Go.Proofs.Ytcnekfpgoceblaa
/-
  The program's reader: what integer, flag, take and text answer.
-/
namespace Go.Proofs.Ytcnekfpgoceblaa
open Go.RowKit
set_option linter.unusedVariables false
theorem topC_cast : ((topC : Nat) : Int) = 4611686018427387904 := rfl
theorem cntC_le {L R : List Int} {v : Nat} (h : cntC.dec L = some (v, R)) : v ≤ topC := by
  revert h
  show (match cntD 9 true L with | none => none | some (v, r) => if v ≤ topC then some (v, r) else none) = some (v, R) → _
  cases cntD 9 true L with
  | none => intro h; cases h
  | some y =>
    obtain ⟨v', R'⟩ := y
    intro h
    simp only at h
    by_cases g : v' ≤ topC
    · rw [if_pos g] at h
      injection h with h
      injection h with h1 h2
      subst h1
      exact g
    · rw [if_neg g] at h; cases h
/-- A count. -/
def RiP (r : Nat) (L : List Int) (q : Bool) (w : World) (e : Ending) (w' : World) : Prop :=
  ∃ (u : Nat) (L' : List Int) (q' : Bool), e = .returned (.int .i64 u) ∧ u ≤ topC ∧ Rw w' r L' q' ∧ Ti r w w' ∧ Rx cntC L q u L' q'
theorem rint_any {w : World} {r : Nat} {L : List Int} {q : Bool} (h : Rw w r L q) :
    Calls Try.prog 50 #[.pointer (some ⟨r, 0, none⟩)] w (RiP r L q w) := by
  have H := Lib.hid h
  clear h
  go_enter Try.func50, Try.ntmps50
  go_wp2_with fail
  refine (rcnt_any (most := topC) H.out (Nat.le_refl _)).mono ?_
  rintro e w1 ⟨u, L', q', rfl, hu, h1, b1, x1, -⟩
  have H1 := Lib.hid h1
  have B1 := Lib.hid b1
  have X1 := Lib.hid x1
  have g1 : IntKind.i64.wrap (u : Int) = (u : Int) := by unfold topC at hu; rw [IntWalk.i64_in _ (by omega)]
  clear h1 b1 x1
  go_wp2_with fail
  go_ret
  refine ⟨u, L', q', rfl, hu, H1.out, B1.out, ?_⟩
  have h := X1.out
  unfold Rx at h ⊢
  rwa [cmC_top] at h
/-- The count itself, up to the greatest. -/
theorem rcntT_any {w : World} {r : Nat} {L : List Int} {q : Bool} (h : Rw w r L q) :
    Calls Try.prog 51 #[.pointer (some ⟨r, 0, none⟩), .int .u64 4611686018427387904] w fun e w' =>
      ∃ (u : Nat) (L' : List Int) (q' : Bool), e = .returned (.int .u64 u) ∧ u ≤ topC ∧ Rw w' r L' q' ∧ Ti r w w' ∧ Rx cntC L q u L' q' ∧ (q' = true → u = 0) := by
  refine (rcnt_any (most := topC) h (Nat.le_refl _)).mono ?_
  rintro e w1 ⟨u, L', q', rfl, hu, h1, b1, x1, x2⟩
  refine ⟨u, L', q', rfl, hu, h1, b1, ?_, x2⟩
  unfold Rx at x1 ⊢
  rwa [cmC_top] at x1
/-! ### flag -/
/-- What a count up to 1 is, as truth. -/
theorem tru_cnt {L : List Int} (hd : Dig 256 L) : truC.dec L = ((cmC 1).dec L).map fun x => (decide (x.1 = 1), x.2) := by
  cases L with
  | nil => rw [cmC_none (show cntC.dec [] = none from rfl)]; rfl
  | cons c l =>
    by_cases h0 : c = 0
    · subst h0
      rw [cmC_some (v := 0) (R := l) rfl]; rfl
    · by_cases h1 : c = 1
      · subst h1
        rw [cmC_some (v := 1) (R := l) rfl]; rfl
      · have e : truC.dec (c :: l) = none := by
          show (if c = 0 then some (false, l) else if c = 1 then some (true, l) else none) = none
          rw [if_neg h0, if_neg h1]
        rw [e]
        cases h : cntC.dec (c :: l) with
        | none => rw [cmC_none h]; rfl
        | some x =>
          obtain ⟨v, R⟩ := x
          rw [cmC_some h, if_neg, Option.map_none]
          intro hv
          have e2 := (cntC.bwd _ v R hd h).2
          rw [show cntC.enc v = [(v : Int)] from cntE_lt (by omega), List.singleton_append] at e2
          injection e2 with e2 e3
          omega
def RgP (r : Nat) (L : List Int) (q : Bool) (w : World) (e : Ending) (w' : World) : Prop :=
  ∃ (u : Bool) (L' : List Int) (q' : Bool), e = .returned (.bool u) ∧ Rw w' r L' q' ∧ Ti r w w' ∧ Rx truC L q u L' q'
theorem rflag_any {w : World} {r : Nat} {L : List Int} {q : Bool} (h : Rw w r L q) :
    Calls Try.prog 52 #[.pointer (some ⟨r, 0, none⟩)] w (RgP r L q w) := by
  have H := Lib.hid h
  clear h
  go_enter Try.func52, Try.ntmps52
  go_wp2_with fail
  refine (rcnt_any (most := 1) H.out (by decide)).mono ?_
  rintro e w1 ⟨u, L', q', rfl, hu, h1, b1, x1, x2⟩
  have H1 := Lib.hid h1
  have B1 := Lib.hid b1
  have X1 := Lib.hid x1
  clear h1 b1 x1 x2
  go_wp2_with fail
  go_ret
  refine ⟨_, L', q', rfl, H1.out, B1.out, ?_⟩
  have hd := H.out.dig_
  rcases X1.out with ⟨h1, h2, h3⟩ | ⟨h1, h3⟩
  · refine .inl ⟨h1, ?_, h3⟩
    rw [tru_cnt hd, h2, Option.map_some]
    congr 2
    rcases (show u = 0 ∨ u = 1 by omega) with rfl | rfl <;> rfl
  · refine .inr ⟨h1.imp_right fun h2 => ?_, h3⟩
    rw [tru_cnt hd, h2]; rfl
/-! ### take -/
theorem rd_take {k : IntKind} {w : World} {A : Option Addr} {n : Nat} {xs : List Int} (h : Rd k w A n xs) {m : Nat} (hm : m ≤ n) : Rd k w A m (xs.take m) := by
  refine ⟨by rw [List.length_take, h.len]; omega, fun h0 => ?_⟩
  obtain ⟨b, off, e, hb, hx⟩ := h.cells (by omega)
  refine ⟨b, off, e, hb, fun j x hj => hx j x ?_⟩
  have hjm : j < m := by
    have := (List.getElem?_eq_some_iff.1 hj).1
    rw [List.length_take] at this; omega
  rwa [List.getElem?_take_of_lt hjm] at hj
def RkP (N r : Nat) (L : List Int) (q : Bool) (w : World) (e : Ending) (w' : World) : Prop :=
  ∃ (A : Option Addr) (n c : Nat) (bs L' : List Int) (q' : Bool), e = .returned (.slice A n c) ∧ Rd .u8 w' A n bs ∧ Dig 256 bs ∧ n ≤ c ∧ Rw w' r L' q' ∧ Ti r w w' ∧
    ((N ≤ L.length ∧ bs = L.take N ∧ L' = L.drop N ∧ q' = q) ∨ (L.length < N ∧ bs = [] ∧ q' = true))
set_option maxHeartbeats 4000000 in
set_option maxRecDepth 100000 in
theorem rtake_any {w : World} {r : Nat} {L : List Int} {q : Bool} (h : Rw w r L q) {N : Nat} (hN : N < 18446744073709551616) :
    Calls Try.prog 71 #[.pointer (some ⟨r, 0, none⟩), .int .u64 N] w (RkP N r L q w) := by
  obtain ⟨A, n, c, h⟩ := h
  have H := Lib.hid h
  have HL := Lib.hid h.rd.len
  have c0 := h.c0
  have f0 := h.fz 0
  have nc := h.nc
  have n47 := h.n47
  have g1 : IntKind.u64.wrap (n : Int) = (n : Int) := by rw [IntKind.wrap_u64]; omega
  clear h
  rcases Nat.lt_or_ge n N with g | g
  · have e1 : decide (n < N) = true := by simp; omega
    go_enter Try.func71, Try.ntmps71
    go_wp2_with fail
    refine (rfail_any ⟨A, n, c, H.out⟩).mono ?_
    rintro e w1 ⟨rfl, h2, b2⟩
    have H2 := Lib.hid h2
    have B2 := Lib.hid b2
    clear h2 b2
    go_wp2_with fail
    go_ret
    exact ⟨none, 0, 0, [], [], true, rfl, Rd.nil _ _ _, fun x hx => (by cases hx), Nat.le_refl _, H2.out, B2.out, .inr ⟨by rw [HL.out]; exact g, rfl, rfl⟩⟩
  · have e1 : decide (n < N) = false := by simp; omega
    have k1 : N ≤ c := by omega
    have FA := Lib.hid (show c = N → Rw (w.setCell ⟨r, 0, none⟩ (.slice A (n - N) 0)) r (L.drop N) q from fun e => by
      have hd := H.out.drop (k := N) g
      rw [if_pos e, show c - N = 0 by omega] at hd
      exact ⟨_, _, _, hd⟩)
    have FB := Lib.hid (show ¬ c = N → Rw (w.setCell ⟨r, 0, none⟩ (.slice (A.map fun x => x.add N) (n - N) (c - N))) r (L.drop N) q from fun e => by
      have hd := H.out.drop (k := N) g
      rw [if_neg e] at hd
      exact ⟨_, _, _, hd⟩)
    have FR := Lib.hid (show ∀ v, Rd .u8 (w.setCell ⟨r, 0, none⟩ v) A N (L.take N) from fun v => rd_far (rd_take H.out.rd g) (fun a ha hn => H.out.ne a ha (by omega)) v)
    go_enter Try.func71, Try.ntmps71
    go_wp2_with fail
    all_goals
      go_ret
      refine ⟨A, N, _, L.take N, L.drop N, q, rfl, FR.out _, fun x hx => H.out.dig_ x (List.mem_of_mem_take hx), (by first | exact k1 | exact Nat.le_refl _), ?_, Ti.set _ _ _ _, .inl ⟨by rw [HL.out]; exact g, rfl, rfl, rfl⟩⟩
      first | exact FA.out (by assumption) | exact FB.out (by assumption)
/-! ### text -/
theorem bytesC_at {L R : List Int} {m : Nat} (h : cntC.dec L = some (m, R)) : bytesC.dec L = if m ≤ R.length then some (R.take m, R.drop m) else none := by
  show (match cntC.dec L with | none => none | some (n, r) => byteC.decN n r) = _
  rw [h]
  exact byteN m R
theorem bytesC_no {L : List Int} (h : cntC.dec L = none) : bytesC.dec L = none := by
  show (match cntC.dec L with | none => none | some (n, r) => byteC.decN n r) = none
  rw [h]
def RtP (r : Nat) (L : List Int) (q : Bool) (w : World) (e : Ending) (w' : World) : Prop :=
  ∃ (v : Value) (bs L' : List Int) (q' : Bool), e = .returned v ∧ Own8 w' w.heap.size v bs ∧ Dig 256 bs ∧ Rw w' r L' q' ∧ Ti r w w' ∧ Rx bytesC L q bs L' q'
set_option maxHeartbeats 4000000 in
set_option maxRecDepth 100000 in
theorem rtext_any {w : World} {r : Nat} {L : List Int} {q : Bool} (h : Rw w r L q) :
    Calls Try.prog 53 #[.pointer (some ⟨r, 0, none⟩)] w (RtP r L q w) := by
  have H := Lib.hid h
  clear h
  go_enter Try.func53, Try.ntmps53
  go_wp2_with fail
  refine (rcntT_any H.out).mono ?_
  rintro e w1 ⟨u, L1, q1, rfl, hu, h1, b1, x1, x2⟩
  have H1 := Lib.hid h1
  have B1 := Lib.hid b1
  have X1 := Lib.hid x1
  have X2 := Lib.hid x2
  have u64 : u < 18446744073709551616 := by unfold topC at hu; omega
  clear h1 b1 x1 x2
  go_wp2_with fail
  refine (rtake_any H1.out u64).mono ?_
  rintro e w2 ⟨A, n, c, bs, L2, q2, rfl, hr, hdg, hnc, h2, b2, x3⟩
  have H2 := Lib.hid h2
  have B2 := Lib.hid b2
  have X3 := Lib.hid x3
  have R2 := Lib.hid hr
  have DG := Lib.hid hdg
  have hn : n ≤ 2097152 := by
    have h9 := hr.len
    have h8 := H1.out.len
    rcases x3 with ⟨-, k2, -, -⟩ | ⟨-, k2, -⟩
    · rw [k2, List.length_take] at h9; omega
    · rw [k2] at h9; simp at h9; omega
  clear h2 b2 x3 hr hdg
  go_wp2_with (at_builtin; refine wpList_catK _ rfl (.const (.slice none 0 0)) (.tmp 6) 33 rfl w2.heap.size 1 5 .u8 Try.underlying33 info8u (by omega) (.slice none 0 0) 0 [] rfl (World.ownsRow_nil _ _ _ _) A n _ bs rfl R2.out (by omega) (Nat.le_refl _) ?_)
  intro v' w3 hn3 hg
  have hown : w3.ownsRow w2.heap.size 5 1 v' n (bs.map (Value.int .u8)) := by simpa using hn3
  obtain ⟨A3, c3, rfl, -⟩ := own_rd hown
  have B3 := Lib.hid (own_below (B := w2.heap.size) (Below.refl w2.heap.size w2) (World.ownsRow_nil w2 w2.heap.size 5 1) hg (Nat.le_refl _) (Nat.le_refl _))
  have H3 := Lib.hid (H2.out.below B3.out)
  have OW := Lib.hid (show Own8 w3 w.heap.size (.slice A3 n c3) bs by
    have h9 := R2.out.len
    show w3.ownsRow _ _ 1 _ bs.length _
    rw [h9]
    exact own_base hown (Nat.le_trans B1.out.size B2.out.size))
  clear hn3 hg hown
  go_wp2_with fail
  go_ret
  refine ⟨_, bs, L2, q2, rfl, OW.out, DG.out, H3.out, (B1.out.trans B2.out).trans (Ti.of B3.out (Nat.le_refl _)), ?_⟩
  rcases X1.out with ⟨k1, k2, k3⟩ | ⟨k1, k2⟩
  · rcases X3.out with ⟨j1, j2, j3, j4⟩ | ⟨j1, j2, j3⟩
    · exact .inl ⟨k1, by rw [bytesC_at k2, if_pos j1, j2, j3], by rw [j4, k3]⟩
    · exact .inr ⟨.inr (by rw [bytesC_at k2, if_neg (by omega)]), j3⟩
  · refine .inr ⟨k1.imp_right bytesC_no, ?_⟩
    rcases X3.out with ⟨j1, j2, j3, j4⟩ | ⟨j1, j2, j3⟩
    · rw [j4, k2]
    · exact j3
end Go.Proofs.Ytcnekfpgoceblaa
