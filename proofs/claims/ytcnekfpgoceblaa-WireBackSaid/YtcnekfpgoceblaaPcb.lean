/-
  Several texts in one: Inn, Inc, Iby.
-/
import Derived.Test.YtcnekfpgoceblaaPca
import Derived.Test.YtcnekfpgoceblaaHsa
import Derived.BigQuiet
import Derived.Deep.QuietTactic
/-
  The document's way of reading (treenailref11.In), in memory: what next, count and truth answer.
-/
namespace Go.Proofs.Ytcnekfpgoceblaa
open Go.RowKit
set_option linter.unusedVariables false
/-- Nothing that was there has turned but block r. -/
structure Ti (r : Nat) (w w' : World) : Prop where
  os : w'.os = w.os
  tape : w'.tape = w.tape
  output : w'.output = w.output
  size : w.heap.size ≤ w'.heap.size
  block : ∀ k, k < w.heap.size → k ≠ r → w'.heap[k]? = w.heap[k]?
theorem Ti.refl (r : Nat) (w : World) : Ti r w w := ⟨rfl, rfl, rfl, Nat.le_refl _, fun _ _ _ => rfl⟩
theorem Ti.trans {r : Nat} {w w1 w2 : World} (h : Ti r w w1) (k : Ti r w1 w2) : Ti r w w2 :=
  ⟨k.os.trans h.os, k.tape.trans h.tape, k.output.trans h.output, Nat.le_trans h.size k.size, fun i hi hb => (k.block i (Nat.lt_of_lt_of_le hi h.size) hb).trans (h.block i hi hb)⟩
theorem Ti.of {r B : Nat} {w w' : World} (h : Below B w w') (hB : w.heap.size ≤ B) : Ti r w w' := ⟨h.os, h.tape, h.output, h.size, fun k hk _ => h.block k (Nat.lt_of_lt_of_le hk hB)⟩
theorem Ti.drew {r : Nat} {w w' : World} (h : Ti r w w') (n : Nat) : Ti r w (w'.drewN n) := h.trans (Ti.of (below_drewN (Below.refl w'.heap.size w') n) (Nat.le_refl _))
theorem Ti.set (r i : Nat) (w : World) (v : Value) : Ti r w (w.setCell ⟨r, i, none⟩ v) := ⟨rfl, rfl, rfl, by simp, fun k hk hb => heap_setCell_other w _ k v hb⟩
theorem Ti.below {r B : Nat} {w w' : World} (h : Ti r w w') (hB : B ≤ r) (hs : B ≤ w.heap.size) : Below B w w' := ⟨h.os, h.tape, h.output, h.size, fun k hk => h.block k (by omega) (by omega)⟩
/-- What is read from, in block r: the bytes in A, where one stands, whether something was amiss. -/
structure It (w : World) (r : Nat) (A : Option Addr) (n c : Nat) (xs : List Int) (p : Nat) (q : Bool) : Prop where
  row : w.heap[r]? = some (.cells #[.slice A n c, .int .i64 p, .bool q] 85 (0, 0))
  rd : Rd .u8 w A n xs
  dig_ : Dig 256 xs
  ne : ∀ a, A = some a → 0 < n → a.block ≠ r
  le : p ≤ n
  nc : n ≤ c
section
variable {w w' : World} {r : Nat} {A : Option Addr} {n c : Nat} {xs : List Int} {p : Nat} {q : Bool}
theorem It.lt (h : It w r A n c xs p q) : r < w.heap.size := (Array.getElem?_eq_some_iff.1 h.row).1
theorem It.c0 (h : It w r A n c xs p q) : w.cell? ⟨r, 0, none⟩ = some (.slice A n c) := cell_of_row w r 0 _ _ _ h.row
theorem It.c1 (h : It w r A n c xs p q) : w.cell? ⟨r, 1, none⟩ = some (.int .i64 p) := cell_of_row w r 1 _ _ _ h.row
theorem It.c2 (h : It w r A n c xs p q) : w.cell? ⟨r, 2, none⟩ = some (.bool q) := cell_of_row w r 2 _ _ _ h.row
theorem It.fz (h : It w r A n c xs p q) (i : Nat) : w.frozen? ⟨r, i, none⟩ = false := frozen_of_row w r i _ _ h.row
theorem It.below (h : It w r A n c xs p q) (hb : Below w.heap.size w w') : It w' r A n c xs p q := ⟨(hb.block r h.lt).trans h.row, h.rd.below hb, h.dig_, h.ne, h.le, h.nc⟩
theorem It.drewN (h : It w r A n c xs p q) (k : Nat) : It (w.drewN k) r A n c xs p q := h.below (below_drewN (Below.refl _ _) _)
theorem rd_far {kd : IntKind} {g i : Nat} (h : Rd kd w A n xs) (hA : ∀ a, A = some a → 0 < n → a.block ≠ g) (v : Value) : Rd kd (w.setCell ⟨g, i, none⟩ v) A n xs :=
  ⟨h.len, fun hn => by
    obtain ⟨b, off, e, hb, hc⟩ := h.cells hn
    have hne : b ≠ g := hA _ e hn
    exact ⟨b, off, e, by simpa using hb, fun j x hj => (World.cell?_of_block (heap_setCell_other w ⟨g, i, none⟩ b v hne)).trans (hc j x hj)⟩⟩
theorem It.setP (h : It w r A n c xs p q) {p' : Nat} (hp : p' ≤ n) : It (w.setCell ⟨r, 1, none⟩ (.int .i64 p')) r A n c xs p' q :=
  ⟨heap_setCell_same w r 1 _ _ _ h.row, rd_far h.rd h.ne _, h.dig_, h.ne, hp, h.nc⟩
theorem It.setQ (h : It w r A n c xs p q) (q' : Bool) : It (w.setCell ⟨r, 2, none⟩ (.bool q')) r A n c xs p q' :=
  ⟨heap_setCell_same w r 2 _ _ _ h.row, rd_far h.rd h.ne _, h.dig_, h.ne, h.le, h.nc⟩
end
/-- A byte is read, or there is none. -/
def NxP (r : Nat) (A : Option Addr) (n c : Nat) (xs : List Int) (p : Nat) (q : Bool) (w : World) (e : Ending) (w' : World) : Prop :=
  (p < n ∧ e = .returned (.int .i64 (dig xs p)) ∧ It w' r A n c xs (p + 1) q ∧ Ti r w w') ∨ (p = n ∧ e = .returned (.int .i64 0) ∧ It w' r A n c xs p true ∧ Ti r w w')
set_option maxHeartbeats 4000000 in
theorem inext_any {w : World} {r : Nat} {A : Option Addr} {n c : Nat} {xs : List Int} {p : Nat} {q : Bool} (h : It w r A n c xs p q) (hn : n ≤ 140737488355328) :
    Calls Try.prog 54 #[.pointer (some ⟨r, 0, none⟩)] w (NxP r A n c xs p q w) := by
  have HI := Lib.hid h
  have c0 := h.c0
  have c1 := h.c1
  have le := h.le
  rcases Nat.lt_or_ge p n with hlt | hge
  · have e1 : decide ((n : Int) ≤ (p : Int)) = false := by simp; omega
    have wr1 : IntKind.i64.wrap ((p : Int) + 1) = (p : Int) + 1 := by rw [IntWalk.i64_in _ (by omega)]
    go_enter Try.func54, Try.ntmps54
    go_wp2_with fail
    go_quiet (fail)
    obtain ⟨W, hW⟩ : ∃ W, w.drewN nq = W := ⟨_, rfl⟩
    have I1 := Lib.hid (show It W r A n c xs p q by rw [← hW]; exact HI.out.drewN _)
    have B1 := Lib.hid (show Ti r w W by rw [← hW]; exact (Ti.refl _ _).drew _)
    rw [hW]
    have d1 := I1.out.c1
    have d0 := I1.out.fz 1
    clear hW c0 c1 e1 h
    have wr1 : IntKind.i64.wrap ((p : Int) + 1) = (p : Int) + 1 := by rw [IntWalk.i64_in _ (by omega)]
    have I2 := Lib.hid (show It (W.setCell ⟨r, 1, none⟩ (.int .i64 ((p : Int) + 1))) r A n c xs (p + 1) q by
      have e : ((p : Int) + 1) = ((p + 1 : Nat) : Int) := by omega
      rw [e]; exact I1.out.setP (by omega))
    have B2 := Lib.hid (show Ti r w (W.setCell ⟨r, 1, none⟩ (.int .i64 ((p : Int) + 1))) from B1.out.trans (Ti.set _ _ _ _))
    go_wp2_with fail
    obtain ⟨W2, hW2⟩ : ∃ W2, W.setCell ⟨r, 1, none⟩ (.int .i64 ((p : Int) + 1)) = W2 := ⟨_, rfl⟩
    rw [hW2] at I2 B2 ⊢
    have f0 := I2.out.c0
    have f1 : W2.cell? ⟨r, 1, none⟩ = some (.int .i64 ((p : Int) + 1)) := by
      have e : ((p : Int) + 1) = ((p + 1 : Nat) : Int) := by omega
      rw [e]; exact I2.out.c1
    obtain ⟨b, off, x, rfl, hbb, hx, hcell⟩ := I2.out.rd.at_ hlt
    have wr2 : IntKind.i64.wrap ((p : Int) + 1 - 1) = (p : Int) := by rw [IntWalk.i64_in _ (by omega)]; omega
    have pn : (p : Int) < (n : Int) := by omega
    have HX := Lib.hid (dig_lt hx)
    have wx : IntKind.i64.wrap x = x := by
      have := I2.out.dig_ x (List.mem_of_getElem? hx)
      rw [IntWalk.i64_in _ (by omega)]
    clear hx
    go_wp2_with fail
    clear d1 d0 hW2
    go_quiet (fail)
    go_wp2_with fail
    go_ret
    refine .inl ⟨hlt, by rw [HX.out]; rfl, I2.out.drewN _, B2.out.drew _⟩
  · obtain rfl : p = n := by omega
    have e1 : decide ((p : Int) ≤ (p : Int)) = true := by simp
    go_enter Try.func54, Try.ntmps54
    go_wp2_with fail
    go_quiet (fail)
    obtain ⟨W, hW⟩ : ∃ W, w.drewN nq = W := ⟨_, rfl⟩
    have I1 := Lib.hid (show It W r A p c xs p q by rw [← hW]; exact HI.out.drewN _)
    have B1 := Lib.hid (show Ti r w W by rw [← hW]; exact (Ti.refl _ _).drew _)
    rw [hW]
    have d1 := I1.out.c2
    have d0 := I1.out.fz 2
    clear hW c0 c1 e1 h
    go_wp2_with fail
    go_ret
    exact .inr ⟨rfl, rfl, I1.out.setQ true, B1.out.trans (Ti.set _ _ _ _)⟩
end Go.Proofs.Ytcnekfpgoceblaa
/-
  The document's way of reading, in memory: what count answers.
-/
namespace Go.Proofs.Ytcnekfpgoceblaa
open Go.RowKit
set_option linter.unusedVariables false
/-- A reader's answer: what was read and where one stands then, or that something is amiss. -/
def Rdd {α : Type} (cd : Cdc α) (xs : List Int) (p : Nat) (q : Bool) (u : α) (p' : Nat) (q' : Bool) : Prop :=
  (q = false ∧ cd.dec (xs.drop p) = some (u, xs.drop p') ∧ q' = false) ∨ ((q = true ∨ cd.dec (xs.drop p) = none) ∧ q' = true)
theorem drop_at {xs : List Int} {n p : Nat} (hl : xs.length = n) (h : p < n) : xs.drop p = dig xs p :: xs.drop (p + 1) := by
  rw [List.drop_eq_getElem_cons (by omega)]
  congr 1
  unfold dig
  rw [List.getD_eq_getElem?_getD, List.getElem?_eq_getElem (by omega)]; rfl
theorem drop_end {xs : List Int} {n p : Nat} (hl : xs.length = n) (h : n ≤ p) : xs.drop p = [] := List.drop_eq_nil_of_le (by omega)
/-- What is still to be read of a count, behind k of its bytes, V told by them. -/
def cntK (xs : List Int) (p k V : Nat) : Prop :=
  cntD 9 true (xs.drop p) = (cntD (9 - k) (k == 0) (xs.drop (p + k))).map fun x => (V + 128 ^ k * x.1, x.2)
set_option maxRecDepth 100000 in
theorem cntK_zero (xs : List Int) (p : Nat) : cntK xs p 0 0 := by
  unfold cntK
  rw [Nat.sub_zero, Nat.add_zero]
  show _ = (cntD 9 true (xs.drop p)).map _
  cases cntD 9 true (xs.drop p) with
  | none => rfl
  | some x =>
    obtain ⟨u, s⟩ := x
    rw [Option.map_some]
    have e : 0 + 128 ^ 0 * u = u := by rw [Nat.pow_zero]; omega
    rw [e]
theorem cntK_none {xs : List Int} {p k V n : Nat} (h : cntK xs p k V) (hl : xs.length = n) (hk : p + k = n) (hk9 : k < 9) : cntC.dec (xs.drop p) = none := by
  show (match cntD 9 true (xs.drop p) with | none => none | some (v, r) => if v ≤ topC then some (v, r) else none) = none
  rw [h, drop_end hl (by omega), show 9 - k = (8 - k) + 1 by omega]; rfl
theorem cntK_nine {xs : List Int} {p V : Nat} (h : cntK xs p 9 V) : cntC.dec (xs.drop p) = none := by
  show (match cntD 9 true (xs.drop p) with | none => none | some (v, r) => if v ≤ topC then some (v, r) else none) = none
  rw [h]; rfl
theorem cntK_nought {xs : List Int} {p k V n : Nat} (h : cntK xs p k V) (hl : xs.length = n) (hk : p + k < n) (hk9 : k < 9) (h0 : dig xs (p + k) = 0) (hp : 0 < k) : cntC.dec (xs.drop p) = none := by
  show (match cntD 9 true (xs.drop p) with | none => none | some (v, r) => if v ≤ topC then some (v, r) else none) = none
  rw [h, drop_at hl hk, show 9 - k = (8 - k) + 1 by omega, cntD, if_pos ⟨h0, by simp; omega⟩]; rfl
theorem cntK_last {xs : List Int} {p k V n : Nat} (h : cntK xs p k V) (hl : xs.length = n) (hk : p + k < n) (hk9 : k < 9) (h0 : ¬ (dig xs (p + k) = 0 ∧ 0 < k)) (hx : dig xs (p + k) < 128) :
    cntC.dec (xs.drop p) = if V + 128 ^ k * (dig xs (p + k)).toNat ≤ topC then some (V + 128 ^ k * (dig xs (p + k)).toNat, xs.drop (p + k + 1)) else none := by
  show (match cntD 9 true (xs.drop p) with | none => none | some (v, r) => if v ≤ topC then some (v, r) else none) = _
  rw [h, drop_at hl hk, show 9 - k = (8 - k) + 1 by omega, cntD, if_neg (by rintro ⟨a, b⟩; exact h0 ⟨a, by simp at b; omega⟩), if_pos hx]; rfl
theorem cntK_more {xs : List Int} {p k V n : Nat} (h : cntK xs p k V) (hl : xs.length = n) (hk : p + k < n) (hk9 : k < 9) (hx : 128 ≤ dig xs (p + k)) :
    cntK xs p (k + 1) (V + 128 ^ k * ((dig xs (p + k)).toNat - 128)) := by
  unfold cntK at h ⊢
  rw [h, drop_at hl hk, show 9 - k = (9 - (k + 1)) + 1 by omega, cntD, if_neg (by rintro ⟨a, -⟩; omega), if_neg (by omega)]
  rw [show ((k + 1 == 0) = false) from by simp, ← Nat.add_assoc]
  cases cntD (9 - (k + 1)) false (xs.drop (p + k + 1)) with
  | none => simp only [Option.map_none]
  | some x =>
    obtain ⟨u, r⟩ := x
    simp only [Option.map_some, Option.some.injEq, Prod.mk.injEq, and_true]
    rw [Nat.pow_succ, Nat.mul_add, Nat.mul_assoc]
    omega
def IcP (r : Nat) (A : Option Addr) (n c : Nat) (xs : List Int) (p : Nat) (q : Bool) (w : World) (e : Ending) (w' : World) : Prop :=
  ∃ (u p' : Nat) (q' : Bool), e = .returned (.int .i64 u) ∧ u ≤ topC ∧ It w' r A n c xs p' q' ∧ Ti r w w' ∧ Rdd cntC xs p q u p' q'
def IcR (r : Nat) (A : Option Addr) (n c : Nat) (xs : List Int) (p : Nat) (q : Bool) (w : World) (v one i : Value) (wr : World) : Prop :=
  ∃ (k V : Nat), i = .int .i64 k ∧ k ≤ 9 ∧ v = .int .i64 V ∧ V < 128 ^ k ∧ one = .int .i64 (128 ^ min k 8 : Nat) ∧ (q = true → k = 0) ∧ It wr r A n c xs (p + k) q ∧ Ti r w wr ∧ cntK xs p k V
set_option maxHeartbeats 4000000 in
theorem icnt_any {w : World} {r : Nat} {A : Option Addr} {n c : Nat} {xs : List Int} {p : Nat} {q : Bool} (h : It w r A n c xs p q) (hn : n ≤ 140737488355328) :
    Calls Try.prog 33 #[.pointer (some ⟨r, 0, none⟩)] w (IcP r A n c xs p q w) := by
  have HI := Lib.hid h
  have HL := Lib.hid h.rd.len
  clear h
  go_enter Try.func33, Try.ntmps33
  go_wp2_with fail
  go_loopw [3, 4, 5] (fun v one i wr => IcR r A n c xs p q w v one i wr) (fun _ _ i _ => 9 - (intOf i).toNat)
  case atStart => exact ⟨0, 0, rfl, by decide, rfl, by decide, rfl, fun _ => rfl, HI.out, Ti.refl _ _, cntK_zero _ _⟩
  case round =>
    obtain ⟨k, V, rfl, hk, rfl, hV, rfl, hq, hit, hti, hck⟩ := hrel
    have HIT := Lib.hid hit
    have HTI := Lib.hid hti
    have HCK := Lib.hid hck
    have HQ := Lib.hid hq
    clear hit hti hck hq
    rcases Nat.lt_or_ge k 9 with hlt | hge
    · have hki : (k : Int) < 9 := by omega
      have hm : min k 8 = k := by omega
      have HM := Lib.hid hm
      rw [hm]
      obtain ⟨O, hO⟩ : ∃ O, 128 ^ k = O := ⟨_, rfl⟩
      have O56 : O ≤ 72057594037927936 := by rw [← hO]; exact Nat.le_trans (Nat.pow_le_pow_right (by decide) (show k ≤ 8 by omega)) (by decide)
      have HO := Lib.hid hO
      rw [hO] at hV ⊢
      clear hO hm
      go_wp2_with fail
      refine (inext_any HIT.out hn).mono ?_
      rintro e w1 (⟨hp, rfl, h1, b1⟩ | ⟨hp, rfl, h1, b1⟩)
      · obtain ⟨y, hy⟩ : ∃ y : Nat, dig xs (p + k) = y := Int.eq_ofNat_of_zero_le (dig_bd (b := 256) (by decide) HIT.out.dig_ _).1
        have y256 : y < 256 := by have := (dig_bd (b := 256) (by decide) HIT.out.dig_ (p + k)).2; omega
        have HY := Lib.hid hy
        have H1 := Lib.hid h1
        have B1 := Lib.hid b1
        have c2 := h1.c2
        rw [hy]
        clear h1 b1 hy
        by_cases bad : q = true ∨ (y = 0 ∧ 0 < k)
        · have f2 := H1.out.fz 2
          have END : IcP r A n c xs p q w (.returned (.int .i64 (0 : Nat))) (w1.setCell ⟨r, 2, none⟩ (.bool true)) := by
            refine ⟨0, p + k + 1, true, rfl, by decide, H1.out.setQ true, (HTI.out.trans B1.out).trans (Ti.set _ _ _ _), .inr ⟨?_, rfl⟩⟩
            rcases bad with b | ⟨b, b'⟩
            · exact .inl b
            · exact .inr (cntK_nought HCK.out HL.out hp hlt (by rw [HY.out, b]; rfl) b')
          have HE := Lib.hid END
          clear END
          cases q with
          | true =>
            clear bad
            go_wp2_with fail
            go_ret
            exact HE.out
          | false =>
            obtain ⟨rfl, hk0⟩ := bad.resolve_left (by decide)
            have hk1 : decide ((0 : Int) < (k : Int)) = true := by simp; omega
            clear bad
            go_wp2_with fail
            go_ret
            exact HE.out
        · have hq0 : q = false := by cases q; rfl; exact absurd (.inl rfl) bad
          subst hq0
          have f2 := H1.out.fz 2
          by_cases hy0 : y = 0
          · have hk0 : k = 0 := by
              rcases Nat.eq_zero_or_pos k with g | g
              · exact g
              · exact absurd (.inr ⟨hy0, g⟩) bad
            subst hy0
            subst hk0
            have O1 : 1 = O := HO.out
            subst O1
            obtain rfl : V = 0 := by omega
            have DEC := Lib.hid (show cntC.dec (xs.drop p) = some (0, xs.drop (p + 1)) by
              have e := cntK_last HCK.out HL.out hp (by decide) (by rintro ⟨-, h⟩; exact absurd h (by decide)) (by rw [HY.out]; decide)
              rw [HY.out] at e
              exact e.trans (if_pos (by decide)))
            clear bad
            go_wp2_with fail
            go_ret
            exact ⟨0, p + 1, false, rfl, by decide, H1.out, HTI.out.trans B1.out, .inl ⟨rfl, DEC.out, rfl⟩⟩
          · have e0 : (((y : Nat) : Int) == 0) = false := by simp; omega
            obtain ⟨T, hT⟩ : ∃ T : Int, (y : Int) % 128 * (O : Int) = T := ⟨_, rfl⟩
            have q1 : T = ((y % 128 * O : Nat) : Int) := by rw [← hT]; push_cast; rfl
            have q2 : y % 128 * O ≤ 127 * O := Nat.mul_le_mul_right _ (by omega)
            obtain ⟨Y, hY⟩ : ∃ Y, y % 128 * O = Y := ⟨_, rfl⟩
            rw [hY] at q1 q2
            have w1' : IntKind.i64.wrap ((y : Int) % 128 * (O : Int)) = T := by rw [hT, IntWalk.i64_in _ (by omega)]
            obtain ⟨Z, hZ⟩ : ∃ Z, V + Y = Z := ⟨_, rfl⟩
            have w2' : IntKind.i64.wrap ((V : Int) + T) = (Z : Int) := by rw [IntWalk.i64_in _ (by omega)]; omega
            have HZ := Lib.hid (show V + y % 128 * O = Z by rw [hY]; exact hZ)
            have Z63 : Z < 9223372036854775808 := by omega
            have z0 : decide ((Z : Int) < 0) = false := by simp
            clear hZ q1 q2 hT hY bad
            rcases Nat.lt_or_ge y 128 with g | g
            · have g1 : decide ((y : Int) < 128) = true := by simp; omega
              have DEC := Lib.hid (cntK_last HCK.out HL.out hp hlt (by rintro ⟨h, -⟩; rw [HY.out] at h; omega) (by rw [HY.out]; omega))
              have EZ := Lib.hid (show V + 128 ^ k * (dig xs (p + k)).toNat = Z by rw [HY.out, HO.out, Int.toNat_natCast, ← HZ.out, Nat.mod_eq_of_lt g, Nat.mul_comm])
              by_cases ht : Z ≤ topC
              · have t1 : decide (4611686018427387904 < (Z : Int)) = false := by unfold topC at ht; simp; omega
                go_wp2_with fail
                go_ret
                exact ⟨Z, p + k + 1, false, rfl, ht, H1.out, HTI.out.trans B1.out, .inl ⟨rfl, by rw [DEC.out, EZ.out, if_pos ht], rfl⟩⟩
              · have t1 : decide (4611686018427387904 < (Z : Int)) = true := by unfold topC at ht; simp; omega
                go_wp2_with fail
                go_ret
                exact ⟨0, p + k + 1, true, rfl, by decide, H1.out.setQ true, (HTI.out.trans B1.out).trans (Ti.set _ _ _ _), .inr ⟨.inr (by rw [DEC.out, EZ.out, if_neg ht]), rfl⟩⟩
            · have g1 : decide ((y : Int) < 128) = false := by simp; omega
              have ZK := Lib.hid (show cntK xs p (k + 1) Z by
                have e := cntK_more HCK.out HL.out hp hlt (by rw [HY.out]; omega)
                rw [HY.out, HO.out, Int.toNat_natCast, show y - 128 = y % 128 by omega, Nat.mul_comm, HZ.out] at e
                exact e)
              have ZL := Lib.hid (show Z < O * 128 by
                have := HZ.out
                have := Nat.mul_le_mul_right O (show y % 128 ≤ 127 by omega)
                omega)
              rcases Nat.lt_or_ge k 8 with k8 | k8
              · have g2 : decide ((k : Int) < 8) = true := by simp; omega
                have O49 : O ≤ 562949953421312 := by rw [← HO.out]; exact Nat.le_trans (Nat.pow_le_pow_right (by decide) (show k ≤ 7 by omega)) (by decide)
                have w3' : IntKind.i64.wrap ((O : Int) * 128) = ((O * 128 : Nat) : Int) := by rw [IntWalk.i64_in _ (by omega)]; omega
                go_wp2_with fail
                go_roundw
                case rel =>
                  refine ⟨k + 1, Z, by go_num, by omega, rfl, ?_, ?_, fun h => (by cases h), H1.out, HTI.out.trans B1.out, ZK.out⟩
                  · rw [Nat.pow_succ, HO.out]; exact ZL.out
                  · rw [show min (k + 1) 8 = k + 1 by omega, Nat.pow_succ, HO.out]; push_cast; rfl
                case measure => simp [intOf]; omega
              · obtain rfl : k = 8 := by omega
                have g2 : decide ((8 : Int) < 8) = false := by decide
                go_wp2_with fail
                go_roundw
                case rel =>
                  refine ⟨9, Z, by go_num, by omega, rfl, ?_, ?_, fun h => (by cases h), H1.out, HTI.out.trans B1.out, ZK.out⟩
                  · rw [show 9 = 8 + 1 by rfl, Nat.pow_succ, HO.out]; exact ZL.out
                  · rw [← HO.out]; rfl
                case measure => simp [intOf]
      · have H1 := Lib.hid h1
        have B1 := Lib.hid b1
        have c2 := h1.c2
        have f2 := h1.fz 2
        clear h1 b1
        go_wp2_with fail
        go_ret
        exact ⟨0, p + k, true, rfl, by decide, H1.out.setQ true, (HTI.out.trans B1.out).trans (Ti.set _ _ _ _), .inr ⟨.inr (cntK_none HCK.out HL.out hp hlt), rfl⟩⟩
    · obtain rfl : k = 9 := by omega
      have hki : decide ((9 : Int) < 9) = false := by decide
      have c2 := HIT.out.c2
      have f2 := HIT.out.fz 2
      go_wp2_with fail
      go_ret
      exact ⟨0, p + 9, true, rfl, by decide, HIT.out.setQ true, HTI.out.trans (Ti.set _ _ _ _), .inr ⟨.inr (cntK_nine HCK.out), rfl⟩⟩
end Go.Proofs.Ytcnekfpgoceblaa
/-
  The document's way of reading, in memory: what bytes answers.
-/
namespace Go.Proofs.Ytcnekfpgoceblaa
open Go.RowKit
set_option linter.unusedVariables false
def IbP (r : Nat) (A : Option Addr) (n c : Nat) (xs : List Int) (p : Nat) (q : Bool) (w : World) (e : Ending) (w' : World) : Prop :=
  ∃ (v : Value) (bs : List Int) (p' : Nat) (q' : Bool), e = .returned v ∧ Own8 w' w.heap.size v bs ∧ It w' r A n c xs p' q' ∧ Ti r w w' ∧ Rdd bytesC xs p q bs p' q'
theorem byteN : ∀ (n : Nat) (l : List Int), byteC.decN n l = if n ≤ l.length then some (l.take n, l.drop n) else none := fun n => by
  induction n with
  | zero => intro l; rw [if_pos (Nat.zero_le _)]; rfl
  | succ n ih =>
    intro l
    cases l with
    | nil => rfl
    | cons x l =>
      rw [Cdc.decN, show byteC.dec (x :: l) = some (x, l) from rfl]
      simp only
      rw [ih]
      by_cases h : n ≤ l.length
      · rw [if_pos h, if_pos (by simpa using h)]; rfl
      · rw [if_neg h, if_neg (by simpa using h)]
theorem bytesC_some {xs : List Int} {n p p1 m : Nat} (hl : xs.length = n) (h : cntC.dec (xs.drop p) = some (m, xs.drop p1)) : bytesC.dec (xs.drop p) = if m + p1 ≤ n ∨ m = 0 then some ((xs.drop p1).take m, xs.drop (p1 + m)) else none := by
  show (match cntC.dec (xs.drop p) with | none => none | some (n, r) => byteC.decN n r) = _
  rw [h]
  show byteC.decN m (xs.drop p1) = _
  rw [byteN, List.length_drop, hl, List.drop_drop]
  by_cases g : m + p1 ≤ n ∨ m = 0
  · rw [if_pos (by omega), if_pos g]
  · rw [if_neg (by omega), if_neg g]
theorem bytesC_none {xs : List Int} {p : Nat} (h : cntC.dec (xs.drop p) = none) : bytesC.dec (xs.drop p) = none := by
  show (match cntC.dec (xs.drop p) with | none => none | some (n, r) => byteC.decN n r) = _
  rw [h]
theorem addr_addI (b off j : Nat) : (⟨b, off, none⟩ : Addr).add j = ⟨b, off + j, none⟩ := by simp [Addr.add]
/-- A part of a slice. -/
theorem rd_part {k : IntKind} {w : World} {A : Option Addr} {n : Nat} {xs : List Int} (h : Rd k w A n xs) {p1 m c : Nat} (hm : p1 + m ≤ n) (hc : n ≤ c) : Rd k w (if c = p1 then A else A.map (fun x => x.add p1)) m ((xs.drop p1).take m) := by
  refine ⟨by rw [List.length_take, List.length_drop, h.len]; omega, fun h0 => ?_⟩
  obtain ⟨b, off, e, hb, hx⟩ := h.cells (by omega)
  refine ⟨b, off + p1, by rw [if_neg (by omega), e, Option.map_some, addr_addI], hb, fun j x hj => ?_⟩
  rw [Nat.add_assoc]
  refine hx (p1 + j) x ?_
  have hjm : j < m := by
    have := (List.getElem?_eq_some_iff.1 hj).1
    rw [List.length_take] at this; omega
  rw [List.getElem?_take_of_lt hjm, List.getElem?_drop] at hj
  exact hj
theorem own8_nil (w : World) (base : Nat) : Own8 w base (.slice none 0 0) [] := World.ownsRow_nil _ _ _ _
set_option maxHeartbeats 16000000 in
set_option maxRecDepth 100000 in
theorem ibyt_any {w : World} {r : Nat} {A : Option Addr} {n c : Nat} {xs : List Int} {p : Nat} {q : Bool} (h : It w r A n c xs p q) (hn : n ≤ 2097152) :
    Calls Try.prog 35 #[.pointer (some ⟨r, 0, none⟩)] w (IbP r A n c xs p q w) := by
  have HI := Lib.hid h
  have HL := Lib.hid h.rd.len
  clear h
  go_enter Try.func35, Try.ntmps35
  go_wp2_with fail
  refine (icnt_any HI.out (by omega)).mono ?_
  rintro e w1 ⟨m, p1, q1, rfl, hm, h1, b1, rd1⟩
  have H1 := Lib.hid h1
  have B1 := Lib.hid b1
  have RD := Lib.hid rd1
  have c0 := h1.c0
  have c1 := h1.c1
  have c2 := h1.c2
  have le := h1.le
  have f2 := h1.fz 2
  have m63 : (m : Int) < 9223372036854775807 := by unfold topC at hm; omega
  have wr0 : IntKind.i64.wrap ((n : Int) - (p1 : Int)) = (n : Int) - (p1 : Int) := by rw [IntWalk.i64_in _ (by omega)]
  clear h1 b1 rd1
  by_cases bad : q1 = true ∨ n < m + p1
  · have HE := Lib.hid (show ∀ k, IbP r A n c xs p q w (.returned (.slice none 0 0)) ((w1.drewN k).setCell ⟨r, 2, none⟩ (.bool true)) by
      intro k
      refine ⟨_, [], p1, true, rfl, own8_nil _ _, (H1.out.drewN k).setQ true, (B1.out.drew k).trans (Ti.set _ _ _ _), .inr ⟨?_, rfl⟩⟩
      rcases RD.out with ⟨r1, r2, r3⟩ | ⟨r1 | r1, r2⟩
      · right
        rw [bytesC_some HL.out r2, if_neg]
        rcases bad with b | b
        · rw [r3] at b; cases b
        · omega
      · exact .inl r1
      · exact .inr (bytesC_none r1))
    cases q1 with
    | true =>
      clear bad
      go_wp2_with fail
      go_quiet (fail)
      have HE2 := Lib.hid (HE.out nq)
      obtain ⟨W, hW⟩ : ∃ W, w1.drewN nq = W := ⟨_, rfl⟩
      have g2 : W.cell? ⟨r, 2, none⟩ = some (.bool true) := by rw [← hW]; exact (H1.out.drewN _).c2
      have g3 : W.frozen? ⟨r, 2, none⟩ = false := by rw [← hW]; exact (H1.out.drewN _).fz 2
      rw [hW] at HE2 ⊢
      clear hW c0 c1 c2 f2
      go_wp2_with fail
      go_ret
      exact HE2.out
    | false =>
      have b := bad.resolve_left (by decide)
      have e1 : decide ((n : Int) - (p1 : Int) < (m : Int)) = true := by simp; omega
      clear bad b
      go_wp2_with fail
      go_quiet (fail)
      have HE2 := Lib.hid (HE.out nq)
      obtain ⟨W, hW⟩ : ∃ W, w1.drewN nq = W := ⟨_, rfl⟩
      have g2 : W.cell? ⟨r, 2, none⟩ = some (.bool false) := by rw [← hW]; exact (H1.out.drewN _).c2
      have g3 : W.frozen? ⟨r, 2, none⟩ = false := by rw [← hW]; exact (H1.out.drewN _).fz 2
      rw [hW] at HE2 ⊢
      clear hW c0 c1 c2 f2
      go_wp2_with fail
      go_ret
      exact HE2.out
  · have hq : q1 = false := by cases q1; rfl; exact absurd (.inl rfl) bad
    subst hq
    have hmp : m + p1 ≤ n := by
      rcases Nat.lt_or_ge n (m + p1) with g | g
      · exact absurd (.inr g) bad
      · exact g
    have e1 : decide ((n : Int) - (p1 : Int) < (m : Int)) = false := by simp; omega
    obtain ⟨hh, hhe⟩ : ∃ hh, p1 + m = hh := ⟨_, rfl⟩
    have wr1 : IntKind.i64.wrap ((p1 : Int) + (m : Int)) = (hh : Int) := by rw [IntWalk.i64_in _ (by omega)]; omega
    have k0 := H1.out.nc
    have k1 : hh ≤ c := by omega
    have k2 : p1 ≤ hh := by omega
    have k3 : hh - p1 = m := by omega
    have k4 : (hh : Int) ≤ (c : Int) := by omega
    have HHE := Lib.hid hhe
    clear hhe k0
    clear bad
    go_wp2_with fail
    go_quiet (fail)
    obtain ⟨W, hW⟩ : ∃ W, w1.drewN nq = W := ⟨_, rfl⟩
    have H2 := Lib.hid (show It W r A n c xs p1 false by rw [← hW]; exact H1.out.drewN _)
    have B2 := Lib.hid (show Ti r w W by rw [← hW]; exact B1.out.drew _)
    have g0 : W.cell? ⟨r, 0, none⟩ = some (.slice A n c) := H2.out.c0
    have g1 : W.cell? ⟨r, 1, none⟩ = some (.int .i64 p1) := H2.out.c1
    rw [hW]
    clear hW c0 c1 c2 f2
    have sz := H2.out.lt
    obtain ⟨V, hV⟩ : ∃ V, (W.alloc (.cells #[] 5)).drew = V := ⟨_, rfl⟩
    have BV := Lib.hid (show Below W.heap.size W V by rw [← hV]; exact ((Below.refl _ _).alloc (Nat.le_refl _) _).drew)
    have HO := Lib.hid (show V.ownsRow W.heap.size 5 1 (.slice (some ⟨W.heap.size, 0, none⟩) 0 0) 0 (([] : List Int).map (Value.int .u8)) by rw [← hV]; exact own_none_at W 5 .u8 (base := W.heap.size) rfl (Nat.le_refl _))
    have HV := Lib.hid (H2.out.below BV.out)
    have v0 : V.cell? ⟨r, 0, none⟩ = some (.slice A n c) := HV.out.c0
    have v1 : V.cell? ⟨r, 1, none⟩ = some (.int .i64 p1) := HV.out.c1
    go_wp2_with fail
    have HP := Lib.hid (rd_part HV.out.rd (p1 := p1) (m := m) (c := c) (by omega) HV.out.nc)
    have PLEN := Lib.hid HP.out.len
    have sV : W.heap.size ≤ V.heap.size := BV.out.size
    have m44 : 0 + m ≤ 8796093022208 := by omega
    go_region_law (first
      | (refine step_catK _ rfl (.tmp 28) (.tmp 43) 33 rfl W.heap.size 1 5 .u8 Try.underlying33 info8u (by omega) _ 0 [] rfl HO.out _ m _ _ rfl HP.out m44 sV ?_; intro vn wn hn gn; have BN := Lib.hid (own_below BV.out HO.out gn sV (Nat.le_refl _)); have hn' : wn.ownsRow W.heap.size 5 1 vn m (((xs.drop p1).take m).map (Value.int .u8)) := (by simpa using hn); obtain ⟨Av, cv, rfl, -⟩ := own_rd hn'; have ON := Lib.hid (show Own8 wn W.heap.size (.slice Av m cv) ((xs.drop p1).take m) from by show wn.ownsRow _ _ 1 _ ((xs.drop p1).take m).length _; rw [PLEN.out]; exact hn'); clear hn hn' gn v0 v1 g0 g1))
    all_goals
      have HN := Lib.hid (H2.out.below BN.out)
      have x1 := HN.out.c1
      have x2 := HN.out.fz 1
      have FIN := Lib.hid (show IbP r A n c xs p q w (.returned (.slice Av m cv)) (wn.setCell ⟨r, 1, none⟩ (.int .i64 hh)) by
        refine ⟨_, (xs.drop p1).take m, hh, false, rfl, ?_, HN.out.setP (by omega), (B2.out.trans (Ti.of BN.out (Nat.le_refl _))).trans (Ti.set _ _ _ _), ?_⟩
        · exact own_base (ownsRow_setCell_below (show wn.ownsRow W.heap.size 5 1 (.slice Av m cv) ((xs.drop p1).take m).length (((xs.drop p1).take m).map (Value.int .u8)) from ON.out) sz _) B2.out.size
        · rcases RD.out with ⟨r1, r2, -⟩ | ⟨-, r2⟩
          · exact .inl ⟨r1, by rw [bytesC_some HL.out r2, if_pos (.inl hmp), HHE.out], rfl⟩
          · cases r2)
      clear k1 k2 k3 k4 hV sz le m63 wr0 e1 m44 sV hmp
      go_wp2_with fail
    all_goals
      go_ret
      first | exact FIN.out | (have e : c = p1 := (by assumption); subst e; exact FIN.out)
end Go.Proofs.Ytcnekfpgoceblaa
