/-
  What Exp answers, modulo a number.
-/
import Derived.Test.YtloibmemlkfkfaaGreatDoorPkm
import Derived.Deep.WholeRow
import Derived.Deep.DeepCutAuto
import Derived.Deep.CutBlock
namespace Go.Proofs.YtloibmemlkfkfaaGreatDoor
open Go.RowKit
set_option linter.unusedVariables false
section
variable {w : World} {b : Nat} {m : Int} {n : Nat} {A : Option Addr} {c : Nat} {low : Int} {B : Option Addr} {cB : Nat} {S : Option Addr} {cS : Nat}
theorem exp_long (md : Md w b m n A c low B cB S cS) {XA YA : Option Addr} {l cx l' cy : Nat} {X E : Int} (hX : Nm w XA l cx X) (hE : Nm w YA l' cy E) (hl : 64 < dl X ∨ 64 < dl E) :
    Calls Tryz.prog 99 #[.pointer (some ⟨b, 0, none⟩), .slice XA l cx, .slice YA l' cy] w (Err1 2 w) := by
  have HL := Lib.hid hl
  clear hl
  rcases Nat.lt_or_ge 64 (dl E) with g | g
  · have g1 : decide ((4096 : Int) < (nb E : Int)) = true := by
      have := nb_dl hE.pos 64
      simp; omega
    go_enter Tryz.func99, Tryz.ntmps99
    go_wp2_with fail
    refine (bits_any hE).mono ?_
    rintro e w1 ⟨rfl, rfl⟩
    go_wp2
    go_ret2
    exact ⟨rfl, Below.refl _ _⟩
  · have g1 : decide ((4096 : Int) < (nb E : Int)) = false := by
      have := nb_dl hE.pos 64
      simp; omega
    have g2 : 64 < dl X := by have := HL.out; omega
    go_enter Tryz.func99, Tryz.ntmps99
    go_wp2_with fail
    refine (bits_any hE).mono ?_
    rintro e w1 ⟨rfl, rfl⟩
    go_wp2_with fail
    refine (reduce_long md hX g2).mono ?_
    rintro e w1 ⟨rfl, b1⟩
    go_wp2
    go_ret2
    exact ⟨rfl, b1⟩
def nils16 : Array Value := #[.slice none 0 0, .slice none 0 0, .slice none 0 0, .slice none 0 0, .slice none 0 0, .slice none 0 0, .slice none 0 0, .slice none 0 0, .slice none 0 0, .slice none 0 0, .slice none 0 0, .slice none 0 0, .slice none 0 0, .slice none 0 0, .slice none 0 0, .slice none 0 0]
theorem store16 (w : World) {arr : Array Value} (h : arr.size = 16) (h1 : arr.all (·.oneCell') = true) :
    (storeCells ⟨w.heap.size, 0, none⟩ arr.toList).run Tryz.prog (w.alloc (.cells #[.slice none 0 0, .slice none 0 0, .slice none 0 0, .slice none 0 0, .slice none 0 0, .slice none 0 0, .slice none 0 0, .slice none 0 0, .slice none 0 0, .slice none 0 0, .slice none 0 0, .slice none 0 0, .slice none 0 0, .slice none 0 0, .slice none 0 0, .slice none 0 0] 165)) = .ok () (w.alloc (.cells arr 165)) :=
  run_storeCells_new w 165 nils16 arr (by rw [h]; exact size67) (by rw [h]; rfl) h1
theorem store16' (w : World) {arr old : Array Value} {g : Nat} (hg : w.heap[g]? = some (.cells old 165 (0, 0))) (ho : old.size = 16) (h : arr.size = 16) (h1 : arr.all (·.oneCell') = true) :
    (storeCells ⟨g, 0, none⟩ arr.toList).run Tryz.prog w = .ok () (w.setRow g arr) := by
  have := run_storeCells_from (P := Tryz.prog) g 165 arr.toList 0 old w hg (by simp; omega) (fun v hv => (Array.all_eq_true_iff_forall_mem.1 h1) v (by simpa using hv))
  simpa using this
theorem below_al (w : World) (o : Obj) : Below w.heap.size w (w.alloc o) := (Below.refl _ _).alloc (Nat.le_refl _) _
theorem below_dr (w : World) : Below w.heap.size w w.drew := (Below.refl _ _).drew
/-- Where the powers lie when the loop begins. -/
structure Up1 (w1 : World) (m : Int) (n : Nat) (a : Int) (gp : Nat) (arr : Array Value) (gg : Nat) (Bo : Option Addr) : Prop where
  tab : w1.heap[gp]? = some (.cells arr 165 (0, 0))
  size : arr.size = 16
  pows : Pows w1 m n a arr 16 gg Bo
/-- What the powers leave: the table, its forms, all else as it was. -/
def ExC (m : Int) (n : Nat) (a : Int) (w : World) (p : Value) (wx : World) : Prop :=
  ∃ wv gp arr gg Bo, wv = wx ∧ p = .pointer (some ⟨gp, 0, none⟩) ∧ Up1 wv m n a gp arr gg Bo ∧ Below w.heap.size w wv
def ExR (m : Int) (n : Nat) (a E : Int) (w1 : World) (z i : Value) (wr : World) : Prop :=
  ∃ (k : Nat) (v : Int) (Z : Option Addr) (cz : Nat) (T : Int), i = .int .i64 v ∧ v = (k : Int) - 1 ∧ k ≤ (nb E + 3) / 4 ∧ z = .slice Z n cz ∧ Nm wr Z n cz T ∧ Form m n (a ^ (E / 16 ^ k).toNat) T ∧ Below w1.heap.size w1 wr
def ExI (m : Int) (n : Nat) (u : Int) (w1 : World) (z j : Value) (wr : World) : Prop :=
  ∃ (k : Nat) (Z : Option Addr) (cz : Nat) (T : Int), k ≤ 4 ∧ j = .int .i64 k ∧ z = .slice Z n cz ∧ Nm wr Z n cz T ∧ Form m n (u ^ 2 ^ k) T ∧ Below w1.heap.size w1 wr
theorem exp_top {E : Int} (h : 0 ≤ E) : (E / 16 ^ ((nb E + 3) / 4)).toNat = 0 := by
  have h1 := nb_lt h
  have h2 : (2 : Int) ^ nb E ≤ 16 ^ ((nb E + 3) / 4) := by rw [pow16]; exact pow_mono (by decide) (by omega)
  rw [Int.ediv_eq_zero_of_lt h (by omega)]
  rfl
theorem exp_next {E a : Int} {j d : Nat} (h : 0 ≤ E) (hd : E / 16 ^ j % 16 = (d : Int)) : (a ^ (E / 16 ^ (j + 1)).toNat) ^ 2 ^ 4 * a ^ d = a ^ (E / 16 ^ j).toNat := by
  have hp : (0 : Int) < 16 ^ j := Int.pow_pos (by decide)
  have e1 : E / 16 ^ (j + 1) = E / 16 ^ j / 16 := by rw [Int.pow_succ, Int.ediv_ediv_of_nonneg (Int.le_of_lt hp)]
  have q0 := Int.ediv_nonneg h (Int.le_of_lt hp)
  rw [e1]
  generalize E / 16 ^ j = q at *
  have e2 : q.toNat = (q / 16).toNat * 16 + d := by omega
  rw [e2, Int.pow_add, Int.pow_mul]
theorem digit_in {E : Int} {j l : Nat} (h : 0 ≤ E) (hj : j + 1 ≤ (nb E + 3) / 4) (hl : dl E ≤ l) : j / 16 < l := by
  have := (nb_dl h l).2 hl
  omega
theorem digitAt_d {A : Option Addr} {n c : Nat} {N : Int} {w : World} (h : Nm w A n c N) (i d : Nat) (hi : i / 16 < n) (hi2 : i ≤ 100000) (hd : N / 16 ^ i % 16 = (d : Int)) :
    Calls Tryz.prog 135 #[.slice A n c, .int .i64 i] w fun e w' => e = .returned (.int .u64 d) ∧ w = w' := by rw [← hd]; exact digitAt_any h i hi hi2
set_option maxHeartbeats 4000000 in
set_option maxRecDepth 100000 in
theorem exp_any (md : Md w b m n A c low B cB S cS) {XA YA : Option Addr} {l cx l' cy : Nat} {X E : Int} (hX : Nm w XA l cx X) (hE : Nm w YA l' cy E) (hl : dl X ≤ 64) (hl' : dl E ≤ 64) :
    Calls Tryz.prog 99 #[.pointer (some ⟨b, 0, none⟩), .slice XA l cx, .slice YA l' cy] w (Ans (X ^ E.toNat % m) w) := by
  have rx := md.rest X
  have g1 : decide ((4096 : Int) < (nb E : Int)) = false := by
    have := nb_dl hE.pos 64
    simp; omega
  have hlen := md.len
  have hdl : dl (X % m) ≤ n := by have := dl_mono rx.1 (show X % m ≤ m by omega); omega
  clear hlen
  go_enter Tryz.func99, Tryz.ntmps99
  go_wp2_with fail
  refine (bits_any hE).mono ?_
  rintro e w1 ⟨rfl, rfl⟩
  go_wp2_with fail
  refine (reduce_any md hX hl).mono ?_
  rintro e w1 ⟨B1, n1, c1, rfl, k1, b1, -⟩
  have hn1 : n1 ≤ n := by rw [k1.len_]; exact hdl
  have hlt1 : 0 < n := by have := md.n1; omega
  have HK := Lib.hid k1
  have HB := Lib.hid b1
  clear k1 b1
  go_upto_region 6 with fail
  go_cut [10] (fun p wx => ExC m n (X % m) w p wx)
  case first =>
    have HMD : Md w1.drew b m n A c low B cB S cS := md.below HB.out.drew
    have HM := Lib.hid HMD
    have HKD := Lib.hid (HK.out.below (below_dr w1))
    clear HMD
    go_region_with (first
      | (go_at_call 132; refine (form_any HM.out HKD.out.nm hn1 rx.2.1).mono ?_; rintro e w2 ⟨B2, c2, T2, rfl, hN2, hF2, hb2⟩; have HM2 := Lib.hid (HM.out.below hb2); have HF2 := Lib.hid hF2; clear hF2)
      | (go_at_call 132; refine (form_any (HM.out.below (below_al _ _)) (HKD.out.alloc _).nm hn1 rx.2.1).mono ?_; rintro e w2 ⟨B2, c2, T2, rfl, hN2, hF2, hb2⟩; have HM2 := Lib.hid ((HM.out.below (below_al _ _)).below hb2); have HF2 := Lib.hid hF2; have hgC := (hb2.block w1.drew.heap.size (by simp)).trans (heap_alloc_new w1.drew _); have HGC := Lib.hid hgC; clear hF2 hgC)
      | (go_at_call 131; refine (powersOf_any HM2.out hN2 HF2.out).mono ?_; rintro e w3 ⟨arr, rfl, hsz, hall, hp, hb3⟩; have HSZ := Lib.hid hsz; have HALL := Lib.hid hall; have HP := Lib.hid hp; have HM3 := Lib.hid (HM2.out.below hb3); first | (have hgC3 := (hb3.block w1.heap.size (by have := (Array.getElem?_eq_some_iff.1 HGC.out).1; exact this)).trans HGC.out; have hst := store16' w3 hgC3 rfl hsz hall; have HG3 := Lib.hid hgC3; clear hgC3) | have hst := store16 w3 hsz hall; clear hsz hall hp)
      | (go_at_call 131; refine (powersOf_any (HM2.out.below (below_al _ _)) (hN2.alloc _) HF2.out).mono ?_; rintro e w3 ⟨arr, rfl, hsz, hall, hp, hb3⟩; have HSZ := Lib.hid hsz; have HALL := Lib.hid hall; have HP := Lib.hid hp; have HM3 := Lib.hid ((HM2.out.below (below_al _ _)).below hb3); have hgB3 := (hb3.block w2.heap.size (by simp)).trans (heap_alloc_new w2 _); have hst := store16' w3 hgB3 rfl hsz hall; have HG3 := Lib.hid hgB3; clear hsz hall hp hgB3))
    · have s1 := HB.out.size
      have s2 := hb2.size
      have b3 := HB.out.drew.trans (hb2.mono HB.out.drew.size)
      have b4 := b3.trans (hb3.mono b3.size)
      go_wp2_with fail
      go_meet
      exact ⟨_, _, arr, _, B, rfl, rfl, ⟨heap_alloc_new w3 _, HSZ.out, HP.out.below (below_al w3 _)⟩, b4.trans ((below_al w3 _).mono b4.size)⟩
    · have s1 := HB.out.size
      have s2 : w1.heap.size ≤ w2.heap.size := hb2.size
      have b3 := HB.out.drew.trans (hb2.mono HB.out.drew.size)
      have b3' := b3.trans ((below_al w2 (.cells nils16 165)).mono b3.size)
      have b4 := b3'.trans (hb3.mono b3'.size)
      have hs : ∀ o, (w2.alloc o).heap.size = w2.heap.size + 1 := fun o => by simp
      go_wp2_with fail
      go_meet
      exact ⟨_, _, arr, _, B, rfl, rfl, ⟨setRow_heap w3 _ _ arr _ _ HG3.out, HSZ.out, HP.out.setRow (fun x hx => by have := Nm.lt md.one hlt1 x hx; omega) (by rw [hs]; omega) _⟩, below_setRow b4 (by omega) _⟩
    · have s1 := HB.out.size
      have b2' : Below w.heap.size w w1.drew := HB.out.drew
      have b3 := b2'.trans ((below_al w1.drew (.cells nils16 165)).mono b2'.size)
      have b3' := b3.trans (hb2.mono b3.size)
      have b4 := b3'.trans (hb3.mono b3'.size)
      have s2 : w1.heap.size ≤ w2.heap.size := by have := hb2.size; have h1 := (below_al w1.drew (.cells nils16 165)).size; exact Nat.le_trans h1 this
      go_wp2_with fail
      go_meet
      exact ⟨_, _, arr, _, B, rfl, rfl, ⟨setRow_heap w3 _ _ arr _ _ HG3.out, HSZ.out, HP.out.setRow (fun x hx => by have := Nm.lt md.one hlt1 x hx; omega) (by omega) _⟩, below_setRow b4 (by omega) _⟩
  case rest =>
    obtain ⟨wx, gp, arr, gg, Bo, rfl, rfl, hup, bx⟩ := hcut
    have HUP := Lib.hid hup
    have mdx := md.below bx
    have q2 := mdx.c2
    have hXE := hE.below bx
    clear hup
    go_wp2_with fail
    refine (digitCount_any hXE hl').mono ?_
    rintro e wx' ⟨rfl, rfl⟩
    clear q2
    have hcnt : (nb E + 3) / 4 ≤ 2000 := by have := (nb_dl hE.pos 64).2 hl'; omega
    go_wp2_with fail
    go_loopw [11, 12] (fun z i wr => ExR m n (X % m) E wx z i wr) (fun _ i _ => (intOf i + 1).toNat)
    case atStart =>
      refine ⟨(nb E + 3) / 4, _, _, _, _, rfl, by omega, Nat.le_refl _, rfl, mdx.one, ?_, Below.refl _ _⟩
      rw [exp_top hE.pos, Int.pow_zero]
      exact one_form (by have := md.m3; omega)
    case round =>
      obtain ⟨k, v, Z, cz, T, rfl, hv, hk, rfl, hN, hF, hb⟩ := hrel
      have HF := Lib.hid hF
      clear hF
      have b2 := bx.trans (hb.mono bx.size)
      have mdr := md.below b2
      have hEr := hE.below b2
      rcases Nat.eq_zero_or_pos k with hk0 | hk0
      · subst hk0
        obtain rfl : v = -1 := by omega
        clear hv
        have hF0 := HF.out
        rw [Int.pow_zero, Int.ediv_one] at hF0
        go_wp2_with fail
        refine (residue_any mdr hN hF0).mono ?_
        rintro e w4 ⟨B4, n4, c4, rfl, k4, b4, hn4⟩
        rw [((Eqm.mod m X).pow E.toNat).emod] at k4
        go_wp2
        go_ret2
        exact ⟨_, _, _, rfl, k4, b2.trans (b4.mono b2.size), fun a ha => Nat.le_trans b2.size (hn4 a ha)⟩
      · obtain ⟨j, rfl⟩ : ∃ j, k = j + 1 := ⟨k - 1, by omega⟩
        obtain rfl : v = j := by omega
        clear hv
        have hE0 := hE.pos
        obtain ⟨d, hd, hd16⟩ : ∃ d : Nat, E / 16 ^ j % 16 = (d : Int) ∧ d < 16 := ⟨(E / 16 ^ j % 16).toNat, by omega, by omega⟩
        have HD := Lib.hid hd
        clear hd
        have hin := digit_in hE0 hk hE.dl_le
        go_wp2_with fail
        go_loopw [11, 47] (fun z i wr2 => ExI m n ((X % m) ^ (E / 16 ^ (j + 1)).toNat) wr z i wr2) (fun _ i _ => 4 - (intOf i).toNat)
        case atStart => exact ⟨0, _, _, _, by omega, rfl, rfl, hN, by rw [Nat.pow_zero, Int.pow_one]; exact HF.out, Below.refl _ _⟩
        case round =>
          obtain ⟨i, Z2, cz2, T2, hi4, rfl, rfl, hN2, hF2, hb2⟩ := hrel
          have HF2 := Lib.hid hF2
          clear hF2
          have b3 := b2.trans (hb2.mono b2.size)
          have md3 := md.below b3
          rcases Nat.lt_or_ge i 4 with hlt | hge
          · go_wp2_with fail
            refine (times_any md3 hN2 hN2 HF2.out.lt).mono ?_
            rintro e w5 ⟨B5, c5, T5, rfl, hN5, hT5, b5, -⟩
            have HT5 := Lib.hid (hT5.form md.odd HF2.out HF2.out)
            clear hT5
            go_wp2
            go_roundw
            case rel =>
              refine ⟨i + 1, _, _, _, by omega, by go_num, rfl, hN5, ?_, hb2.trans (b5.mono hb2.size)⟩
              have e : ((X % m) ^ (E / 16 ^ (j + 1)).toNat) ^ 2 ^ (i + 1) = ((X % m) ^ (E / 16 ^ (j + 1)).toNat) ^ 2 ^ i * ((X % m) ^ (E / 16 ^ (j + 1)).toNat) ^ 2 ^ i := by
                rw [← Int.pow_add, Nat.pow_succ]; congr 1; omega
              rw [e]
              exact HT5.out
            case measure => simp [intOf]; omega
          · obtain rfl : i = 4 := by omega
            have hE3 := hE.below b3
            have bt' := hb.trans (hb2.mono hb.size)
            have hgp : gp < wx.heap.size := (Array.getElem?_eq_some_iff.1 HUP.out.tab).1
            have htab := (bt'.block gp hgp).trans HUP.out.tab
            obtain ⟨Ad, cd, Td, ed, hNd, hFd, -⟩ := (HUP.out.pows.below bt') d hd16
            have hcell := (cell_of_row _ gp d arr _ _ htab).trans ed
            have HFD := Lib.hid hFd
            clear htab ed hFd
            have hd1 : (d : Int) < 16 := by omega
            go_wp2_with fail
            go_region_with (first
              | (go_at_call 135; refine (digitAt_d (hE3.below (below_dr _)) j d hin (by omega) HD.out).mono ?_; rintro e w6 ⟨rfl, rfl⟩)
              | (go_at_call 134; refine (times_any (md3.below (below_dr _)) (hN2.below (below_dr _)) (hNd.below (below_dr _)) HF2.out.lt).mono ?_; rintro e w6 ⟨B6, c6, T6, rfl, hN6, hT6, b6, -⟩; have HT6 := Lib.hid (hT6.form md.odd HF2.out HFD.out); clear hT6))
            all_goals
              go_wp2
              go_roundw
              case rel =>
                refine ⟨j, _, _, _, _, rfl, by omega, by omega, rfl, hN6, ?_, ?_⟩
                · rw [← exp_next hE0 HD.out]; exact HT6.out
                · have b7 := bt'.drew
                  exact b7.trans (b6.mono b7.size)
              case measure => simp [intOf]
end
end Go.Proofs.YtloibmemlkfkfaaGreatDoor
