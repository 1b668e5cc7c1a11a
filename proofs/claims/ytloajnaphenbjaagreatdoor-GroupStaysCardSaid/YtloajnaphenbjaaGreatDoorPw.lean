/-
  What mont's powersOf, digitCount and digitAt answer.
-/
import Derived.Test.YtloajnaphenbjaaGreatDoorMk
import Derived.Laws.Rows
import Derived.Laws.Tables
namespace Go.Proofs.YtloajnaphenbjaaGreatDoor
open Go.RowKit
set_option linter.unusedVariables false
/-! ### Digits of four bits -/
theorem four_split {xs : List Int} {k r : Nat} (hd : Dig W xs) (hr : r ≤ 60) : val W xs / 2 ^ (64 * k + r) % 16 = dig xs k / 2 ^ r % 16 := by
  have h := val_vf W xs (m := k + 1 + xs.length) (by omega)
  rw [vf_split W (dig xs) (k + 1) xs.length] at h
  have hlow := vf_bd (b := W) (by decide) (fun j => dig_bd (b := W) (by decide) hd j) k
  generalize vf W (fun j => dig xs (k + 1 + j)) xs.length = hi at h
  simp only [vf] at h
  rw [h]
  have e1 : (2 : Int) ^ (64 * k + r) = W ^ k * 2 ^ r := by rw [Int.pow_add, W_pow]
  have e2 : W ^ (k + 1) = W ^ k * W := Int.pow_succ _ _
  have e3 : W = 2 ^ r * 2 ^ (60 - r) * 16 := by
    rw [← Int.pow_add, show r + (60 - r) = 60 by omega]; decide
  have hp := pow_pos' W_two k
  have hp2 : (0 : Int) < 2 ^ r := Int.pow_pos (by decide)
  have e4 : vf W (dig xs) k + dig xs k * W ^ k + W ^ (k + 1) * hi = vf W (dig xs) k + W ^ k * (dig xs k + W * hi) := by rw [e2]; grind
  rw [e4, e1, ← Int.ediv_ediv_of_nonneg (Int.le_of_lt hp), Int.add_mul_ediv_left _ _ (Int.ne_of_gt hp), Int.ediv_eq_zero_of_lt hlow.1 hlow.2, Int.zero_add]
  have e5 : dig xs k + W * hi = dig xs k + 2 ^ r * (16 * (2 ^ (60 - r) * hi)) := by
    have : W * hi = 2 ^ r * (16 * (2 ^ (60 - r) * hi)) := by
      conv => lhs; rw [e3]
      generalize (2 : Int) ^ r = p
      generalize (2 : Int) ^ (60 - r) = q
      grind
    rw [this]
  rw [e5, Int.add_mul_ediv_left _ _ (Int.ne_of_gt hp2), Int.add_mul_emod_self_left]
theorem pow16 (i : Nat) : (16 : Int) ^ i = 2 ^ (4 * i) := by
  have : (16 : Int) = 2 ^ 4 := by decide
  rw [this, ← Int.pow_mul]
theorem four_at {xs : List Int} {i : Nat} (hd : Dig W xs) : val W xs / 16 ^ i % 16 = dig xs (i / 16) / 2 ^ (4 * (i % 16)) % 16 := by
  rw [pow16, ← four_split hd (by omega)]
  congr 3
  omega
theorem digitCount_any {A : Option Addr} {n c : Nat} {N : Int} {w : World} (h : Nm w A n c N) (hN : dl N ≤ 64) :
    Calls Tryz.prog 91 #[.slice A n c] w fun e w' => e = .returned (.int .i64 (((nb N + 3) / 4 : Nat) : Int)) ∧ w = w' := by
  have hb := (nb_dl h.pos 64).2 hN
  have e : ((((nb N : Nat) : Int) + 4 - 1) / 4) = (((nb N + 3) / 4 : Nat) : Int) := by omega
  have HE := Lib.hid e
  clear e
  go_enter Tryz.func91, Tryz.ntmps91
  go_wp2_with fail
  refine (bits_any h).mono ?_
  rintro e w1 ⟨rfl, rfl⟩
  go_wp2
  go_ret
  exact ⟨congrArg (fun v => Ending.returned (.int .i64 v)) HE.out, rfl⟩
theorem digitAt_any {A : Option Addr} {n c : Nat} {N : Int} {w : World} (h : Nm w A n c N) (i : Nat) (hi : i / 16 < n) (hi2 : i ≤ 100000) :
    Calls Tryz.prog 93 #[.slice A n c, .int .i64 i] w fun e w' => e = .returned (.int .u64 (N / 16 ^ i % 16)) ∧ w = w' := by
  obtain ⟨⟨xs, h1, h2, h3⟩, h4, h5, h6⟩ := h
  have hsp := four_at (i := i) h2
  rw [h3] at hsp
  obtain ⟨b, off, x, rfl, hb, hx, hcell⟩ := h1.at_ hi
  have hxe := dig_lt hx
  have d := dig_W h2 (i / 16)
  rw [hxe] at hsp d
  have HSP := Lib.hid hsp
  have g1 : (i : Int) / 16 < (n : Int) := by omega
  have g2 : ((i : Int) / 16).toNat = i / 16 := by omega
  have g3 : (4 * ((i : Int) % 16)).toNat = 4 * (i % 16) := by omega
  have g4 : 0 ≤ 4 * ((i : Int) % 16) := by omega
  have g5 : 0 ≤ (i : Int) / 16 := by omega
  have q0 : 0 ≤ x / 2 ^ (4 * (i % 16)) := Int.ediv_nonneg d.1 (Int.le_of_lt (Int.pow_pos (by decide)))
  clear hsp hxe hx h1 h3
  go_enter Tryz.func93, Tryz.ntmps93
  go_wp2
  go_ret
  exact ⟨by rw [HSP.out]; rfl, rfl⟩
/-! ### The table of powers -/
/-- Up to k the table's cells are the forms of a's powers: the slice Bo, or in blocks behind g + 1. -/
def Pows (w : World) (m : Int) (n : Nat) (a : Int) (arr : Array Value) (k g : Nat) (Bo : Option Addr) : Prop :=
  ∀ j, j < k → ∃ A c T, arr[j]? = some (.slice A n c) ∧ Nm w A n c T ∧ Form m n (a ^ j) T ∧ (A = Bo ∨ ∀ x, A = some x → g + 1 < x.block)
theorem Pows.below {w w' : World} {m : Int} {n : Nat} {a : Int} {arr : Array Value} {k g : Nat} {Bo : Option Addr} (h : Pows w m n a arr k g Bo) (hb : Below w.heap.size w w') : Pows w' m n a arr k g Bo := fun j hj => by
  obtain ⟨A, c, T, h1, h2, h3, h4⟩ := h j hj
  exact ⟨A, c, T, h1, h2.below hb, h3, h4⟩
theorem Nm.setRow {w : World} {A : Option Addr} {n c : Nat} {N : Int} (h : Nm w A n c N) {g : Nat} (hne : ∀ a, A = some a → a.block ≠ g) (cs : Array Value) : Nm (w.setRow g cs) A n c N := by
  obtain ⟨⟨xs, h1, h2, h3⟩, h4, h5, h6⟩ := h
  refine ⟨⟨xs, ⟨h1.len, fun hn => ?_⟩, h2, h3⟩, h4, h5, h6⟩
  obtain ⟨b, off, e, hb, hc⟩ := h1.cells hn
  exact ⟨b, off, e, by rw [setRow_size]; exact hb, fun j x hx => (cell_setRow_other w g cs ⟨b, off + j, none⟩ (hne ⟨b, off, none⟩ e)).trans (hc j x hx)⟩
theorem Pows.setRow {w : World} {m : Int} {n : Nat} {a : Int} {arr : Array Value} {k g g' : Nat} {Bo : Option Addr} (h : Pows w m n a arr k g Bo) (hB : ∀ x, Bo = some x → x.block < g') (hg : g' ≤ g + 1) (cs : Array Value) : Pows (w.setRow g' cs) m n a arr k g Bo := fun j hj => by
  obtain ⟨A, c, T, h1, h2, h3, h4⟩ := h j hj
  refine ⟨A, c, T, h1, h2.setRow (fun x hx => ?_) cs, h3, h4⟩
  rcases h4 with h4 | h4
  · have := hB x (h4 ▸ hx); omega
  · have := h4 x hx; omega
theorem Pows.snoc {w : World} {m : Int} {n : Nat} {a : Int} {arr : Array Value} {k g : Nat} {Bo : Option Addr} (h : Pows w m n a arr k g Bo) (hk : k < arr.size) {A : Option Addr} {c : Nat} {T : Int} (h2 : Nm w A n c T) (h3 : Form m n (a ^ k) T) (h4 : ∀ x, A = some x → g + 1 < x.block) :
    Pows w m n a (arr.setIfInBounds k (.slice A n c)) (k + 1) g Bo := fun j hj => by
  rcases Nat.lt_or_ge j k with g1 | g1
  · obtain ⟨A', c', T', e1, e2, e3, e4⟩ := h j g1
    exact ⟨A', c', T', by rw [Array.getElem?_setIfInBounds, if_neg (by omega)]; exact e1, e2, e3, e4⟩
  · obtain rfl : j = k := by omega
    exact ⟨A, c, T, by rw [Array.getElem?_setIfInBounds, if_pos rfl, if_pos hk], h2, h3, .inr h4⟩
def PwR (m : Int) (n : Nat) (a : Int) (Bo : Option Addr) (w : World) (i : Value) (wr : World) : Prop :=
  ∃ (k : Nat) (arr old : Array Value), k + 1 ≤ 16 ∧ i = .int .i64 ((k : Int) + 1) ∧ wr.heap[w.heap.size]? = some (.cells old 132 (0, 0)) ∧ old.size = 16 ∧ wr.heap[w.heap.size + 1]? = some (.cells arr 132 (0, 0)) ∧ arr.size = 16 ∧ arr.all (·.oneCell') = true ∧
    Pows wr m n a arr (k + 1) w.heap.size Bo ∧ Below w.heap.size w wr
def PwP (m : Int) (n : Nat) (a : Int) (Bo : Option Addr) (w : World) (e : Ending) (w' : World) : Prop :=
  ∃ arr : Array Value, e = .returned (.agg arr) ∧ arr.size = 16 ∧ arr.all (·.oneCell') = true ∧ Pows w' m n a arr 16 w.heap.size Bo ∧ Below w.heap.size w w'
theorem Nm.lt {w : World} {A : Option Addr} {n c : Nat} {N : Int} (h : Nm w A n c N) (hn : 0 < n) : ∀ x, A = some x → x.block < w.heap.size := by
  obtain ⟨⟨xs, h1, h2, h3⟩, h4, h5, h6⟩ := h
  intro x hx
  obtain ⟨b, off, e, hb, hc⟩ := h1.cells hn
  rw [e] at hx; injection hx with hx; subst hx; exact hb
theorem one_form {m : Int} {n : Nat} (hm : 0 < m) : Form m n (1 : Int) (W ^ n % m) := ⟨Int.emod_nonneg _ (by omega), Int.emod_lt_of_pos _ hm, by rw [Int.one_mul]; exact Eqm.mod m _⟩
theorem two_blocks (w : World) (o o' : Obj) : ((w.alloc o).alloc o').heap[w.heap.size]? = some o ∧ ((w.alloc o).alloc o').heap[w.heap.size + 1]? = some o' := by
  have e : (w.alloc o).heap.size = w.heap.size + 1 := by simp
  have h := heap_alloc_new (w.alloc o) o'
  rw [e] at h
  exact ⟨(Below.heap_alloc (w.alloc o) o' w.heap.size (by rw [e]; omega)).trans (heap_alloc_new w o), h⟩
theorem size67 : (Tryz.prog.info? 132).map (·.size) = some 16 := by kernel_rfl
set_option maxHeartbeats 4000000 in
set_option maxRecDepth 100000 in
theorem powersOf_any {w : World} {b : Nat} {m : Int} {n : Nat} {A : Option Addr} {c : Nat} {low : Int} {B : Option Addr} {cB : Nat} {S : Option Addr} {cS : Nat} (md : Md w b m n A c low B cB S cS)
    {XA : Option Addr} {cx : Nat} {X a : Int} (hX : Nm w XA n cx X) (hF : Form m n a X) :
    Calls Tryz.prog 89 #[.pointer (some ⟨b, 0, none⟩), .slice XA n cx] w (PwP m n a B w) := by
  have q2 := md.c2
  have hlt := md.lt
  have n1 := md.n1
  have HF := Lib.hid hF
  clear hF
  go_enter Tryz.func89, Tryz.ntmps89
  go_wp2_with fail
  have hone := Nm.lt md.one (by omega)
  go_loopw [6] (fun i wr => PwR m n a B w i wr) (fun i _ => 16 - (intOf i).toNat)
  case atStart =>
    refine ⟨0, _, _, by omega, rfl, (two_blocks w _ _).1, rfl, (two_blocks w _ _).2, rfl, by simp [Value.oneCell'], ?_, ((Below.refl _ _).alloc (Nat.le_refl _) _).alloc (by simp) _⟩
    intro j hj
    obtain rfl : j = 0 := by omega
    refine ⟨B, cB, _, rfl, (md.one.alloc _).alloc _, ?_, .inl rfl⟩
    rw [Int.pow_zero]
    exact one_form (by have := md.m3; omega)
  case round =>
    obtain ⟨k, arr, old, hk, rfl, hg0, ho, hg1, ha, hall, hp, hb⟩ := hrel
    have HG0 := Lib.hid hg0
    have HO := Lib.hid ho
    have HG1 := Lib.hid hg1
    have HA := Lib.hid ha
    have HALL := Lib.hid hall
    have HP := Lib.hid hp
    clear hg0 ho hg1 hall hp
    have lt1 : w.heap.size + 1 < wr.heap.size := (Array.getElem?_eq_some_iff.1 HG1.out).1
    rcases Nat.lt_or_ge (k + 1) 16 with hlt16 | hge
    · obtain ⟨A1, c1, T1, e1, hN1, hF1, hne1⟩ := HP.out k (by omega)
      have hcell := (cell_of_row wr (w.heap.size + 1) k arr _ _ HG1.out).trans e1
      have mdw := md.below hb
      have hXw := hX.below hb
      have HE1 := Lib.hid e1
      clear e1 ha
      have g1 : (k : Int) + 1 < 16 := by omega
      go_wp2_with fail
      refine (times_any mdw hN1 hXw hF1.lt).mono ?_
      rintro e w1 ⟨B2, c2, T2, rfl, hN2, hT2, hb2, hn2⟩
      have hF2 := hT2.form md.odd hF1 HF.out
      rw [← Int.pow_succ] at hF2
      have hg1' := (hb2.block (w.heap.size + 1) lt1).trans HG1.out
      have hg0' := (hb2.block w.heap.size (by omega)).trans HG0.out
      have hfz := frozen_of_row w1 (w.heap.size + 1) (k + 1) arr _ hg1'
      have hck := (cell_of_row w1 (w.heap.size + 1) (k + 1) arr _ _ hg1').trans (Array.getElem?_eq_getElem (show k + 1 < arr.size by rw [HA.out]; omega))
      have HG1' := Lib.hid hg1'
      have HG0' := Lib.hid hg0'
      have HN2 := Lib.hid hn2
      clear hg1' hg0' hcell hn2
      generalize arr[k + 1]'(show k + 1 < arr.size by rw [HA.out]; omega) = vk at hck
      go_wp2
      go_roundw
      case rel =>
        have hset := setCell_eq_setRow w1 (w.heap.size + 1) (k + 1) arr _ _ (.slice B2 n c2) HG1'.out
        rw [hset]
        refine ⟨k + 1, arr.setIfInBounds (k + 1) (.slice B2 n c2), old, by omega, by go_num, ?_, HO.out, setRow_heap w1 _ arr _ _ _ HG1'.out, by rw [Array.size_setIfInBounds]; exact HA.out, ?_, ?_, ?_⟩
        · rw [setRow_other w1 _ _ _ (by omega)]; exact HG0'.out
        · rw [Array.all_eq_true_iff_forall_mem]
          intro v hv
          have hall := Array.all_eq_true_iff_forall_mem.1 HALL.out
          rcases Array.mem_or_eq_of_mem_setIfInBounds hv with hv | rfl
          · exact hall v hv
          · rfl
        · refine ((HP.out.below hb2).snoc (by rw [HA.out]; omega) hN2 hF2 (fun x hx => by have := HN2.out x hx; omega)).setRow (fun x hx => by have := hone x hx; omega) (Nat.le_refl _) _
        · exact below_setRow (hb.trans (hb2.mono hb.size)) (by omega) _
      case measure => simp [intOf]; omega
    · obtain rfl : k = 15 := by omega
      clear ha
      go_wp2_with (first | (refine wpList_load_row rfl 132 (.tmp 5) rfl (w.heap.size + 1) rfl _ arr _ _ HG1.out Tryz.underlying132 rfl ?h1 ?_) | (refine wpList_store_row rfl 132 (.tmp 4) (.tmp 25) rfl w.heap.size arr rfl rfl _ old HG0.out ?h2 ?h3 HALL.out ?_))
      case h1 => rw [HA.out]; exact size67
      case h2 => rw [HA.out]; exact size67
      case h3 => rw [HA.out]; exact HO.out
      refine bodyPost_ret (v := .agg arr) (results_cell_row Tryz.results89 _ _ w.heap.size _ arr _ _ rfl (setRow_heap wr _ old arr _ _ HG0.out) Tryz.underlying132 rfl (by rw [HA.out]; exact size67)) rfl ?_
      exact ⟨arr, rfl, HA.out, HALL.out, HP.out.setRow hone (by omega) _, below_setRow hb (Nat.le_refl _) _⟩
end Go.Proofs.YtloajnaphenbjaaGreatDoor
