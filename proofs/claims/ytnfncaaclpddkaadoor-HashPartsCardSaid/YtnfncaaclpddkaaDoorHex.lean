/-
  What the law's hex, cut and number answer.
-/
import Derived.Test.YtnfncaaclpddkaaDoorStm
import Derived.Test.YtnfncaaclpddkaaDoorRnu
import Derived.Deep.QuietTactic
import Derived.BigQuiet
import Derived.Laws.Strings2
namespace Go.Proofs.YtnfncaaclpddkaaDoor
open Go.RowKit
set_option linter.unusedVariables false
def hd (x : Int) : Int := if x < 10 then 48 + x else 87 + x
/-- Bytes by their digits. -/
def hexL (l : List Int) : List Int := l.flatMap fun b => [hd (b / 16), hd (b % 16)]
theorem hexL_snoc (l : List Int) (b : Int) : hexL (l ++ [b]) = hexL l ++ [hd (b / 16), hd (b % 16)] := by simp [hexL]
theorem hexL_len (l : List Int) : (hexL l).length = 2 * l.length := by
  induction l with
  | nil => rfl
  | cons x l ih => simp only [hexL, List.flatMap_cons, List.length_append, List.length_cons, List.length_nil] at ih ⊢; omega
theorem strOfNums_append (a b : List Int) : strOfNums (a ++ b) = strOfNums a ++ strOfNums b := by
  apply ByteArray.ext
  simp [strOfNums]
def hexS (l : List Int) : ByteArray := strOfNums (hexL l)
def digs : ByteArray := ⟨#[48, 49, 50, 51, 52, 53, 54, 55, 56, 57, 97, 98, 99, 100, 101, 102]⟩
theorem digs_hd {i : Nat} (h : i < 16) : (ByteArray.mk #[48, 49, 50, 51, 52, 53, 54, 55, 56, 57, 97, 98, 99, 100, 101, 102]).extract i (i + 1) = strOfNums [hd (i : Int)] := by
  have h : ∀ i, i < 16 → (ByteArray.mk #[48, 49, 50, 51, 52, 53, 54, 55, 56, 57, 97, 98, 99, 100, 101, 102]).extract i (i + 1) = strOfNums [hd (i : Int)] := by decide +kernel
  exact h i ‹_›
theorem slice_digs {i : Nat} (h : i < 16) (w : World) : (Instr.slice 9 (.string ⟨#[48, 49, 50, 51, 52, 53, 54, 55, 56, 57, 97, 98, 99, 100, 101, 102]⟩) (some (.int .u8 (i : Int))) (some (.int .u8 ((i : Int) + 1))) none).run Tryd.prog w = .ok (.string (strOfNums [hd (i : Int)])) w := by
  have h1 : (ByteArray.mk #[48, 49, 50, 51, 52, 53, 54, 55, 56, 57, 97, 98, 99, 100, 101, 102]).size = 16 := rfl
  rw [run_slice_string w 9 _ .u8 .u8 (i : Int) ((i : Int) + 1) Tryd.underlying9 (by omega) (by omega) (by rw [h1]; omega)]
  rw [show ((i : Int) + 1).toNat = i + 1 by omega, show ((i : Int)).toNat = i by omega, digs_hd h]
def HxR (l : List Int) (w : World) (s i : Value) (wr : World) : Prop := ∃ k : Nat, k ≤ l.length ∧ i = .int .i64 k ∧ s = .string (hexS (l.take k)) ∧ Below w.heap.size w wr
set_option maxHeartbeats 4000000 in
theorem hex_any {A : Option Addr} {n c : Nat} {l : List Int} {w : World} (hb : Bs w A n c l) :
    Calls Tryd.prog 19 #[.slice A n c] w fun e w' => e = .returned (.string (hexS l)) ∧ Below w.heap.size w w' := by
  have hl := hb.rd.len
  have hd := hb.dig_
  have HL := Lib.hid hl
  have HD := Lib.hid hd
  have HR := Lib.hid hb.rd
  have hn := hb.c47
  clear hl hd hb
  go_enter Tryd.func19, Tryd.ntmps19
  go_wp2_with fail
  go_loopw [4, 5] (fun s i wr => HxR l w s i wr) (fun _ i _ => n - (intOf i).toNat)
  case atStart => exact ⟨0, Nat.zero_le _, rfl, rfl, Below.refl _ _⟩
  case round =>
    obtain ⟨k, hk, rfl, rfl, hbe⟩ := hrel
    rw [HL.out] at hk
    rcases Nat.lt_or_ge k n with hlt | hge
    · obtain ⟨b, off, x, rfl, hbl, hx, hcell⟩ := HR.out.at_ hlt
      have hcell := (hbe.cell (p := ⟨b, off + k, none⟩) hbl).trans hcell
      have hxd := HD.out x (List.mem_of_getElem? hx)
      have x0 := hxd.1
      have x1 := hxd.2
      have HX := Lib.hid hx
      have q : x.tdiv 16 = x / 16 := Int.tdiv_eq_ediv_of_nonneg x0
      have m : x.tmod 16 = x % 16 := Int.tmod_eq_emod_of_nonneg x0
      have b0 : 0 ≤ x / 16 := by omega
      have b1 : x / 16 < 16 := by omega
      have c0 : 0 ≤ x % 16 := by omega
      have c1 : x % 16 < 16 := by omega
      obtain ⟨u, hu⟩ : ∃ u : Nat, x / 16 = u := ⟨(x / 16).toNat, by omega⟩
      obtain ⟨v, hv⟩ : ∃ v : Nat, x % 16 = v := ⟨(x % 16).toNat, by omega⟩
      obtain ⟨S, hS⟩ : ∃ S, hexS (l.take k) = S := ⟨_, rfl⟩
      rw [hS]
      have HS := Lib.hid hS
      have hki : (k : Int) < (n : Int) := by omega
      have su := Tryd.underlying9
      have u16 : (u : Int) < 16 := by omega
      have v16 : (v : Int) < 16 := by omega
      have wu : IntKind.u8.wrap ((u : Int) + 1) = (u : Int) + 1 := by rw [IntKind.wrap_u8]; omega
      have wv : IntKind.u8.wrap ((v : Int) + 1) = (v : Int) + 1 := by rw [IntKind.wrap_u8]; omega
      have du := slice_digs (i := u) (by omega)
      have dv := slice_digs (i := v) (by omega)
      obtain ⟨U, hU⟩ : ∃ U, strOfNums [hd (u : Int)] = U := ⟨_, rfl⟩
      obtain ⟨V, hV⟩ : ∃ V, strOfNums [hd (v : Int)] = V := ⟨_, rfl⟩
      rw [hU] at du
      rw [hV] at dv
      have zS : S.size = 2 * k := by rw [← hS, hexS, strOfNums_size, hexL_len, List.length_take, HL.out]; omega
      have zU : U.size = 1 := by rw [← hU, strOfNums_size]; rfl
      have zV : V.size = 1 := by rw [← hV, strOfNums_size]; rfl
      have zSU : (S ++ U).size = 2 * k + 1 := by rw [ByteArray.size_append]; omega
      have n1 : ¬ 9223372036854775807 < S.size + U.size := by omega
      have n2 : ¬ 9223372036854775807 < (S ++ U).size + V.size := by omega
      have HU := Lib.hid hU
      have HV := Lib.hid hV
      have HSS := Lib.hid (show hexS (l.take (k + 1)) = S ++ U ++ V by
        have hkl : k < l.length := by rw [HL.out]; exact hlt
        have e : l.take (k + 1) = l.take k ++ [x] := by rw [List.take_succ_eq_append_getElem hkl, (List.getElem?_eq_some_iff.1 hx).2]
        rw [e, hexS, hexL_snoc, ← hS, ← hU, ← hV, hu, hv, hexS, ← strOfNums_append, ← strOfNums_append, List.append_assoc]; rfl)
      clear hS hx hxd b0 b1 c0 c1 hU hV zS zU zV zSU
      go_wp2_with fail
      go_quiet (fail)
      go_wp2_with fail
      go_roundw
      case rel => exact ⟨k + 1, by rw [HL.out]; omega, by go_num, by rw [HSS.out], below_drewN hbe _⟩
      case measure => simp [intOf]; omega
    · obtain rfl : k = n := by omega
      rw [show l.take k = l by rw [← HL.out, List.take_length]]
      go_wp2_with fail
      go_ret
      exact ⟨rfl, hbe⟩
/-- cut: at most k bytes. -/
theorem cut_any {A : Option Addr} {n c m : Nat} (hn : n ≤ 140737488351232) (hnc : n ≤ c) (hA : A = none → n = 0) (w : World) :
    Calls Tryd.prog 8 #[.slice A n c, .int .i64 m] w fun e w' => e = .returned (.slice A (min n m) c) ∧ w = w' := by
  rcases Nat.lt_or_ge m n with h | h
  · rw [Nat.min_eq_right (by omega)]
    have hmi : (m : Int) < (n : Int) := by omega
    have hmc : (m : Int) ≤ (c : Int) := by omega
    cases A with
    | none => have := hA rfl; omega
    | some a =>
      clear hA
      go_enter Tryd.func8, Tryd.ntmps8
      go_wp2_with fail
      go_ret
      exact ⟨rfl, rfl⟩
  · rw [Nat.min_eq_left h]
    have hmi : decide ((m : Int) < (n : Int)) = false := by simp; omega
    have hmi2 : ¬ m < n := by omega
    clear hA
    go_enter Tryd.func8, Tryd.ntmps8
    go_wp2_with fail
    go_ret
    exact ⟨rfl, rfl⟩
theorem Bs.take_ {w : World} {A : Option Addr} {n c : Nat} {l : List Int} (h : Bs w A n c l) (m : Nat) : Bs w A (min n m) c (l.take (min n m)) :=
  ⟨h.rd.take (Nat.min_le_left _ _), h.dig_.take _, Nat.le_trans (Nat.min_le_left _ _) h.nc, Nat.le_trans (Nat.min_le_left _ _) h.c47, h.none_, h.plain⟩
set_option maxHeartbeats 1000000 in
theorem number_i (N : Int) (h0 : 0 ≤ N) (h1 : N < 9223372036854775808) (w : World) :
    Calls Tryd.prog 18 #[.int .i64 N] w (AnsO (be8 N) w) := by
  have hmk := fun W => run_make8 8 (C := 8) rfl (by omega) W
  obtain ⟨Z, hZ⟩ : ∃ Z : List Int, Z = List.replicate 8 0 := ⟨_, rfl⟩
  rw [← hZ] at hmk
  have HZ := Lib.hid hZ
  clear hZ
  go_enter Tryd.func18, Tryd.ntmps18
  go_wp2_with fail
  clear hmk
  go_loopw [0, 4] (fun n i wr => NuR N .i64 w n i wr) (fun _ i _ => (intOf i + 1).toNat)
  case atStart =>
    exact ⟨8, 7, Z, by omega, rfl, rfl, by simp, Row.new _ _ _ _, by rw [HZ.out]; simp, fun j h h' => by omega, (Below.refl _ _).alloc (Nat.le_refl _) _⟩
  case round =>
    obtain ⟨p, v, zs, hp, rfl, hv, rfl, hrow, hzl, hz, hb⟩ := hrel
    have HZE := Lib.hid hz
    have HZL := Lib.hid hzl
    clear hz
    rcases Nat.eq_zero_or_pos p with g | g
    · have hv1 : decide (0 ≤ v) = false := by simp; omega
      have hv2 : v < 0 := by omega
      have hbe : zs = be8 N := ext_dig (by rw [HZL.out, be8_len]) (fun j hj => by rw [HZL.out] at hj; rw [HZE.out j (by omega) hj, be8_dig_at hj])
      have hrow' : Row wr w.heap.size 5 .u8 (be8 N) := by rw [← hbe]; exact hrow
      have ho := Own8.of_row hrow' (Nat.le_refl _) (by rw [be8_len]; omega)
      rw [be8_len] at ho
      clear hzl hbe hrow' hv
      go_wp2_with fail
      go_ret
      exact ⟨_, rfl, ho, hb⟩
    · obtain ⟨m, rfl⟩ : ∃ m, p = m + 1 := ⟨p - 1, by omega⟩
      obtain rfl : v = (m : Int) := by omega
      have fz := hrow.frozen m
      have cz := hrow.cell (getElem?_dig (show m < zs.length by omega))
      obtain ⟨M, hM⟩ : ∃ M, N / 256 ^ (8 - (m + 1)) = M := ⟨_, rfl⟩
      have m0 : 0 ≤ M := by rw [← hM]; exact Int.ediv_nonneg h0 (Int.le_of_lt (Int.pow_pos (by decide)))
      have m1 : M < 9223372036854775808 := by rw [← hM]; have := Int.ediv_le_self (256 ^ (8 - (m + 1))) h0; omega
      rw [hM]
      have HM := Lib.hid hM
      have q1 : M.tdiv 256 = M / 256 := Int.tdiv_eq_ediv_of_nonneg m0
      have q2 : M.tmod 256 = M % 256 := Int.tmod_eq_emod_of_nonneg m0
      clear hzl hM hv
      go_wp2_with fail
      go_roundw
      case rel =>
        refine ⟨m, _, _, by omega, rfl, rfl, ?_, hrow.set _ _, by simpa using HZL.out, fun j hj hj8 => ?_, hb.setCell (Nat.le_refl _) _⟩
        · rw [← HM.out, div_next h0 (by omega)]
        · rcases Nat.lt_or_ge m j with g | g
          · rw [dig_set_ne (by omega)]; exact HZE.out j (by omega) hj8
          · obtain rfl : j = m := by omega
            rw [dig_set_same (by rw [HZL.out]; omega), ← HM.out, show 8 - (j + 1) = 7 - j by omega]
      case measure => simp [intOf]
end Go.Proofs.YtnfncaaclpddkaaDoor
