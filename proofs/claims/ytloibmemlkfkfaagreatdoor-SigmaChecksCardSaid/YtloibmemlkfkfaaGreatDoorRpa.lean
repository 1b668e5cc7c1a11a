/-
  What the document's Parts answers.
-/
import Derived.Test.YtloibmemlkfkfaaGreatDoorShd
import Derived.Test.YtloibmemlkfkfaaGreatDoorMdt
import Derived.Test.YtloibmemlkfkfaaGreatDoorFrm
namespace Go.Proofs.YtloibmemlkfkfaaGreatDoor
open Go.RowKit
set_option linter.unusedVariables false
/-- The bytes, part by part: whatever lies below s stays. -/
def RpR (L : List (List Int)) (s : Nat) (W0 : World) (v i : Value) (wr : World) : Prop :=
  ∃ k : Nat, k ≤ L.length ∧ i = .int .i64 k ∧ Own8 wr s v (fr (L.take k)) ∧ Below s W0 wr
set_option maxHeartbeats 4000000 in
theorem rparts_any {AK AH : Option Addr} {cK cH : Nat} {A : Option Addr} {n c : Nat} {L : List (List Int)} {w : World} (hK : Rd .u32 w AK 64 KT) (hH : Rd .u32 w AH 8 H0.l) (hp : Pts w A n c L) (hl : (fr L).length ≤ 1000000) (hn : n ≤ 1000000) (hd : ∀ xs ∈ L, Dig 256 xs) :
    Calls Tryz.prog 85 #[.agg #[.slice AK 64 cK, .slice AH 8 cH], .slice A n c] w (AnsOb (parts L) w) := by
  have HLEN := Lib.hid hp.len
  obtain ⟨W0, hW0⟩ : ∃ W0, w.alloc (.cells #[.slice AK 64 cK, .slice AH 8 cH] 126) = W0 := ⟨_, rfl⟩
  obtain ⟨s, hs⟩ : ∃ s, w.heap.size + 1 = s := ⟨_, rfl⟩
  have S0 : W0.heap.size = s := by rw [← hW0, ← hs]; simp
  have HBX := Lib.hid (show W0.heap[w.heap.size]? = some (.cells #[.slice AK 64 cK, .slice AH 8 cH] 126 (0, 0)) by rw [← hW0]; exact heap_alloc_new w _)
  have HB0 := Lib.hid (show Below w.heap.size w W0 by rw [← hW0]; exact (Below.refl _ w).alloc (Nat.le_refl _) _)
  have HP := Lib.hid (hp.below HB0.out)
  have HK0 := Lib.hid (hK.below HB0.out)
  have HH0 := Lib.hid (hH.below HB0.out)
  have HW0 := Lib.hid hW0
  have HS := Lib.hid hs
  have HD := Lib.hid (fr_dig hd)
  clear hW0 hK hH hp hs hd
  go_enter Tryz.func85, Tryz.ntmps85
  go_wp2_with fail
  rw [HW0.out]
  go_loopw [5, 6] (fun v i wr => RpR L s W0 v i wr) (fun _ i _ => n - (intOf i).toNat)
  case atStart => exact ⟨0, Nat.zero_le _, rfl, Own8.nil _ _, Below.refl _ _⟩
  case round =>
    obtain ⟨k, hk, rfl, ho, hb⟩ := hrel
    rw [HLEN.out] at hk
    have sb := hb.size
    rw [S0] at sb
    rcases Nat.lt_or_ge k n with hlt | hge
    · obtain ⟨b, off, rfl, hbl, hc⟩ := HP.out.cells (by omega)
      obtain ⟨Aj, cj, xs, hx, hcell, hbs⟩ := hc k hlt
      rw [S0] at hbl
      have hf := fr_take_len L (k + 1)
      rw [fr_snoc hx, List.length_append, List.length_append, be8_len] at hf
      obtain ⟨m, hm⟩ : ∃ m, xs.length = m := ⟨_, rfl⟩
      obtain ⟨fk, hfk⟩ : ∃ fk, (fr (L.take k)).length = fk := ⟨_, rfl⟩
      rw [hm] at hf hcell hbs
      rw [hfk] at hf
      have HX := Lib.hid hx
      have HM := Lib.hid hm
      have HFK := Lib.hid hfk
      have HO := Lib.hid ho
      have HBS := Lib.hid hbs
      have HC0 := Lib.hid hcell
      have hcell := (hb.cell (p := ⟨b, off + k, none⟩) hbl).trans hcell
      have hkn : (k : Int) < (n : Int) := by omega
      clear hx hm hfk ho hc hbs
      go_wp2_with fail
      refine (number_any (m : Int) (by omega) (by omega) _).mono ?_
      rintro e w1 ⟨v1, rfl, ho1, hb1⟩
      obtain ⟨A1, c1, rfl, hr1, -, -⟩ := ho1.rd
      rw [be8_len] at hr1 ⊢
      have HO1 := Lib.hid (HO.out.below hb1)
      have HR1 := Lib.hid hr1
      have s2 := hb1.size
      have b1 := hb.trans (hb1.mono sb)
      clear hr1 ho1 hcell
      go_wp2_with (at_builtin; refine wpList_cat8 _ rfl _ _ 22 rfl s 5 .u8 Tryz.underlying22 info8u _ _ (fr (L.take k)) rfl HO1.out _ _ _ (be8 m) rfl HR1.out (by rw [HFK.out]; omega) (by omega) ?_)
      rintro v2 w2 h2 hg2
      rw [HFK.out] at h2
      have ho2 := Own8.app HFK.out (be8_len m) h2
      have b2 := own_below b1 HO1.out hg2 (by omega) (Nat.le_refl _)
      have HO2 := Lib.hid ho2
      have hcell2 := (b2.cell (p := ⟨b, off + k, none⟩) hbl).trans HC0.out
      have HR2 := Lib.hid (HBS.out.below (by rw [S0]; exact b2)).rd
      clear ho2 h2
      have hl2 : (fr (L.take k) ++ be8 m).length = fk + 8 := by rw [List.length_append, HFK.out, be8_len]
      have HL2 := Lib.hid hl2
      have s3 := b2.size
      rw [S0] at s3
      clear hl2
      go_wp2_with (at_builtin; refine wpList_cat8 _ rfl _ _ 22 rfl s 5 .u8 Tryz.underlying22 info8u _ _ (fr (L.take k) ++ be8 m) rfl HO2.out _ _ _ xs rfl HR2.out (by rw [HL2.out]; omega) (by omega) ?_)
      rintro v3 w3 h3 hg3
      have b3 := own_below b2 HO2.out hg3 (by omega) (Nat.le_refl _)
      have H3 := Lib.hid h3
      clear h3 hcell2
      go_wp2_with fail
      go_roundw
      case rel =>
        refine ⟨k + 1, by rw [HLEN.out]; exact hlt, by go_num, ?_, b3⟩
        have h3 := H3.out
        rw [fr_snoc HX.out, HM.out]
        unfold Own8
        rw [List.length_append, List.length_append, HM.out]
        simpa using h3
      case measure => simp [intOf]; omega
    · have hkn : k = n := by omega
      rw [hkn, ← HLEN.out, List.take_length] at ho
      have t1 : decide ((k : Int) < (n : Int)) = false := by simp; omega
      obtain ⟨F, hF⟩ : ∃ F, fr L = F := ⟨_, rfl⟩
      rw [hF] at ho hl
      have HD2 : Dig 256 F := by rw [← hF]; exact HD.out
      obtain ⟨A3, c3, rfl, hbs⟩ := ho.bs HD2 (by omega)
      obtain ⟨fl, hfl⟩ : ∃ fl, F.length = fl := ⟨_, rfl⟩
      rw [hfl] at hbs hl ⊢
      have HF := Lib.hid hF
      have HBS := Lib.hid hbs
      have HROW := Lib.hid (show wr.heap[w.heap.size]? = some (.cells #[.slice AK 64 cK, .slice AH 8 cH] 126 (0, 0)) from (hb.block _ (by have := HS.out; omega)).trans HBX.out)
      have HB := Lib.hid hb
      clear hkn ho hfl hF hbs HD2 hb
      go_wp2_with (refine wpList_load_row rfl 126 (.tmp 2) rfl w.heap.size rfl _ #[.slice AK 64 cK, .slice AH 8 cH] _ _ HROW.out Tryz.underlying126 rfl size28 ?_)
      refine (dsha_any (HK0.out.below (by rw [S0]; exact HB.out)) (HH0.out.below (by rw [S0]; exact HB.out)) HBS.out hl).mono ?_
      rintro e w4 ⟨v4, rfl, ho4, hb4⟩
      have HO4 := Lib.hid ho4
      have HB4 := Lib.hid hb4
      clear ho4 hb4
      go_wp2_with fail
      go_ret
      refine ⟨_, rfl, ?_, HB0.out.trans ((HB.out.mono (by have := HS.out; omega)).trans (HB4.out.mono (by have := HS.out; omega)))⟩
      show Own8 w4 w.heap.size v4 (sha (fr L))
      rw [HF.out]
      exact HO4.out.base (by have := HS.out; omega)
end Go.Proofs.YtloibmemlkfkfaaGreatDoor
