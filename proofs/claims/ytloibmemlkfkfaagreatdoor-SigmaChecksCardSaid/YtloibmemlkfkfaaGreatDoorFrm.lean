/-
  What framed and Parts answer.
-/
import Derived.Test.YtloibmemlkfkfaaGreatDoorDgs
import Derived.Test.YtloibmemlkfkfaaGreatDoorHsa
namespace Go.Proofs.YtloibmemlkfkfaaGreatDoor
open Go.RowKit
set_option linter.unusedVariables false
theorem Own8.bs {w : World} {base : Nat} {v : Value} {bs : List Int} (h : Own8 w base v bs) (hd : Dig 256 bs) (hl : bs.length ≤ 1099511627776) : ∃ A c, v = .slice A bs.length c ∧ Bs w A bs.length c bs := by
  obtain ⟨A, c, rfl, h1, h2, h3⟩ := h.rd
  refine ⟨A, c, rfl, h1, hd, h2, hl, fun hA => ?_, fun a ha => ?_⟩
  · rcases h.2 with ⟨e, _⟩ | ⟨g, cap, cur, e, _⟩
    · injection e
    · injection e with e1; rw [hA] at e1; cases e1
  · rcases h.2 with ⟨e, _⟩ | ⟨g, cap, cur, e, _⟩
    · injection e with e1; rw [ha] at e1; cases e1
    · injection e with e1; rw [ha] at e1; injection e1 with e1; exact ⟨g, 0, e1⟩
theorem Own8.bsL {w : World} {base : Nat} {v : Value} {bs : List Int} (h : Own8 w base v bs) (hd : Dig 256 bs) (hl : bs.length ≤ 140737490452480) : ∃ A c, v = .slice A bs.length c ∧ BsL w A bs.length c bs := by
  obtain ⟨A, c, rfl, h1, h2, h3⟩ := h.rd
  refine ⟨A, c, rfl, h1, hd, h2, hl, fun hA => ?_, fun a ha => ?_⟩
  · rcases h.2 with ⟨e, _⟩ | ⟨g, cap, cur, e, _⟩
    · injection e
    · injection e with e1; rw [hA] at e1; cases e1
  · rcases h.2 with ⟨e, _⟩ | ⟨g, cap, cur, e, _⟩
    · injection e with e1; rw [ha] at e1; cases e1
    · injection e with e1; rw [ha] at e1; injection e1 with e1; exact ⟨g, 0, e1⟩
/-- Bytes in a slice, wherever it lies. -/
structure Bz (w : World) (A : Option Addr) (n : Nat) (xs : List Int) : Prop where
  rd : Rd .u8 w A n xs
  dig_ : Dig 256 xs
theorem Bs.bz {w : World} {A : Option Addr} {n c : Nat} {xs : List Int} (h : Bs w A n c xs) : Bz w A n xs := ⟨h.rd, h.dig_⟩
theorem Bz.below {w w' : World} {A : Option Addr} {n : Nat} {xs : List Int} (h : Bz w A n xs) (hb : Below w.heap.size w w') : Bz w' A n xs := ⟨h.rd.below hb, h.dig_⟩
theorem Bz.alloc {w : World} {A : Option Addr} {n : Nat} {xs : List Int} (h : Bz w A n xs) (o : Obj) : Bz (w.alloc o) A n xs := h.below ((Below.refl _ _).alloc (Nat.le_refl _) _)
/-- A slice of slices of bytes. -/
structure Pts (w : World) (A : Option Addr) (n c : Nat) (L : List (List Int)) : Prop where
  len : L.length = n
  nc : n ≤ c
  cells : 0 < n → ∃ b off, A = some ⟨b, off, none⟩ ∧ b < w.heap.size ∧ ∀ j, j < n → ∃ Aj cj xs, L[j]? = some xs ∧ w.cell? ⟨b, off + j, none⟩ = some (.slice Aj xs.length cj) ∧ Bz w Aj xs.length xs
theorem Pts.below {w w' : World} {A : Option Addr} {n c : Nat} {L : List (List Int)} (h : Pts w A n c L) (hb : Below w.heap.size w w') : Pts w' A n c L :=
  ⟨h.len, h.nc, fun hn => by
    obtain ⟨b, off, e, hlt, hc⟩ := h.cells hn
    refine ⟨b, off, e, Nat.lt_of_lt_of_le hlt hb.size, fun j hj => ?_⟩
    obtain ⟨Aj, cj, xs, h1, h2, h3⟩ := hc j hj
    exact ⟨Aj, cj, xs, h1, (hb.cell (p := ⟨b, off + j, none⟩) hlt).trans h2, h3.below hb⟩⟩
theorem Pts.nil (w : World) : Pts w none 0 0 [] := ⟨rfl, Nat.le_refl _, fun h => absurd h (by omega)⟩
theorem fr_take_len (L : List (List Int)) (k : Nat) : (fr (L.take k)).length ≤ (fr L).length := by
  have h := fr_append (L.take k) (L.drop k)
  rw [List.take_append_drop] at h
  rw [h, List.length_append]; omega
theorem fr_snoc {L : List (List Int)} {k : Nat} {xs : List Int} (h : L[k]? = some xs) : fr (L.take (k + 1)) = fr (L.take k) ++ be8 xs.length ++ xs := by
  have hk := (List.getElem?_eq_some_iff.1 h)
  obtain ⟨hlt, he⟩ := hk
  rw [List.take_succ_eq_append_getElem hlt, fr_append, he, fr_one, List.append_assoc]
theorem fr_dig {L : List (List Int)} (h : ∀ xs ∈ L, Dig 256 xs) : Dig 256 (fr L) := by
  intro x hx
  simp only [fr, List.mem_flatMap] at hx
  obtain ⟨p, hp, hx⟩ := hx
  rcases List.mem_append.1 hx with hx | hx
  · exact be8_dig _ x hx
  · exact h p hp x hx
def FrmR (L : List (List Int)) (w : World) (v i : Value) (wr : World) : Prop :=
  ∃ k : Nat, k ≤ L.length ∧ i = .int .i64 k ∧ Own8 wr w.heap.size v (fr (L.take k)) ∧ Below w.heap.size w wr
theorem Own8.app {w : World} {base : Nat} {v : Value} {n m : Nat} {xs ys : List Int} (hn : xs.length = n) (hm : ys.length = m) (h : w.ownsRow base 5 1 v (n + m) (xs.map (Value.int .u8) ++ ys.map (Value.int .u8))) : Own8 w base v (xs ++ ys) := by
  unfold Own8
  rw [List.length_append, hn, hm, List.map_append]
  exact h
set_option maxHeartbeats 4000000 in
theorem framed_L {A : Option Addr} {n c : Nat} {L : List (List Int)} {w : World} (hp : Pts w A n c L) (hl : (fr L).length ≤ 140737490452480) (hn : n ≤ 1099511627776) :
    Calls Tryz.prog 116 #[.slice A n c] w (AnsOb (fr L) w) := by
  have hlen := hp.len
  have HLEN := Lib.hid hlen
  clear hlen
  go_enter Tryz.func116, Tryz.ntmps116
  go_wp2_with fail
  go_loopw [3, 8] (fun v i wr => FrmR L w v i wr) (fun _ i _ => n - (intOf i).toNat)
  case atStart => exact ⟨0, Nat.zero_le _, rfl, Own8.nil _ _, Below.refl _ _⟩
  case round =>
    obtain ⟨k, hk, rfl, ho, hb⟩ := hrel
    rw [HLEN.out] at hk
    rcases Nat.lt_or_ge k n with hlt | hge
    · obtain ⟨b, off, rfl, hbl, hc⟩ := hp.cells (by omega)
      obtain ⟨Aj, cj, xs, hx, hcell, hbs⟩ := hc k hlt
      have hcell := (hb.cell (p := ⟨b, off + k, none⟩) hbl).trans hcell
      have hf := fr_take_len L (k + 1)
      rw [fr_snoc hx, List.length_append, List.length_append, be8_len] at hf
      obtain ⟨m, hm⟩ : ∃ m, xs.length = m := ⟨_, rfl⟩
      obtain ⟨fk, hfk⟩ : ∃ fk, (fr (L.take k)).length = fk := ⟨_, rfl⟩
      rw [hm] at hf hcell hbs
      rw [hfk] at hf
      have HX := Lib.hid hx
      have HM := Lib.hid hm
      have HFK := Lib.hid hfk
      have HO := Lib.hid ho
      have HBS := Lib.hid hbs
      have hkn : (k : Int) < (n : Int) := by omega
      clear hx hm hfk ho hc hbs
      go_wp2_with fail
      refine (eight_l _ (by omega) (by omega) _).mono ?_
      rintro e w1 ⟨A1, c1, rfl, hr1, hc1, -, -, hb1⟩
      have ho1 := HO.out.below hb1
      have HO1 := Lib.hid ho1
      have HR1 := Lib.hid hr1
      have s1 := hb.size
      have s2 := hb1.size
      clear ho1 hr1
      go_wp2_with (at_builtin; refine wpList_cat8w _ rfl _ _ 22 rfl w.heap.size 5 .u8 Tryz.underlying22 info8u _ _ (fr (L.take k)) rfl HO1.out _ _ _ (be8 m) rfl HR1.out (by rw [HFK.out]; omega) (by omega) ?_)
      rintro v2 w2 h2 hg2
      rw [HFK.out] at h2
      have ho2 := Own8.app HFK.out (be8_len m) h2
      have b2 := own_below (hb.trans (hb1.mono hb.size)) HO1.out hg2 (by omega) (Nat.le_refl _)
      have HO2 := Lib.hid ho2
      have HR2 := Lib.hid (HBS.out.below b2).rd
      clear ho2 h2
      have hl2 : (fr (L.take k) ++ be8 m).length = fk + 8 := by rw [List.length_append, HFK.out, be8_len]
      have HL2 := Lib.hid hl2
      have s3 := b2.size
      clear hl2
      go_wp2_with (at_builtin; refine wpList_cat8w _ rfl _ _ 22 rfl w.heap.size 5 .u8 Tryz.underlying22 info8u _ _ (fr (L.take k) ++ be8 m) rfl HO2.out _ _ _ xs rfl HR2.out (by rw [HL2.out]; omega) (by omega) ?_)
      rintro v3 w3 h3 hg3
      have b3 := own_below b2 HO2.out hg3 (by omega) (Nat.le_refl _)
      have H3 := Lib.hid h3
      clear h3
      go_wp2_with fail
      go_roundw
      case rel =>
        refine ⟨k + 1, by rw [HLEN.out]; exact hlt, by go_num, ?_, b3⟩
        have h3 := H3.out
        rw [fr_snoc HX.out, HM.out]
        unfold Own8
        rw [List.length_append, List.length_append, HM.out]
        simpa using h3
      case measure => simp [intOf]; omega
    · have hkn : k = n := by omega
      rw [hkn, ← HLEN.out, List.take_length] at ho
      have t1 : decide ((k : Int) < (n : Int)) = false := by simp; omega
      clear hkn
      go_wp2_with fail
      go_ret
      exact ⟨_, rfl, ho, hb⟩
theorem framed_any {A : Option Addr} {n c : Nat} {L : List (List Int)} {w : World} (hp : Pts w A n c L) (hl : (fr L).length ≤ 1099511627776) (hn : n ≤ 1099511627776) :
    Calls Tryz.prog 116 #[.slice A n c] w (AnsOb (fr L) w) :=
  framed_L hp (by omega) hn
theorem parts_L {A : Option Addr} {n c : Nat} {L : List (List Int)} {w : World} (hT : Tabs w) (hp : Pts w A n c L) (hl : (fr L).length ≤ 140737490452480) (hn : n ≤ 1099511627776) (hd : ∀ xs ∈ L, Dig 256 xs) :
    Calls Tryz.prog 80 #[.slice A n c] w (AnsOb (parts L) w) := by
  go_enter Tryz.func80, Tryz.ntmps80
  go_wp2_with fail
  refine (framed_L hp hl hn).mono ?_
  rintro e w1 ⟨v1, rfl, ho1, hb1⟩
  obtain ⟨A1, c1, rfl, hbs1⟩ := ho1.bsL (fr_dig hd) hl
  go_wp2_with fail
  refine (sha_L (hT.below hb1) hbs1).mono ?_
  rintro e w2 ⟨v2, rfl, ho2, hb2⟩
  go_wp2_with fail
  go_ret
  exact ⟨_, rfl, ho2.base hb1.size, hb1.trans (hb2.mono hb1.size)⟩
theorem parts_any {A : Option Addr} {n c : Nat} {L : List (List Int)} {w : World} (hT : Tabs w) (hp : Pts w A n c L) (hl : (fr L).length ≤ 1099511627776) (hn : n ≤ 1099511627776) (hd : ∀ xs ∈ L, Dig 256 xs) :
    Calls Tryz.prog 80 #[.slice A n c] w (AnsOb (parts L) w) :=
  parts_L hT hp (by omega) hn hd
end Go.Proofs.YtloibmemlkfkfaaGreatDoor
