/-
  What digest and Sha answer.
-/
import Derived.Test.YtloibmemlkfkfaaGreatDoorAbs
namespace Go.Proofs.YtloibmemlkfkfaaGreatDoor
open Go.RowKit
set_option linter.unusedVariables false
/-- Bytes in a slice, as a call takes them. -/
structure Bs (w : World) (A : Option Addr) (n c : Nat) (xs : List Int) : Prop where
  rd : Rd .u8 w A n xs
  dig_ : Dig 256 xs
  nc : n ≤ c
  c47 : n ≤ 1099511627776
  none_ : A = none → c = 0
  plain : ∀ a, A = some a → ∃ b off, a = ⟨b, off, none⟩
theorem Bs.below {w w' : World} {A : Option Addr} {n c : Nat} {xs : List Int} (h : Bs w A n c xs) (hb : Below w.heap.size w w') : Bs w' A n c xs := ⟨h.rd.below hb, h.dig_, h.nc, h.c47, h.none_, h.plain⟩
theorem Bs.alloc {w : World} {A : Option Addr} {n c : Nat} {xs : List Int} (h : Bs w A n c xs) (o : Obj) : Bs (w.alloc o) A n c xs := h.below ((Below.refl _ _).alloc (Nat.le_refl _) _)
theorem below_one2 {w w' : World} {o : Obj} (h : Below (w.alloc o).drew.heap.size (w.alloc o).drew w') : Below w.heap.size w w' :=
  ((Below.refl _ _).alloc (Nat.le_refl _) _).drew.trans (h.mono (by simp))
/-- Where a slice's end lies, cut at k. -/
def Cut (A : Option Addr) (c k : Nat) (A1 : Option Addr) : Prop :=
  (A = none ∧ c = 0 ∧ k = 0 ∧ A1 = none) ∨ (∃ b off, A = some ⟨b, off, none⟩ ∧ c = k ∧ A1 = some ⟨b, off, none⟩) ∨ (∃ b off, A = some ⟨b, off, none⟩ ∧ ¬ c = k ∧ A1 = some ⟨b, off + k, none⟩)
/-- The same, be they ever so many. -/
structure BsL (w : World) (A : Option Addr) (n c : Nat) (xs : List Int) : Prop where
  rd : Rd .u8 w A n xs
  dig_ : Dig 256 xs
  nc : n ≤ c
  c47 : n ≤ 140737490452480
  none_ : A = none → c = 0
  plain : ∀ a, A = some a → ∃ b off, a = ⟨b, off, none⟩
theorem Bs.l {w : World} {A : Option Addr} {n c : Nat} {xs : List Int} (h : Bs w A n c xs) : BsL w A n c xs := ⟨h.rd, h.dig_, h.nc, Nat.le_trans h.c47 (by decide), h.none_, h.plain⟩
theorem BsL.below {w w' : World} {A : Option Addr} {n c : Nat} {xs : List Int} (h : BsL w A n c xs) (hb : Below w.heap.size w w') : BsL w' A n c xs := ⟨h.rd.below hb, h.dig_, h.nc, h.c47, h.none_, h.plain⟩
theorem BsL.cut {w : World} {A : Option Addr} {n c k : Nat} {xs : List Int} (h : BsL w A n c xs) (hk : k ≤ n) : ∃ A1, Cut A c k A1 ∧ Rd .u8 w A1 (n - k) (xs.drop k) := by
  have hl := h.rd.len
  have hnc := h.nc
  cases A with
  | none =>
    have := h.none_ rfl
    refine ⟨none, .inl ⟨rfl, this, by omega, rfl⟩, ?_⟩
    obtain rfl : n = 0 := by omega
    obtain rfl : xs = [] := List.eq_nil_of_length_eq_zero hl
    rw [List.drop_nil, Nat.zero_sub]; exact Rd.nil _ _ _
  | some a =>
    obtain ⟨b, off, rfl⟩ := h.plain a rfl
    by_cases g : c = k
    · refine ⟨some ⟨b, off, none⟩, .inr (.inl ⟨b, off, rfl, g, rfl⟩), ?_⟩
      rw [List.drop_of_length_le (by omega), show n - k = 0 by omega]; exact Rd.nil _ _ _
    · refine ⟨some ⟨b, off + k, none⟩, .inr (.inr ⟨b, off, rfl, g, rfl⟩), ?_⟩
      have := h.rd.piece (i := k) (m := n - k) (by omega)
      rw [List.take_of_length_le (by rw [List.length_drop]; omega)] at this
      exact this
theorem Bs.cut {w : World} {A : Option Addr} {n c k : Nat} {xs : List Int} (h : Bs w A n c xs) (hk : k ≤ n) : ∃ A1, Cut A c k A1 ∧ Rd .u8 w A1 (n - k) (xs.drop k) := h.l.cut hk
theorem whole_k (A : Option Addr) (n c : Nat) (w : World) (hn : n ≤ 281474976710656) {q k : Nat} (hq : n / 64 = q) (hk : 64 * q = k) :
    Calls Tryz.prog 152 #[.slice A n c] w fun e w' => e = .returned (.int .i64 (k : Int)) ∧ w = w' := by
  subst hq hk
  exact whole_any A n c w hn
theorem absorbed_k {A : Option Addr} {c q k : Nat} {l : List Int} {s s1 : St} {w : World} (hk : 64 * q = k) (h1 : absb s l q = s1) (hT : Tabs w) (hs : s.ok) (hr : Rd .u8 w A k l) (hd : Dig 256 l) (hc : k ≤ c) (hq : k ≤ 281474976710656) :
    Calls Tryz.prog 153 #[.agg s.v, .slice A k c] w fun e w' => e = .returned (.agg s1.v) ∧ Below w.heap.size w w' := by
  subst hk h1
  exact absorbed_any hT hs hr hd hc (by omega)
theorem Dig.take {b : Int} {xs : List Int} (h : Dig b xs) (m : Nat) : Dig b (xs.take m) := fun x hx => h x (List.mem_of_mem_take hx)
theorem Dig.drop {b : Int} {xs : List Int} (h : Dig b xs) (m : Nat) : Dig b (xs.drop m) := fun x hx => h x (List.mem_of_mem_drop hx)
theorem Dig.append {b : Int} {xs ys : List Int} (h : Dig b xs) (h' : Dig b ys) : Dig b (xs ++ ys) := fun x hx => (List.mem_append.1 hx).elim (h x) (h' x)
theorem padded_l {A : Option Addr} {n c L k : Nat} {v : Int} {tail : List Int} {w : World} (hr : Rd .u8 w A n tail) (hv : v = (L : Int)) (hn : n < 64) (hL : L % 64 = n) (hL2 : L ≤ 1125899906842624) (hk : (tail ++ pad L).length = k) :
    Calls Tryz.prog 155 #[.slice A n c, .int .u64 v] w (AnsLb (tail ++ pad L) k w) := by
  subst hv
  exact (padded_any hr hn hL hL2).mono fun _ _ h => h.l hk
theorem digest_math {s : St} {l : List Int} {n q k m L : Nat} (hl : l.length = n) (hq : n / 64 = q) (hk : 64 * q = k) (hL : L % 64 = n % 64) (hm : (l.drop k ++ pad L).length = 64 * m) :
    absb (absb s (l.take k) q) (l.drop k ++ pad L) m = absb s (l ++ pad L) ((n + (pad L).length) / 64) := by
  subst hk
  have ht : (l.take (64 * q)).length = 64 * q := by rw [List.length_take]; omega
  have e1 := absb_append (s := s) (m := l.drop (64 * q) ++ pad L) ht m
  rw [← List.append_assoc, List.take_append_drop] at e1
  rw [← e1]
  congr 1
  rw [List.length_append, List.length_drop] at hm
  omega
set_option maxHeartbeats 8000000 in
set_option maxRecDepth 100000 in
theorem digest_L {A : Option Addr} {n c : Nat} {l : List Int} {s : St} {w : World} (hT : Tabs w) (hs : s.ok) (hb : BsL w A n c l) (p : Nat) (hp : p % 64 = 0) (hp2 : p ≤ 1099511627776) :
    Calls Tryz.prog 141 #[.agg s.v, .int .i64 p, .slice A n c] w (AnsOb (wbs (absb s (l ++ pad (p + n)) ((n + (pad (p + n)).length) / 64)).l) w) := by
  obtain ⟨q, hq⟩ : ∃ q, n / 64 = q := ⟨_, rfl⟩
  obtain ⟨k, hk⟩ : ∃ k, 64 * q = k := ⟨_, rfl⟩
  obtain ⟨A1, hcut, hr1⟩ := hb.cut (k := k) (by omega)
  have hn := hb.c47
  have hnc := hb.nc
  have hl := hb.rd.len
  obtain ⟨V, hV⟩ : ∃ V, V = s.v := ⟨_, rfl⟩
  have hbox := heap_alloc_new w (.cells V 173)
  have hrow : Row (w.alloc (.cells V 173)) w.heap.size 173 .u32 s.l := by rw [hV]; exact Row.new w 173 .u32 s.l
  rw [← hV]
  have hrd : Rd .u8 w A (64 * q) (l.take (64 * q)) := hb.rd.take (by omega)
  rw [hk] at hrd
  have HRD := Lib.hid hrd
  have HR1 := Lib.hid hr1
  have HQ := Lib.hid hq
  have HK := Lib.hid hk
  have HL := Lib.hid hl
  have HROW := Lib.hid hrow
  have HV := Lib.hid hV
  have HD := Lib.hid hb.dig_
  have HP := Lib.hid hp
  have kn : k ≤ n := by omega
  have kni : (k : Int) ≤ (n : Int) := by omega
  have kci : (k : Int) ≤ (c : Int) := by omega
  clear hrd hr1 hq hk hl hrow hV hbox hb hp
  obtain ⟨s1, hs1⟩ : ∃ s1, absb s (l.take k) q = s1 := ⟨_, rfl⟩
  have HS1 := Lib.hid hs1
  have hok1 : s1.ok := by rw [← hs1]; exact absb_ok hs _ _
  have z3 := St.v_size s1
  clear hs1
  have kc : k ≤ c := by omega
  have t1 : decide ((n : Int) < (k : Int)) = false := by simp; omega
  have hL64 : (p : Int) + (n : Int) < 18446744073709551616 := by omega
  have LV := Lib.hid (show (p : Int) + (n : Int) = ((p + n : Nat) : Int) by omega)
  have lt64 : n - k < 64 := by have := HQ.out; have := HK.out; omega
  have LM := Lib.hid (show (p + n) % 64 = n - k by have := HQ.out; have := HK.out; have := HP.out; omega)
  have hall := pad_all (p + n)
  have hdl : (l.drop k ++ pad (p + n)).length = (n - k) + (pad (p + n)).length := by rw [List.length_append, List.length_drop, HL.out]
  have hfl : fillN (p + n) < 64 := by unfold fillN; omega
  have hpl := pad_len (p + n)
  obtain ⟨m, hm⟩ : ∃ m, (l.drop k ++ pad (p + n)).length = 64 * m := ⟨((n - k) + (pad (p + n)).length) / 64, by have := HQ.out; have := HK.out; have := HP.out; omega⟩
  obtain ⟨k2, hk2⟩ : ∃ k2, 64 * m = k2 := ⟨_, rfl⟩
  have LK := Lib.hid (show (l.drop k ++ pad (p + n)).length = k2 by omega)
  have HK2 := Lib.hid hk2
  have hk40 : k2 ≤ 281474976710656 := by omega
  obtain ⟨s2, hs2⟩ : ∃ s2, absb s1 (l.drop k ++ pad (p + n)) m = s2 := ⟨_, rfl⟩
  have HS2 := Lib.hid hs2
  have hok2 : s2.ok := by rw [← hs2]; exact absb_ok hok1 _ _
  have FIN := Lib.hid (show s2 = absb s (l ++ pad (p + n)) ((n + (pad (p + n)).length) / 64) by
    rw [← hs2, ← HS1.out]
    exact digest_math HL.out HQ.out HK.out (by have := HP.out; omega) hm)
  clear hall hdl hfl hpl hm hk2 hs2
  rcases hcut with ⟨rfl, -, -, rfl⟩ | ⟨b, off, rfl, rfl, rfl⟩ | ⟨b, off, rfl, hck, rfl⟩
  rotate_left
  clear kci kc hnc
  all_goals
    go_enter Tryz.func141, Tryz.ntmps141
    go_wp2_with fail
    refine (whole_k _ _ _ _ (by omega) HQ.out HK.out).mono ?_
    rintro e w1 ⟨rfl, rfl⟩
    obtain ⟨l0, l1, l2, l3, l4, l5, l6, l7⟩ := cells8 HROW.out
    go_wp2_with fail
    go_region_with (go_at_call 153; refine (absorbed_k HK.out HS1.out (hT.alloc _).drew hs (HRD.out.alloc _).drew (HD.out.take _) (by omega) (by omega)).mono ?_; rintro e w2 ⟨rfl, hb2⟩; have hst := store8 (HROW.out.drew.below hb2 (Row.lt HROW.out.drew)) s1; have HB2 := Lib.hid hb2; clear hb2)
    have b3 := below_setRow (below_one2 HB2.out) (Nat.le_refl _) s1.v
    have t3 := (((hT.alloc _).drew).below HB2.out).setRow (g := w.heap.size) ⟨hT.lt0, hT.lt⟩ s1.v
    have r3 := (HROW.out.drew.below HB2.out (Row.lt HROW.out.drew)).setRow s1.l
    have d3 := HR1.out.below b3
    have e3 : (w2.setRow w.heap.size s1.v) = w2.setRow w.heap.size ((s1.l.map (Value.int .u32)).toArray) := rfl
    rw [← e3] at r3
    clear e3 hst l0 l1 l2 l3 l4 l5 l6 l7
    generalize w2.setRow w.heap.size s1.v = w3 at b3 t3 r3 d3 ⊢
    have B3 := Lib.hid b3
    have T3 := Lib.hid t3
    have R3 := Lib.hid r3
    have D3 := Lib.hid d3
    obtain ⟨l0, l1, l2, l3, l4, l5, l6, l7⟩ := cells8 r3
    clear b3 t3 r3 d3
    go_wp2_with fail
    go_region_with (first
      | (go_at_call 155; refine (padded_l D3.out.drew LV.out lt64 LM.out (by omega) LK.out).mono ?_; rintro e w4 ⟨A4, c4, rfl, hr4, hc4, -, -, hb4⟩; have HR4 := Lib.hid hr4; obtain ⟨m0, m1, m2, m3, m4, m5, m6, m7⟩ := cells8 (R3.out.drew.below hb4 (Row.lt R3.out.drew)); have HB4 := Lib.hid hb4; clear hr4 hb4)
      | (go_at_call 153; refine (absorbed_k HK2.out HS2.out (T3.out.drew.below HB4.out) hok1 HR4.out ((HD.out.drop _).append (pad_dig _)) hc4 hk40).mono ?_; rintro e w5 ⟨rfl, hb5⟩; have HB5 := Lib.hid hb5; clear hb5)
      | (go_at_call 154; refine (wordBytes_any s2 hok2 _).mono ?_; rintro e w6 ⟨v6, rfl, ho6, hb6⟩; have HO6 := Lib.hid ho6; have HB6 := Lib.hid hb6; clear ho6 hb6))
    all_goals
      go_wp2_with fail
      go_ret
      have b4 := B3.out.drew.trans (HB4.out.mono B3.out.drew.size)
      have b5 := b4.trans (HB5.out.mono b4.size)
      have b6 := b5.trans (HB6.out.mono b5.size)
      exact ⟨_, rfl, by rw [← FIN.out]; exact HO6.out.base b5.size, b6⟩
theorem digest_any {A : Option Addr} {n c : Nat} {l : List Int} {s : St} {w : World} (hT : Tabs w) (hs : s.ok) (hb : Bs w A n c l) (p : Nat) (hp : p % 64 = 0) (hp2 : p ≤ 1099511627776) :
    Calls Tryz.prog 141 #[.agg s.v, .int .i64 p, .slice A n c] w (AnsOb (wbs (absb s (l ++ pad (p + n)) ((n + (pad (p + n)).length) / 64)).l) w) :=
  digest_L hT hs hb.l p hp hp2
theorem H0v : H0.v = #[.int .u32 1779033703, .int .u32 3144134277, .int .u32 1013904242, .int .u32 2773480762, .int .u32 1359893119, .int .u32 2600822924, .int .u32 528734635, .int .u32 1541459225] := rfl
theorem sha_L {A : Option Addr} {n c : Nat} {l : List Int} {w : World} (hT : Tabs w) (hb : BsL w A n c l) :
    Calls Tryz.prog 115 #[.slice A n c] w (AnsOb (sha l) w) := by
  obtain ⟨t, hg⟩ := hT.start
  have HG := Lib.hid hg
  have hl := hb.rd.len
  have z := St.v_size H0
  have hsz : (Tryz.prog.info? 173).map (·.size) = some H0.v.size := size48
  have hd := digest_L hT H0_ok hb 0 rfl (by omega)
  rw [Nat.zero_add] at hd
  have HD := Lib.hid hd
  have HL := Lib.hid hl
  obtain ⟨V, hV⟩ : ∃ V, V = H0.v := ⟨_, rfl⟩
  rw [← hV] at HG HD hsz
  clear hd hl hg z hV
  go_enter Tryz.func115, Tryz.ntmps115
  go_wp2_with (refine wpList_load_row rfl 173 (.global 0) rfl 0 rfl _ V _ _ HG.out Tryz.underlying173 rfl hsz ?_)
  refine HD.out.mono ?_
  rintro e w1 ⟨v, rfl, ho, hb1⟩
  go_wp2_with fail
  go_ret
  refine ⟨_, rfl, ?_, hb1⟩
  have e : sha l = wbs (absb H0 (l ++ pad n) ((n + (pad n).length) / 64)).l := by unfold sha shaS; rw [HL.out]
  rw [e]; exact ho
theorem sha_any {A : Option Addr} {n c : Nat} {l : List Int} {w : World} (hT : Tabs w) (hb : Bs w A n c l) :
    Calls Tryz.prog 115 #[.slice A n c] w (AnsOb (sha l) w) :=
  sha_L hT hb.l
end Go.Proofs.YtloibmemlkfkfaaGreatDoor
