/-
  Several texts in one: Rpa, Two8, Rmc.
-/
import Derived.Test.YtjalncdllegfoaaGreatDoorRhq
import Derived.Test.YtjalncdllegfoaaGreatDoorHsb
import Derived.Test.YtjalncdllegfoaaGreatDoorRhp
import Derived.Test.YtjalncdllegfoaaGreatDoorHsc
/-
  What the document's Parts answers.
-/
namespace Go.Proofs.YtjalncdllegfoaaGreatDoor
open Go.RowKit
set_option linter.unusedVariables false
/-- The bytes, part by part: whatever lies below s stays. -/
def RpR (L : List (List Int)) (s : Nat) (W0 : World) (v i : Value) (wr : World) : Prop :=
  ∃ k : Nat, k ≤ L.length ∧ i = .int .i64 k ∧ Own8 wr s v (fr (L.take k)) ∧ Below s W0 wr
set_option maxHeartbeats 4000000 in
theorem rparts_any {AK AH : Option Addr} {cK cH : Nat} {A : Option Addr} {n c : Nat} {L : List (List Int)} {w : World} (hK : Rd .u32 w AK 64 KT) (hH : Rd .u32 w AH 8 H0.l) (hp : Pts w A n c L) (hl : (fr L).length ≤ 1000000) (hn : n ≤ 1000000) (hd : ∀ xs ∈ L, Dig 256 xs) :
    Calls Tryz.prog 57 #[.agg #[.slice AK 64 cK, .slice AH 8 cH], .slice A n c] w (AnsOb (parts L) w) := by
  have HLEN := Lib.hid hp.len
  obtain ⟨W0, hW0⟩ : ∃ W0, w.alloc (.cells #[.slice AK 64 cK, .slice AH 8 cH] 110) = W0 := ⟨_, rfl⟩
  obtain ⟨s, hs⟩ : ∃ s, w.heap.size + 1 = s := ⟨_, rfl⟩
  have S0 : W0.heap.size = s := by rw [← hW0, ← hs]; simp
  have HBX := Lib.hid (show W0.heap[w.heap.size]? = some (.cells #[.slice AK 64 cK, .slice AH 8 cH] 110 (0, 0)) by rw [← hW0]; exact heap_alloc_new w _)
  have HB0 := Lib.hid (show Below w.heap.size w W0 by rw [← hW0]; exact (Below.refl _ w).alloc (Nat.le_refl _) _)
  have HP := Lib.hid (hp.below HB0.out)
  have HK0 := Lib.hid (hK.below HB0.out)
  have HH0 := Lib.hid (hH.below HB0.out)
  have HW0 := Lib.hid hW0
  have HS := Lib.hid hs
  have HD := Lib.hid (fr_dig hd)
  clear hW0 hK hH hp hs hd
  go_enter Tryz.func57, Tryz.ntmps57
  go_wp2_with fail
  rw [HW0.out]
  go_loopw [5, 6] (fun v i wr => RpR L s W0 v i wr) (fun _ i _ => n - (intOf i).toNat)
  case atStart => exact ⟨0, Nat.zero_le _, rfl, Own8.nil _ _, Below.refl _ _⟩
  case round =>
    obtain ⟨k, hk, rfl, ho, hb⟩ := hrel
    rw [HLEN.out] at hk
    have sb := hb.size
    rw [S0] at sb
    rcases Nat.lt_or_ge k n with hlt | hge
    · obtain ⟨b, off, rfl, hbl, hc⟩ := HP.out.cells (by omega)
      obtain ⟨Aj, cj, xs, hx, hcell, hbs⟩ := hc k hlt
      rw [S0] at hbl
      have hf := fr_take_len L (k + 1)
      rw [fr_snoc hx, List.length_append, List.length_append, be8_len] at hf
      obtain ⟨m, hm⟩ : ∃ m, xs.length = m := ⟨_, rfl⟩
      obtain ⟨fk, hfk⟩ : ∃ fk, (fr (L.take k)).length = fk := ⟨_, rfl⟩
      rw [hm] at hf hcell hbs
      rw [hfk] at hf
      have HX := Lib.hid hx
      have HM := Lib.hid hm
      have HFK := Lib.hid hfk
      have HO := Lib.hid ho
      have HBS := Lib.hid hbs
      have HC0 := Lib.hid hcell
      have hcell := (hb.cell (p := ⟨b, off + k, none⟩) hbl).trans hcell
      have hkn : (k : Int) < (n : Int) := by omega
      clear hx hm hfk ho hc hbs
      go_wp2_with fail
      refine (number_any (m : Int) (by omega) (by omega) _).mono ?_
      rintro e w1 ⟨v1, rfl, ho1, hb1⟩
      obtain ⟨A1, c1, rfl, hr1, -, -⟩ := ho1.rd
      rw [be8_len] at hr1 ⊢
      have HO1 := Lib.hid (HO.out.below hb1)
      have HR1 := Lib.hid hr1
      have s2 := hb1.size
      have b1 := hb.trans (hb1.mono sb)
      clear hr1 ho1 hcell
      go_wp2_with (at_builtin; refine wpList_cat8 _ rfl _ _ 24 rfl s 5 .u8 Tryz.underlying24 info8u _ _ (fr (L.take k)) rfl HO1.out _ _ _ (be8 m) rfl HR1.out (by rw [HFK.out]; omega) (by omega) ?_)
      rintro v2 w2 h2 hg2
      rw [HFK.out] at h2
      have ho2 := Own8.app HFK.out (be8_len m) h2
      have b2 := own_below b1 HO1.out hg2 (by omega) (Nat.le_refl _)
      have HO2 := Lib.hid ho2
      have hcell2 := (b2.cell (p := ⟨b, off + k, none⟩) hbl).trans HC0.out
      have HR2 := Lib.hid (HBS.out.below (by rw [S0]; exact b2)).rd
      clear ho2 h2
      have hl2 : (fr (L.take k) ++ be8 m).length = fk + 8 := by rw [List.length_append, HFK.out, be8_len]
      have HL2 := Lib.hid hl2
      have s3 := b2.size
      rw [S0] at s3
      clear hl2
      go_wp2_with (at_builtin; refine wpList_cat8 _ rfl _ _ 24 rfl s 5 .u8 Tryz.underlying24 info8u _ _ (fr (L.take k) ++ be8 m) rfl HO2.out _ _ _ xs rfl HR2.out (by rw [HL2.out]; omega) (by omega) ?_)
      rintro v3 w3 h3 hg3
      have b3 := own_below b2 HO2.out hg3 (by omega) (Nat.le_refl _)
      have H3 := Lib.hid h3
      clear h3 hcell2
      go_wp2_with fail
      go_roundw
      case rel =>
        refine ⟨k + 1, by rw [HLEN.out]; exact hlt, by go_num, ?_, b3⟩
        have h3 := H3.out
        rw [fr_snoc HX.out, HM.out]
        unfold Own8
        rw [List.length_append, List.length_append, HM.out]
        simpa using h3
      case measure => simp [intOf]; omega
    · have hkn : k = n := by omega
      rw [hkn, ← HLEN.out, List.take_length] at ho
      have t1 : decide ((k : Int) < (n : Int)) = false := by simp; omega
      obtain ⟨F, hF⟩ : ∃ F, fr L = F := ⟨_, rfl⟩
      rw [hF] at ho hl
      have HD2 : Dig 256 F := by rw [← hF]; exact HD.out
      obtain ⟨A3, c3, rfl, hbs⟩ := ho.bs HD2 (by omega)
      obtain ⟨fl, hfl⟩ : ∃ fl, F.length = fl := ⟨_, rfl⟩
      rw [hfl] at hbs hl ⊢
      have HF := Lib.hid hF
      have HBS := Lib.hid hbs
      have HROW := Lib.hid (show wr.heap[w.heap.size]? = some (.cells #[.slice AK 64 cK, .slice AH 8 cH] 110 (0, 0)) from (hb.block _ (by have := HS.out; omega)).trans HBX.out)
      have HB := Lib.hid hb
      clear hkn ho hfl hF hbs HD2 hb
      go_wp2_with (refine wpList_load_row rfl 110 (.tmp 2) rfl w.heap.size rfl _ #[.slice AK 64 cK, .slice AH 8 cH] _ _ HROW.out Tryz.underlying110 rfl size28 ?_)
      refine (dsha_any (HK0.out.below (by rw [S0]; exact HB.out)) (HH0.out.below (by rw [S0]; exact HB.out)) HBS.out hl).mono ?_
      rintro e w4 ⟨v4, rfl, ho4, hb4⟩
      have HO4 := Lib.hid ho4
      have HB4 := Lib.hid hb4
      clear ho4 hb4
      go_wp2_with fail
      go_ret
      refine ⟨_, rfl, ?_, HB0.out.trans ((HB.out.mono (by have := HS.out; omega)).trans (HB4.out.mono (by have := HS.out; omega)))⟩
      show Own8 w4 w.heap.size v4 (sha (fr L))
      rw [HF.out]
      exact HO4.out.base (by have := HS.out; omega)
end Go.Proofs.YtjalncdllegfoaaGreatDoor
/-
  Two slices of bytes of the call's own, side by side: what is put behind one leaves the other.
-/
namespace Go.Proofs.YtjalncdllegfoaaGreatDoor
open Go.RowKit
set_option linter.unusedVariables false
structure Two (w : World) (base : Nat) (v u : Value) (xs ys : List Int) : Prop where
  one : Own8 w base v xs
  two : Own8 w base u ys
  apart : ∀ g, v.ownBlock = some g → u.ownBlock ≠ some g
section
variable {w w' : World} {base : Nat} {v u : Value} {xs ys : List Int}
theorem Two.swap (h : Two w base v u xs ys) : Two w base u v ys xs := ⟨h.two, h.one, fun g e e' => h.apart g e' e⟩
theorem Two.alloc (h : Two w base v u xs ys) (o : Obj) : Two (w.alloc o) base v u xs ys := ⟨h.one.alloc o, h.two.alloc o, h.apart⟩
theorem Two.drew (h : Two w base v u xs ys) : Two w.drew base v u xs ys := ⟨h.one, h.two, h.apart⟩
theorem Two.below (h : Two w base v u xs ys) (hb : Below w.heap.size w w') : Two w' base v u xs ys := ⟨h.one.below hb, h.two.below hb, h.apart⟩
theorem Two.next (h : Two w base v u xs ys) {g cap n : Nat} {y : Int} (hn : xs.length = n) (ho : w'.ownsRow base 5 1 (.slice (some ⟨g, 0, none⟩) (n + 1) cap) (n + 1) ((xs.map (Value.int .u8)) ++ [Value.int .u8 y])) (hg : w.grownBy w' v.ownBlock)
    (hat : v.ownBlock = some g ∨ g = w.heap.size) : Two w' base (.slice (some ⟨g, 0, none⟩) (n + 1) cap) u (xs ++ [y]) ys := by
  refine ⟨?_, ?_, ?_⟩
  · unfold Own8
    rw [List.length_append, hn]
    simpa using ho
  · refine own_keep h.two fun g' e => ?_
    have h1 := h.two.lt g' e
    exact hg.block g' h1.2 (fun e2 => h.apart g' e2.symm e)
  · intro g' e e2
    obtain rfl : g = g' := Option.some.inj e
    rcases hat with h1 | h1
    · exact h.apart _ h1 e2
    · have := (h.two.lt _ e2).2; omega
end
section
variable {P : Program} {w : World}
/-- One byte more, the other slice kept. -/
theorem wpList_two8 {ops : Array Oper} {rest : List Oper} {o : Oper} {a : Act} {Q : Exit → Act → World → Prop} (hgd : o.guard = none) (s x : Operand)
    (ho : o.op = .call { callee := .builtin .append, args := #[s, x], argTypes := #[24, 24] })
    (base : Nat) (v u : Value) (n : Nat) (xs ys : List Int) (hs : a.eval s = v) (hown : Two w base v u xs ys) (hl : xs.length = n)
    (g : Nat) (y : Int) (hx : a.eval x = .slice (some ⟨g, 0, none⟩) 1 1) (hc : w.cell? ⟨g, 0, none⟩ = some (.int .u8 y)) (hn : n ≤ 1000) (hbase : base ≤ w.heap.size)
    (h : ∀ v' w', Two w' base v' u (xs ++ [y]) ys → w.grownBy w' v.ownBlock → wpList Tryz.prog ops Q rest (a.put o.dst v') w') : wpList Tryz.prog ops Q (o :: rest) a w := by
  subst hl
  obtain ⟨i0, h1, h2, h3, h4⟩ := info_parts info8u
  refine wpList_append_lies w hgd s x 24 ho base 5 i0 (.int .u8 0) 1 1 Tryz.underlying24 h1 h2 h3 h4 rfl (by decide) v _ _ hs hown.one ⟨g, 0, none⟩ 1 1 [.int .u8 y] hx rfl ?_ ?_ (by omega) (by unfold maxLen; omega) (by omega) hbase w.heap.size rfl (fun g cap w' a b c d => h _ w' (hown.next rfl a b c) b)
  · intro j u hj
    match j, hj with
    | 0, hj => simp at hj; subst hj; simpa [Addr.add] using hc
  · intro u hu; simp at hu; subst hu; rfl
/-- The same, as a step of a region that draws. -/
theorem step_two8 {ops : Array Oper} {o : Oper} {a : Act} {K : Act → World → Prop} {Q : Exit → Act → World → Prop} {E : Prop} (hgd : o.guard = none) (s x : Operand)
    (ho : o.op = .call { callee := .builtin .append, args := #[s, x], argTypes := #[24, 24] })
    (base : Nat) (v u : Value) (n : Nat) (xs ys : List Int) (hs : a.eval s = v) (hown : Two w base v u xs ys) (hl : xs.length = n)
    (g : Nat) (y : Int) (hx : a.eval x = .slice (some ⟨g, 0, none⟩) 1 1) (hc : w.cell? ⟨g, 0, none⟩ = some (.int .u8 y)) (hn : n ≤ 1000) (hbase : base ≤ w.heap.size)
    (h : ∀ v' w', Two w' base v' u (xs ++ [y]) ys → w.grownBy w' v.ownBlock → K (a.put o.dst v') w') :
    if Region.wanted o (yielded ops a.tmps) = true then Oper.wp Tryz.prog o a w K Q else E := by
  subst hl
  obtain ⟨i0, h1, h2, h3, h4⟩ := info_parts info8u
  refine step_append_lies w hgd s x 24 ho base 5 i0 (.int .u8 0) 1 1 Tryz.underlying24 h1 h2 h3 h4 rfl (by decide) v _ _ hs hown.one ⟨g, 0, none⟩ 1 1 [.int .u8 y] hx rfl ?_ ?_ (by omega) (by unfold maxLen; omega) (by omega) hbase w.heap.size rfl (fun g cap w' a b c d => h _ w' (hown.next rfl a b c) b)
  · intro j u hj
    match j, hj with
    | 0, hj => simp at hj; subst hj; simpa [Addr.add] using hc
  · intro u hu; simp at hu; subst hu; rfl
end
end Go.Proofs.YtjalncdllegfoaaGreatDoor
/-
  What the document's Mac answers.
-/
namespace Go.Proofs.YtjalncdllegfoaaGreatDoor
open Go.RowKit
set_option linter.unusedVariables false
/-- The key as it is copied. -/
def RmC (key : List Int) (s : Nat) (W0 : World) (v : Value) (wx : World) : Prop :=
  ∃ K, Own8 wx s v K ∧ KeyOf key K ∧ Dig 256 K ∧ Below s W0 wx
/-- Filled up. -/
def RmF (K : List Int) (s : Nat) (W0 : World) (v : Value) (wr : World) : Prop :=
  ∃ j : Nat, K.length + j ≤ 64 ∧ Own8 wr s v (K ++ List.replicate j 0) ∧ Below s W0 wr
/-- The two masked blocks, so far. -/
def RmR (kb : List Int) (wl : World) (vi vo i : Value) (wr : World) : Prop :=
  ∃ k : Nat, k ≤ 64 ∧ i = .int .i64 k ∧ Two wr wl.heap.size vi vo ((mask 54 kb).take k) ((mask 92 kb).take k) ∧ Below wl.heap.size wl wr
theorem mask_next (m : Int) (kb : List Int) {k : Nat} (hk : k < kb.length) : (mask m kb).take (k + 1) = (mask m kb).take k ++ [bits .xor .u8 (dig kb k) m] := by
  rw [List.take_succ_eq_append_getElem (by rw [mask_len]; exact hk)]
  congr 2
  unfold mask
  rw [List.getElem_map, ← dig_lt (List.getElem?_eq_getElem hk)]
theorem Own8.none (w : World) (base : Nat) : Own8 w base (.slice none 0 0) [] := ⟨rfl, .inl ⟨rfl, rfl⟩⟩
set_option maxHeartbeats 8000000 in
set_option maxRecDepth 100000 in
theorem rmac_any {AK AH : Option Addr} {cK cH : Nat} {A A2 : Option Addr} {n c n2 c2 : Nat} {key b : List Int} {w : World} (hK : Rd .u32 w AK 64 KT) (hH : Rd .u32 w AH 8 H0.l) (hk : Bs w A n c key) (hb : Bz w A2 n2 b) (hn : n ≤ 1000) (hn2 : n2 ≤ 100000) :
    Calls Tryz.prog 60 #[.agg #[.slice AK 64 cK, .slice AH 8 cH], .slice A n c, .slice A2 n2 c2] w (AnsOb (mac key b) w) := by
  have HL := Lib.hid hk.rd.len
  have HL2 := Lib.hid hb.rd.len
  obtain ⟨W0, hW0⟩ : ∃ W0, w.alloc (.cells #[.slice AK 64 cK, .slice AH 8 cH] 110) = W0 := ⟨_, rfl⟩
  obtain ⟨s, hs⟩ : ∃ s, w.heap.size + 1 = s := ⟨_, rfl⟩
  have S0 : W0.heap.size = s := by rw [← hW0, ← hs]; simp
  have HBX := Lib.hid (show W0.heap[w.heap.size]? = some (.cells #[.slice AK 64 cK, .slice AH 8 cH] 110 (0, 0)) by rw [← hW0]; exact heap_alloc_new w _)
  have HB0 := Lib.hid (show Below w.heap.size w W0 by rw [← hW0]; exact (Below.refl _ w).alloc (Nat.le_refl _) _)
  have HKy := Lib.hid (hk.below HB0.out)
  have HBb := Lib.hid (hb.below HB0.out)
  have HK0 := Lib.hid (hK.below HB0.out)
  have HH0 := Lib.hid (hH.below HB0.out)
  have HW0 := Lib.hid hW0
  have HS := Lib.hid hs
  have HO0 := Lib.hid (own_none_at W0 5 .u8 (base := s) S0 (Nat.le_refl _))
  have HS0 := Lib.hid S0
  have HR0 := Lib.hid ((HKy.out.rd).alloc (.cells #[] 5))
  clear hW0 hK hH hk hb hs
  go_enter Tryz.func60, Tryz.ntmps60
  go_wp2_with (at_builtin; rw [HW0.out]; refine wpList_cat8 _ rfl (.tmp 11) (.tmp 12) 24 rfl s 5 .u8 Tryz.underlying24 info8u _ 0 [] rfl (by rw [HS.out]; exact HO0.out) A n c key rfl HR0.out (by omega) (by simp; omega) ?_)
  rintro v1 w1 h1 g1
  have b1 := own_below ((Below.refl s W0).alloc (by omega) _) (by rw [HS.out]; exact HO0.out) g1 (by simp; omega) (Nat.le_refl _)
  have o1 : Own8 w1 s v1 key := Own8.app (xs := []) rfl HL.out (by simpa using h1)
  obtain ⟨A1, c1, rfl, bs1⟩ := o1.bs HKy.out.dig_ (by rw [HL.out]; omega)
  rw [HL.out] at bs1 o1 ⊢
  have O1 := Lib.hid o1
  have BS1 := Lib.hid bs1
  have B1 := Lib.hid b1
  clear h1 g1 b1 o1 bs1 HO0 HR0
  go_upto_if 16 with fail
  go_cut [7] (fun v wx => RmC key s W0 v wx)
  case first =>
    rcases Nat.lt_or_ge 64 n with hlt | hge
    · have g1 : decide ((64 : Int) < (n : Int)) = true := by simp; omega
      have HO := Lib.hid (show KeyOf key (sha key) by unfold KeyOf; rw [if_pos (by rw [HL.out]; exact hlt)])
      have HROW := Lib.hid (show w1.heap[w.heap.size]? = some (.cells #[.slice AK 64 cK, .slice AH 8 cH] 110 (0, 0)) from (B1.out.block _ (by have := HS.out; omega)).trans HBX.out)
      go_wp2_with (refine wpList_load_row rfl 110 (.tmp 3) rfl w.heap.size rfl _ #[.slice AK 64 cK, .slice AH 8 cH] _ _ HROW.out Tryz.underlying110 rfl size28 ?_)
      refine (dsha_any (HK0.out.below (by rw [S0]; exact B1.out)) (HH0.out.below (by rw [S0]; exact B1.out)) BS1.out (by omega)).mono ?_
      rintro e w2 ⟨v2, rfl, ho2, hb2⟩
      have s1 := B1.out.size
      rw [S0] at s1
      go_wp2_with fail
      go_meet
      exact ⟨_, ho2.base s1, HO.out, sha_dig _, B1.out.trans (hb2.mono s1)⟩
    · have g1 : decide ((64 : Int) < (n : Int)) = false := by simp; omega
      have HO := Lib.hid (show KeyOf key key by unfold KeyOf; rw [if_neg (by rw [HL.out]; omega)])
      go_wp2_with fail
      go_meet
      exact ⟨_, O1.out, HO.out, HKy.out.dig_, B1.out⟩
  case rest =>
    obtain ⟨K, ho, hko, hkd, hbx⟩ := hcut
    have hKle := hko.le
    have HKO := Lib.hid hko
    have HKD := Lib.hid hkd
    have O2 := Lib.hid (show Own8 _ s _ (K ++ List.replicate 0 0) by simpa using ho)
    have B2 := Lib.hid hbx
    clear ho hko hkd hbx O1 BS1 B1
    go_wp2_with fail
    go_loopw [7] (fun v wr => RmF K s W0 v wr) (fun v _ => 64 - sln v)
    case atStart => exact ⟨0, by omega, O2.out, B2.out⟩
    case round =>
      clear O2 B2
      obtain ⟨j, hj, ho, hb⟩ := hrel
      obtain ⟨m, hm⟩ : ∃ m, K.length + j = m := ⟨_, rfl⟩
      have hlen : (K ++ List.replicate j 0).length = m := by simp [← hm]
      obtain ⟨Av, cv, rfl, hrv, -, -⟩ := ho.rd
      rw [hlen] at hrv ho ⊢
      have sb := hb.size
      rw [S0] at sb
      have HO := Lib.hid ho
      have HB := Lib.hid hb
      have HLEN := Lib.hid hlen
      have HM := Lib.hid hm
      rw [hm] at hj
      clear ho hb hlen hm
      rcases Nat.lt_or_ge m 64 with hlt | hge
      · have hmi : (m : Int) < 64 := by omega
        clear hrv
        go_wp2_with (at_builtin; refine wpList_app1 _ rfl (.tmp 23) (.tmp 24) 24 rfl s 1 5 .u8 Tryz.underlying24 info8u (by omega) _ _ _ rfl (HO.out.alloc _) wr.heap.size 0 rfl (cell_one _ _ _) (by simp) (by have := HLEN.out; omega) (by simp; omega) ?_)
        rintro v3 w3 h3 g3
        have b3 := own_below (HB.out.alloc (by omega) _) (HO.out.alloc _) g3 (by simp; omega) (Nat.le_refl _)
        have ho3 : Own8 w3 s v3 (K ++ List.replicate (j + 1) 0) := by
          rw [show List.replicate (j + 1) (0 : Int) = List.replicate j 0 ++ [0] from List.replicate_succ' .., ← List.append_assoc]
          exact Own8.app rfl rfl (by simpa using h3)
        have HO3 := Lib.hid ho3
        have hln3 : sln v3 = m + 1 := by
          obtain ⟨A3, c3, rfl, -, -, -⟩ := ho3.rd
          show (K ++ List.replicate (j + 1) 0).length = m + 1
          simp; have := HM.out; omega
        have HLN3 := Lib.hid hln3
        clear h3 g3 ho3 hln3
        go_wp2_with fail
        go_roundw
        case rel => exact ⟨j + 1, by have := HM.out; omega, HO3.out, b3⟩
        case measure => rw [HLN3.out]; simp [sln]; omega
      · obtain rfl : m = 64 := by omega
        have ej : j = 64 - K.length := by have := HM.out; omega
        obtain ⟨kb, hkb⟩ : ∃ kb, K ++ List.replicate j 0 = kb := ⟨_, rfl⟩
        rw [hkb] at hrv
        have HKB := Lib.hid (show keyB key = kb by rw [HKO.out.block, ← hkb, ej])
        have hkl : kb.length = 64 := by rw [← hkb]; exact HLEN.out
        have HKL := Lib.hid hkl
        obtain ⟨wl, rfl⟩ : ∃ wl, wl = wr := ⟨_, rfl⟩
        have HRK := Lib.hid hrv
        clear hkb HO HLEN HM ej hrv hkl
        go_wp2_with fail
        go_loopw [8, 9, 10] (fun vi vo i wr => RmR kb wl vi vo i wr) (fun _ _ i _ => 64 - (intOf i).toNat)
        case atStart => exact ⟨0, Nat.zero_le _, rfl, ⟨Own8.none _ _, Own8.none _ _, fun g e => by cases e⟩, Below.refl _ _⟩
        case round =>
          obtain ⟨k, hk, rfl, ht, hbl⟩ := hrel
          have sl := hbl.size
          rcases Nat.lt_or_ge k 64 with hlt | hge
          · have hki : (k : Int) < 64 := by omega
            have hcx := (HRK.out.below hbl)
            obtain ⟨bk, ok, rfl, hbk, -⟩ := HRK.out.cells (by omega)
            have hc := hcx.cx hlt
            obtain ⟨y, hy⟩ : ∃ y, dig kb k = y := ⟨_, rfl⟩
            rw [hy] at hc
            have HY := Lib.hid hy
            have HT := Lib.hid ht
            have HBL := Lib.hid hbl
            clear ht hbl hcx hy
            have hmk : ((mask 54 kb).take k).length = k := by rw [List.length_take, mask_len, HKL.out]; omega
            have hmk2 : ((mask 92 kb).take k).length = k := by rw [List.length_take, mask_len, HKL.out]; omega
            have HMK := Lib.hid hmk
            have HMK2 := Lib.hid hmk2
            clear hmk hmk2
            go_wp2_with (at_builtin; refine wpList_two8 rfl (.tmp 30) (.tmp 36) rfl wl.heap.size _ _ k _ _ rfl (HT.out.alloc _) HMK.out wr.heap.size (bits .xor .u8 y 54) rfl (cell_one _ _ _) (by omega) (by simp; omega) ?_)
            rintro v2 w2 h2 g2
            have b2 := own_below (HBL.out.alloc sl _) (HT.out.alloc _).one g2 (by simp; omega) (Nat.le_refl _)
            have s2 := b2.size
            have hc2 := ((HRK.out.below b2).cx hlt)
            rw [HY.out] at hc2
            have H2 := Lib.hid h2
            have B2 := Lib.hid b2
            clear h2 g2 b2 hc
            go_wp2_with (at_builtin; refine wpList_two8 rfl (.tmp 38) (.tmp 44) rfl wl.heap.size _ _ k _ _ rfl (H2.out.swap.alloc _) HMK2.out w2.heap.size (bits .xor .u8 y 92) rfl (cell_one _ _ _) (by omega) (by simp; omega) ?_)
            rintro v3 w3 h3 g3
            have b3 := own_below (B2.out.alloc s2 _) (H2.out.swap.alloc _).one g3 (by simp; omega) (Nat.le_refl _)
            have H3 := Lib.hid h3
            clear h3 g3 hc2
            go_wp2_with fail
            go_roundw
            case rel =>
              refine ⟨k + 1, by omega, by go_num, ?_, b3⟩
              rw [mask_next 54 kb (by rw [HKL.out]; exact hlt), mask_next 92 kb (by rw [HKL.out]; exact hlt), HY.out]
              exact H3.out.swap
            case measure => simp [intOf]; omega
          · obtain rfl : k = 64 := by omega
            rw [List.take_of_length_le (by rw [mask_len, HKL.out]; exact Nat.le_refl _), List.take_of_length_le (by rw [mask_len, HKL.out]; exact Nat.le_refl _)] at ht
            obtain ⟨M1, hM1⟩ : ∃ M1, mask 54 kb = M1 := ⟨_, rfl⟩
            obtain ⟨M2, hM2⟩ : ∃ M2, mask 92 kb = M2 := ⟨_, rfl⟩
            have HM1 := Lib.hid hM1
            have HM2 := Lib.hid hM2
            have L1 := Lib.hid (show M1.length = 64 by rw [← hM1, mask_len, HKL.out])
            have L2 := Lib.hid (show M2.length = 64 by rw [← hM2, mask_len, HKL.out])
            have D1 := Lib.hid (show Dig 256 M1 by rw [← hM1]; exact mask_dig _ _)
            have D2 := Lib.hid (show Dig 256 M2 by rw [← hM2]; exact mask_dig _ _)
            rw [hM1, hM2] at ht
            have HT := Lib.hid ht
            have BL := Lib.hid (HB.out.trans (hbl.mono sb))
            obtain ⟨w5, rfl⟩ : ∃ w5, w5 = wr := ⟨_, rfl⟩
            have hb5 := Lib.hid (HBb.out.below (by rw [S0]; exact BL.out))
            have s5 := BL.out.size
            rw [S0] at s5
            clear ht hbl hM1 hM2 hk hge
            go_wp2_with (at_builtin; refine wpList_cat8 _ rfl (.tmp 46) (.tmp 47) 24 rfl wl.heap.size 5 .u8 Tryz.underlying24 info8u _ _ M1 rfl HT.out.one A2 n2 c2 b rfl hb5.out.rd (by rw [L1.out]; omega) sl ?_)
            rintro v6 w6 h6 g6
            have o6 : Own8 w6 wl.heap.size v6 (M1 ++ b) := Own8.app rfl HL2.out h6
            have b6 := own_below (BL.out.mono (Nat.le_refl s)) HT.out.one g6 (by omega) (by omega)
            have p6 : Own8 w6 wl.heap.size _ M2 := own_keep HT.out.two fun g e => g6.block g (HT.out.two.lt g e).2 (fun e2 => HT.out.apart g e2.symm e)
            have s6 := g6.size
            have l6 : (M1 ++ b).length = 64 + n2 := by rw [List.length_append, L1.out, HL2.out]
            obtain ⟨A6, c6, rfl, bs6⟩ := o6.bs (D1.out.append HBb.out.dig_) (by rw [l6]; omega)
            rw [l6] at bs6 ⊢
            have BS6 := Lib.hid bs6
            have P6 := Lib.hid p6
            have B6 := Lib.hid b6
            have HROW := Lib.hid (show w6.heap[w.heap.size]? = some (.cells #[.slice AK 64 cK, .slice AH 8 cH] 110 (0, 0)) from (B6.out.block _ (by have := HS.out; omega)).trans HBX.out)
            clear h6 g6 o6 b6 p6 bs6 hb5 BL HT
            go_wp2_with (refine wpList_load_row rfl 110 (.tmp 3) rfl w.heap.size rfl _ #[.slice AK 64 cK, .slice AH 8 cH] _ _ HROW.out Tryz.underlying110 rfl size28 ?_)
            refine (dsha_any (HK0.out.below (by rw [S0]; exact B6.out)) (HH0.out.below (by rw [S0]; exact B6.out)) BS6.out (by omega)).mono ?_
            rintro e w7 ⟨v7, rfl, ho7, hb7⟩
            obtain ⟨X, hX⟩ : ∃ X, sha (M1 ++ b) = X := ⟨_, rfl⟩
            have HX := Lib.hid hX
            have LX := Lib.hid (show X.length = 32 by rw [← hX]; exact sha_len _)
            have DX := Lib.hid (show Dig 256 X by rw [← hX]; exact sha_dig _)
            rw [hX] at ho7
            obtain ⟨A7, c7, rfl, hr7, -, -⟩ := ho7.rd
            rw [LX.out] at hr7 ⊢
            have P7 := Lib.hid (P6.out.below hb7)
            have R7 := Lib.hid hr7
            have s7 := hb7.size
            have B7 := Lib.hid (B6.out.trans (hb7.mono (by omega)))
            clear hX ho7 hr7 hb7 P6 BS6 B6 HROW
            go_wp2_with (at_builtin; refine wpList_cat8 _ rfl (.tmp 49) (.tmp 52) 24 rfl wl.heap.size 5 .u8 Tryz.underlying24 info8u _ _ M2 rfl P7.out _ _ _ X rfl R7.out (by rw [L2.out]; omega) (by omega) ?_)
            rintro v8 w8 h8 g8
            have o8 : Own8 w8 wl.heap.size v8 (M2 ++ X) := Own8.app rfl LX.out h8
            have b8 := own_below B7.out P7.out g8 (by omega) (by omega)
            have l8 : (M2 ++ X).length = 96 := by rw [List.length_append, L2.out, LX.out]
            obtain ⟨A8, c8, rfl, bs8⟩ := o8.bs (D2.out.append DX.out) (by rw [l8]; omega)
            rw [l8] at bs8 ⊢
            have BS8 := Lib.hid bs8
            have B8 := Lib.hid b8
            have HROW := Lib.hid (show w8.heap[w.heap.size]? = some (.cells #[.slice AK 64 cK, .slice AH 8 cH] 110 (0, 0)) from (B8.out.block _ (by have := HS.out; omega)).trans HBX.out)
            clear h8 g8 o8 b8 bs8 P7 R7 B7
            go_wp2_with (refine wpList_load_row rfl 110 (.tmp 3) rfl w.heap.size rfl _ #[.slice AK 64 cK, .slice AH 8 cH] _ _ HROW.out Tryz.underlying110 rfl size28 ?_)
            refine (dsha_any (HK0.out.below (by rw [S0]; exact B8.out)) (HH0.out.below (by rw [S0]; exact B8.out)) BS8.out (by omega)).mono ?_
            rintro e w9 ⟨v9, rfl, ho9, hb9⟩
            have HO9 := Lib.hid ho9
            have HB9 := Lib.hid hb9
            clear ho9 hb9
            go_wp2_with fail
            go_ret
            have s8 := B8.out.size
            rw [S0] at s8
            refine ⟨_, rfl, ?_, HB0.out.trans ((B8.out.mono (by have := HS.out; omega)).trans (HB9.out.mono (by have := HS.out; omega)))⟩
            have e : mac key b = sha (M2 ++ X) := by unfold mac; rw [HKB.out, HM1.out, HM2.out, HX.out]
            rw [e]
            exact HO9.out.base (by have := HS.out; omega)
end Go.Proofs.YtjalncdllegfoaaGreatDoor
