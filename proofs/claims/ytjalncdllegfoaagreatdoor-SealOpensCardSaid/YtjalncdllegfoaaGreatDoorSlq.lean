/-
  Several texts in one: Slr0, Slr1, Slr2, H10.
-/
import Derived.Test.YtjalncdllegfoaaGreatDoorSlp
import Derived.Test.YtjalncdllegfoaaGreatDoorR8p
import Derived.Test.YtjalncdllegfoaaGreatDoorRhr
import Derived.Test.YtjalncdllegfoaaGreatDoorRhs
import Derived.Deep.RegionHeld
import Derived.Deep.DrawnRows
import Derived.Test.YtjalncdllegfoaaGreatDoorSgb
import Derived.Test.YtjalncdllegfoaaGreatDoorMxx
/-
  The document's layer 10: what Long and hide answer.
-/
namespace Go.Proofs.YtjalncdllegfoaaGreatDoor
open Go.RowKit
set_option linter.unusedVariables false
theorem rlong10 {w : World} {A : Option Addr} {n c : Nat} {N : Int} (h : Nm w A n c N) :
    Calls Tryz.prog 24 #[.slice A n c] w fun e w' => e = .returned (.bool (decide (64 < dl N))) ∧ w = w' := by
  go_enter Tryz.func24, Tryz.ntmps24
  go_wp2_with fail
  refine (rlimbs8 h).mono ?_
  rintro e w1 ⟨rfl, rfl⟩
  go_wp2_with fail
  go_ret
  refine ⟨congrArg (fun q => Ending.returned (.bool q)) ?_, rfl⟩
  rw [decide_eq_decide]
  omega
theorem B8.rd {w w' : World} (hb : B8 w w') {kd : IntKind} {A : Option Addr} {n : Nat} {xs : List Int} (h : Rd kd w A n xs) : Rd kd w' A n xs := h.below hb
/-- Bytes answered by the document, in new memory. -/
def ByA (xs : List Int) (n : Nat) (w : World) (e : Ending) (w' : World) : Prop := ∃ A c, e = .returned (.slice A n c) ∧ Bs w' A n c xs ∧ B8 w w'
theorem AnsOb.by {xs : List Int} {n : Nat} {w w' : World} {e : Ending} (hl : xs.length = n) (hd : Dig 256 xs) (hn : n ≤ 100000) (h : AnsOb xs w e w') : ByA xs n w e w' := by
  obtain ⟨v, rfl, ho, hb⟩ := h
  obtain ⟨A, c, rfl, hbs⟩ := ho.bs hd (by omega)
  subst hl
  exact ⟨A, c, rfl, hbs, hb⟩
section
variable {W : World} {AK AH : Option Addr} {cK cH : Nat}
/-- Parts of three, in memory laid for them, behind a draw. -/
theorem rparts3 (hK : Rd .u32 W AK 64 KT) (hH : Rd .u32 W AH 8 H0.l) {A1 A2 A3 : Option Addr} {n1 n2 n3 c1 c2 c3 : Nat} {xs ys zs R : List Int} (hR : parts [xs, ys, zs] = R) (h1 : Bz W A1 n1 xs) (h2 : Bz W A2 n2 ys) (h3 : Bz W A3 n3 zs) (hn : n1 + n2 + n3 ≤ 100000) {g : Nat} (hg : W.heap.size = g) :
    Calls Tryz.prog 57 #[.agg #[.slice AK 64 cK, .slice AH 8 cH], .slice (some ⟨g, 0, none⟩) 3 3] (W.alloc (.cells #[.slice A1 n1 c1, .slice A2 n2 c2, .slice A3 n3 c3] 24)) (ByA R 32 W) := by
  subst hg hR
  have e1 := h1.rd.len
  have e2 := h2.rd.len
  have e3 := h3.rd.len
  have b0 := B8.alloc W (.cells #[.slice A1 n1 c1, .slice A2 n2 c2, .slice A3 n3 c3] 24)
  refine (rparts_any (b0.rd hK) (b0.rd hH) (pts_three h1 h2 h3) (by rw [fr_three]; omega) (by omega) (fun x hx => ?_)).mono fun e w' hh => ?_
  · rcases List.mem_cons.1 hx with rfl | hx
    · exact h1.dig_
    rcases List.mem_cons.1 hx with rfl | hx
    · exact h2.dig_
    · rw [List.mem_singleton.1 hx]; exact h3.dig_
  · obtain ⟨A, c, e, h1, h2⟩ := AnsOb.by (sha_len _) (sha_dig _) (by omega) hh
    exact ⟨A, c, e, h1, b0.trans h2⟩
/-- Parts of two, in memory laid for them. -/
theorem rparts2 (hK : Rd .u32 W AK 64 KT) (hH : Rd .u32 W AH 8 H0.l) {A1 A2 : Option Addr} {n1 n2 c1 c2 : Nat} {xs ys R : List Int} (hR : parts [xs, ys] = R) (h1 : Bs W A1 n1 c1 xs) (h2 : Bz W A2 n2 ys) (hn : n1 + n2 ≤ 100000) {g : Nat} (hg : W.heap.size = g) :
    Calls Tryz.prog 57 #[.agg #[.slice AK 64 cK, .slice AH 8 cH], .slice (some ⟨g, 0, none⟩) 2 2] (W.alloc (.cells #[.slice A1 n1 c1, .slice A2 n2 c2] 24)) (ByA R 32 W) := by
  subst hg hR
  have e1 := h1.rd.len
  have e2 := h2.rd.len
  have b0 := B8.alloc W (.cells #[.slice A1 n1 c1, .slice A2 n2 c2] 24)
  refine (rparts_any (b0.rd hK) (b0.rd hH) (pts_two h1 h2) (by rw [fr_two]; omega) (by omega) (fun x hx => ?_)).mono fun e w' hh => ?_
  · rcases List.mem_cons.1 hx with rfl | hx
    · exact h1.dig_
    · rw [List.mem_singleton.1 hx]; exact h2.dig_
  · obtain ⟨A, c, e, h1, h2⟩ := AnsOb.by (sha_len _) (sha_dig _) (by omega) hh
    exact ⟨A, c, e, h1, b0.trans h2⟩
theorem rparts2d (hK : Rd .u32 W AK 64 KT) (hH : Rd .u32 W AH 8 H0.l) {A1 A2 : Option Addr} {n1 n2 c1 c2 : Nat} {xs ys R : List Int} (hR : parts [xs, ys] = R) (h1 : Bs W A1 n1 c1 xs) (h2 : Bz W A2 n2 ys) (hn : n1 + n2 ≤ 100000) {g : Nat} (hg : W.heap.size = g) :
    Calls Tryz.prog 57 #[.agg #[.slice AK 64 cK, .slice AH 8 cH], .slice (some ⟨g, 0, none⟩) 2 2] (W.alloc (.cells #[.slice A1 n1 c1, .slice A2 n2 c2] 24)).drew (ByA R 32 W) := by
  have bd := B8.drew W
  refine (rparts2 (W := W.drew) (c1 := c1) (c2 := c2) (bd.rd hK) (bd.rd hH) hR (bd.bsB h1) (bd.bz h2) hn hg).mono fun e w' ⟨A, c, e, h1, h2⟩ => ⟨A, c, e, h1, bd.trans h2⟩
theorem rparts3d (hK : Rd .u32 W AK 64 KT) (hH : Rd .u32 W AH 8 H0.l) {A1 A2 A3 : Option Addr} {n1 n2 n3 c1 c2 c3 : Nat} {xs ys zs R : List Int} (hR : parts [xs, ys, zs] = R) (h1 : Bz W A1 n1 xs) (h2 : Bz W A2 n2 ys) (h3 : Bz W A3 n3 zs) (hn : n1 + n2 + n3 ≤ 100000) {g : Nat} (hg : W.heap.size = g) :
    Calls Tryz.prog 57 #[.agg #[.slice AK 64 cK, .slice AH 8 cH], .slice (some ⟨g, 0, none⟩) 3 3] (W.alloc (.cells #[.slice A1 n1 c1, .slice A2 n2 c2, .slice A3 n3 c3] 24)).drew (ByA R 32 W) := by
  have bd := B8.drew W
  refine (rparts3 (W := W.drew) (c1 := c1) (c2 := c2) (c3 := c3) (bd.rd hK) (bd.rd hH) hR (bd.bz h1) (bd.bz h2) (bd.bz h3) hn hg).mono fun e w' ⟨A, c, e, h1, h2⟩ => ⟨A, c, e, h1, bd.trans h2⟩
theorem rstream10 (hK : Rd .u32 W AK 64 KT) (hH : Rd .u32 W AH 8 H0.l) {A : Option Addr} {c n : Nat} {key R : List Int} (hR : stream key n = R) (hk : Bs W A 32 c key) (hn : n ≤ 10000) :
    Calls Tryz.prog 59 #[.agg #[.slice AK 64 cK, .slice AH 8 cH], .slice A 32 c, .int .i64 n] W (ByA R n W) := by
  subst hR; exact rstream_any hK hH hk (by decide) n hn
theorem rmac10 (hK : Rd .u32 W AK 64 KT) (hH : Rd .u32 W AH 8 H0.l) {A A2 : Option Addr} {c c2 n : Nat} {key xs R : List Int} (hR : mac key xs = R) (hk : Bs W A 32 c key) (hx : Bz W A2 n xs) (hn : n ≤ 10000) :
    Calls Tryz.prog 60 #[.agg #[.slice AK 64 cK, .slice AH 8 cH], .slice A 32 c, .slice A2 n c2] W (ByA R 32 W) := by
  subst hR; exact (rmac_any hK hH hk hx (by decide) (by omega)).mono fun e w' hh => AnsOb.by (sha_len _) (sha_dig _) (by decide) hh
end
theorem Rg.b8 {w w' : World} {b k : Nat} {r : Rgd} (h : Rg w b r k) (hb : B8 w w') : Rg w' b r k := h.below hb
theorem rby8_ex {w : World} {b k : Nat} {r : Rgd} {A : Option Addr} {n c : Nat} {X : Int} (h : Rg w b r k) (lp : r.nP ≤ 300) {l : Nat} (hl : (nb r.P + 7) / 8 = l) (l3 : l ≤ 1024) (ha : Rn w A n c X) (hn : n ≤ 100000) :
    Calls Tryz.prog 58 #[.pointer (some ⟨b, 0, none⟩), .slice A n c] w (fun e w' => ∃ g, e = .returned (.slice (some ⟨g, 0, none⟩) l l) ∧ Bz w' (some ⟨g, 0, none⟩) l (bytesL X l) ∧ B8 w w') :=
  (rby8_any h lp hl l3 ha hn).mono fun e w' ⟨he, hr, hb⟩ => ⟨_, he, ⟨rowAll hr (bytesL_len _ _), bytesL_d⟩, hb⟩
theorem seal_bz (w : World) : Bz (w.alloc (.cells #[.int .u8 115, .int .u8 101, .int .u8 97, .int .u8 108] 5 (4, 5))) (some ⟨w.heap.size, 0, none⟩) 4 [115, 101, 97, 108] :=
  (bs_litL w [115, 101, 97, 108] (4, 5) (n := 4) rfl rfl (by unfold Dig; decide) (by omega)).bz
theorem seal_row {w : World} {g : Nat} {fr : Nat × Nat} (h : w.heap[g]? = some (.cells #[.int .u8 115, .int .u8 101, .int .u8 97, .int .u8 108] 5 fr)) : Bz w (some ⟨g, 0, none⟩) 4 [115, 101, 97, 108] :=
  row_bz (bs := [115, 101, 97, 108]) (n := 4) rfl (by unfold Dig; decide) h
theorem seal_conv (w : World) : (convert 24 24 (.slice (some ⟨w.heap.size, 0, none⟩) 4 4)).run Tryz.prog (w.alloc (.cells #[.int .u8 115, .int .u8 101, .int .u8 97, .int .u8 108] 5)) = .ok (.slice (some ⟨w.heap.size, 0, none⟩) 4 4) (w.alloc (.cells #[.int .u8 115, .int .u8 101, .int .u8 97, .int .u8 108] 5 (4, 5))) :=
  Joins.run_convert_bytes_const_at w _ _ _ 4 4 w.heap.size rfl Tryz.underlying24 Tryz.underlying5
theorem seal_mark {w : World} {g : Nat} (h : w.heap[g]? = some (.cells #[.int .u8 115, .int .u8 101, .int .u8 97, .int .u8 108] 5 (0, 0))) : (convert 24 24 (.slice (some ⟨g, 0, none⟩) 4 4)).run Tryz.prog w = .ok (.slice (some ⟨g, 0, none⟩) 4 4) (w.freeze ⟨g, 4, none⟩ 1) :=
  convert_mark w _ _ _ 4 4 g 4 rfl h Tryz.underlying24 Tryz.underlying5
theorem Bz.al' {w : World} {A : Option Addr} {n : Nat} {xs : List Int} (h : Bz w A n xs) (o : Obj) : Bz (w.alloc o) A n xs := h.alloc o
theorem Bz.dr' {w : World} {A : Option Addr} {n : Nat} {xs : List Int} (h : Bz w A n xs) : Bz w.drew A n xs := (B8.drew w).bz h
theorem hide_bs (w : World) : Bs (w.alloc (.cells #[.int .u8 104, .int .u8 105, .int .u8 100, .int .u8 101] 5 (4, 5))) (some ⟨w.heap.size, 0, none⟩) 4 4 [104, 105, 100, 101] :=
  bs_litL w [104, 105, 100, 101] (4, 5) (n := 4) rfl rfl (by unfold Dig; decide) (by omega)
theorem hide_conv (w : World) : (convert 24 24 (.slice (some ⟨w.heap.size, 0, none⟩) 4 4)).run Tryz.prog (w.alloc (.cells #[.int .u8 104, .int .u8 105, .int .u8 100, .int .u8 101] 5)) = .ok (.slice (some ⟨w.heap.size, 0, none⟩) 4 4) (w.alloc (.cells #[.int .u8 104, .int .u8 105, .int .u8 100, .int .u8 101] 5 (4, 5))) :=
  Joins.run_convert_bytes_const_at w _ _ _ 4 4 w.heap.size rfl Tryz.underlying24 Tryz.underlying5
theorem tag_bs (w : World) : Bs (w.alloc (.cells #[.int .u8 116, .int .u8 97, .int .u8 103] 5 (3, 4))) (some ⟨w.heap.size, 0, none⟩) 3 3 [116, 97, 103] :=
  bs_litL w [116, 97, 103] (3, 4) (n := 3) rfl rfl (by unfold Dig; decide) (by omega)
theorem tag_conv (w : World) : (convert 24 24 (.slice (some ⟨w.heap.size, 0, none⟩) 3 3)).run Tryz.prog (w.alloc (.cells #[.int .u8 116, .int .u8 97, .int .u8 103] 5)) = .ok (.slice (some ⟨w.heap.size, 0, none⟩) 3 3) (w.alloc (.cells #[.int .u8 116, .int .u8 97, .int .u8 103] 5 (3, 4))) :=
  Joins.run_convert_bytes_const_at w _ _ _ 3 3 w.heap.size rfl Tryz.underlying24 Tryz.underlying5
/-- Bytes and a tag, answered. -/
def HidP (X T : List Int) (n : Nat) (w : World) (e : Ending) (w' : World) : Prop :=
  ∃ A c A' c', e = .returned (.tuple #[.slice A n c, .slice A' 32 c']) ∧ Bz w' A n X ∧ Bz w' A' 32 T ∧ B8 w w'
/-- The document's loop: bytes up to i are laid. -/
def OxR (b z : List Int) (n : Nat) (w : World) (i : Value) (wr : World) : Prop :=
  ∃ (k : Nat) (zs : List Int), k ≤ n ∧ i = .int .i64 k ∧ Row wr w.heap.size 5 .u8 zs ∧ zs.length = n ∧ (∀ j, j < k → dig zs j = bits .xor .u8 (dig b j) (dig z j)) ∧ B8 w wr
section
variable {w : World} {b k : Nat} {r : Rgd} {A A' Ab : Option Addr} {n c n' c' nbb cb : Nat} {K R : Int} {bs : List Int}
set_option maxHeartbeats 8000000 in
set_option maxRecDepth 100000 in
theorem rhide_any (h : Rg w b r k) (lp : r.nP ≤ 300) (hnb : nb r.P ≤ 4096) (hk : Rn w A n c K) (nk : n ≤ 100000) (hr : Rn w A' n' c' R) (nr : n' ≤ 100000) (hb : Bz w Ab nbb bs) (ln : nbb ≤ 10000) (op : Bool) :
    Calls Tryz.prog 28 #[.pointer (some ⟨b, 0, none⟩), .slice A n c, .slice A' n' c', .slice Ab nbb cb, .bool op] w (HidP (slX r.P K R bs) (slG r.P K R (if op = true then bs else slX r.P K R bs)) nbb w) := by
  obtain ⟨l, hl⟩ : ∃ l, (nb r.P + 7) / 8 = l := ⟨_, rfl⟩
  have l1 : l ≤ 1000 := by omega
  obtain ⟨KK, hKK⟩ : ∃ KK, slK r.P K R = KK := ⟨_, rfl⟩
  obtain ⟨KH, hKH⟩ : ∃ KH, slH r.P K R = KH := ⟨_, rfl⟩
  obtain ⟨KT2, hKT⟩ : ∃ KT2, slT r.P K R = KT2 := ⟨_, rfl⟩
  obtain ⟨z, hz⟩ : ∃ z, stream KH nbb = z := ⟨_, rfl⟩
  obtain ⟨X, hX⟩ : ∃ X, slX r.P K R bs = X := ⟨_, rfl⟩
  have EK := Lib.hid (show parts [[115, 101, 97, 108], bytesL K l, bytesL R l] = KK by rw [← hKK, ← hl, ← sealL_eq]; rfl)
  have EH := Lib.hid (show parts [[104, 105, 100, 101], KK] = KH by rw [← hKH, ← hKK, ← hideL_eq]; rfl)
  have ET := Lib.hid (show parts [[116, 97, 103], KK] = KT2 by rw [← hKT, ← hKK, ← tagL_eq]; rfl)
  have EZ := Lib.hid hz
  have EX := Lib.hid (show xorB bs z = X by rw [← hX, ← hz, ← hKH, ← hb.rd.len]; rfl)
  have EG := Lib.hid (show ∀ xs, slG r.P K R xs = mac KT2 xs from fun xs => by rw [← hKT]; rfl)
  have ZL := Lib.hid (show z.length = nbb by rw [← hz, stream_len])
  have ZD := Lib.hid (show Dig 256 z by rw [← hz]; exact stream_dig _ _)
  have BL := Lib.hid hb.rd.len
  have HKL := Lib.hid (show KK.length = 32 by rw [← hKK]; exact slK_len _ _ _)
  rw [hX]
  obtain ⟨hs, hhs⟩ : ∃ hs, (if op = true then bs else X) = hs := ⟨_, rfl⟩
  rw [hhs]
  have HHS := Lib.hid hhs
  clear hhs
  have HG := Lib.hid h
  have HL := Lib.hid hl
  have HKn := Lib.hid hk
  have HRn := Lib.hid hr
  have HB := Lib.hid hb
  clear h hl hk hr hb hKK hKH hKT hz hX hnb
  go_enter Tryz.func28, Tryz.ntmps28
  go_wp2_with fail
  refine (made_walk w).mono ?_
  rintro e u0 ⟨AK, cK, AH, cH, rfl, hK, hH, c0⟩
  have ba := B8.alloc u0 (.cells #[.slice AK 64 cK, .slice AH 8 cH] 110)
  have px := tb_box u0 (.slice AK 64 cK) (.slice AH 8 cH)
  obtain ⟨W1, hW1⟩ : ∃ W1, u0.alloc (.cells #[.slice AK 64 cK, .slice AH 8 cH] 110) = W1 := ⟨_, rfl⟩
  have SP := Lib.hid (show u0.heap.size < W1.heap.size by rw [← hW1]; simp)
  rw [hW1] at ba px
  have CW := Lib.hid ((show B8 w u0 from c0).trans ba)
  have HK := Lib.hid (ba.rd hK)
  have HH := Lib.hid (ba.rd hH)
  have PX := Lib.hid px
  clear c0 ba px hK hH
  go_upto_region 2 with fail
  clear hW1
  go_cut [13] (fun v wx => ∃ A3 c3, v = .slice A3 32 c3 ∧ Bs wx A3 32 c3 KK ∧ B8 W1 wx)
  case first =>
    have kall : ∀ w', B8 W1 w' → w'.cell? ⟨u0.heap.size, 0, none⟩ = some (.slice AK 64 cK) ∧ w'.cell? ⟨u0.heap.size, 1, none⟩ = some (.slice AH 8 cH) := fun w' hb => ⟨(hb.cell SP.out).trans PX.out.1, (hb.cell SP.out).trans PX.out.2⟩
    have KALL := Lib.hid kall
    have KFR := Lib.hid (show ∀ w', B8 W1 w' → ∀ a m, (w'.freeze a m).cell? ⟨u0.heap.size, 0, none⟩ = some (.slice AK 64 cK) ∧ (w'.freeze a m).cell? ⟨u0.heap.size, 1, none⟩ = some (.slice AH 8 cH) from fun w' hb a m => ⟨(World.cell?_freeze _ _ _ _).trans (kall w' hb).1, (World.cell?_freeze _ _ _ _).trans (kall w' hb).2⟩)
    have kA := kall W1 (B8.refl _)
    have kA2 := kall W1.drew (B8.drew _)
    have cv1 : (convert 24 24 (.slice (some ⟨W1.heap.size, 0, none⟩) 4 4)).run Tryz.prog (W1.alloc (.cells #[.int .u8 115, .int .u8 101, .int .u8 97, .int .u8 108] 5)).drew = .ok (.slice (some ⟨W1.heap.size, 0, none⟩) 4 4) (W1.alloc (.cells #[.int .u8 115, .int .u8 101, .int .u8 97, .int .u8 108] 5 (4, 5))).drew := seal_conv W1.drew
    have kB := kall (W1.alloc (.cells #[.int .u8 115, .int .u8 101, .int .u8 97, .int .u8 108] 5)) (B8.alloc _ _)
    have kC := kall (W1.alloc (.cells #[.int .u8 115, .int .u8 101, .int .u8 97, .int .u8 108] 5 (4, 5))) (B8.alloc _ _)
    clear kall
    go_region_held (fun w' => w'.cell? ⟨u0.heap.size, 0, none⟩ = some (.slice AK 64 cK) ∧ w'.cell? ⟨u0.heap.size, 1, none⟩ = some (.slice AH 8 cH)) (first | exact kA | exact kA2 | exact kB | exact kC | exact kE | exact kF | exact kG | exact kH | exact kI | exact kJ | go_keep | assumption)
      (first
        | (go_at_call 58; (with_reducible refine (rby8_ex (X := K) (HG.out.b8 (show B8 w _ from CW.out.trans (show B8 W1 _ from (by repeat (first | exact B8.refl _ | exact HB2.out | exact HB1.out | refine B8.dr' ?_ | refine B8.al' ?_ _ | refine B8.fr' ?_ (by first | exact Nat.le_refl _ | exact HB1.out.sz)))))) lp HL.out (by omega) (rn_bel HKn.out (show B8 w _ from CW.out.trans (show B8 W1 _ from (by repeat (first | exact B8.refl _ | exact HB2.out | exact HB1.out | refine B8.dr' ?_ | refine B8.al' ?_ _ | refine B8.fr' ?_ (by first | exact Nat.le_refl _ | exact HB1.out.sz)))))) nk).mono ?_); rintro e u1 ⟨ga, rfl, s2, hb1⟩; have HB1 := Lib.hid (B8.trans (show B8 W1 _ from (by repeat (first | exact B8.refl _ | exact HB2.out | exact HB1.out | refine B8.dr' ?_ | refine B8.al' ?_ _ | refine B8.fr' ?_ (by first | exact Nat.le_refl _ | exact HB1.out.sz)))) hb1); have kE := KALL.out u1 HB1.out; have S2 := Lib.hid s2; have cv4 := seal_conv u1; (try have SL := Lib.hid (hb1.bz (seal_bz W1).dr')); (try (have rl := (hb1.row (g := W1.heap.size) (by simp)).trans (heap_alloc_new W1 (.cells #[.int .u8 115, .int .u8 101, .int .u8 97, .int .u8 108] 5)); have cv2 := seal_mark rl; have kF := KFR.out u1 HB1.out ⟨W1.heap.size, 4, none⟩ 1)); clear s2 hb1)
        | (go_at_call 58; (with_reducible refine (rby8_ex (X := R) (HG.out.b8 (show B8 w _ from CW.out.trans (show B8 W1 _ from (by repeat (first | exact B8.refl _ | exact HB2.out | exact HB1.out | refine B8.dr' ?_ | refine B8.al' ?_ _ | refine B8.fr' ?_ (by first | exact Nat.le_refl _ | exact HB1.out.sz)))))) lp HL.out (by omega) (rn_bel HRn.out (show B8 w _ from CW.out.trans (show B8 W1 _ from (by repeat (first | exact B8.refl _ | exact HB2.out | exact HB1.out | refine B8.dr' ?_ | refine B8.al' ?_ _ | refine B8.fr' ?_ (by first | exact Nat.le_refl _ | exact HB1.out.sz)))))) nr).mono ?_); rintro e u2 ⟨gb, rfl, s3, hb2⟩; have HB2 := Lib.hid (B8.trans (show B8 W1 _ from (by repeat (first | exact B8.refl _ | exact HB2.out | exact HB1.out | refine B8.dr' ?_ | refine B8.al' ?_ _ | refine B8.fr' ?_ (by first | exact Nat.le_refl _ | exact HB1.out.sz)))) hb2); have kG := KALL.out u2 HB2.out; have S3 := Lib.hid s3; have S2b := Lib.hid (hb2.bz (show Bz _ (some ⟨ga, 0, none⟩) l (bytesL K l) from (by repeat (first | exact S2.out | refine Bz.dr' ?_ | refine Bz.al' ?_ _ | refine Bz.fr' ?_ _ _)))); have cv6 := seal_conv u2; (try have SLb := Lib.hid (hb2.bz SL.out)); (try have SLb := Lib.hid (hb2.bz (seal_bz u1))); (try have SLb := Lib.hid (hb2.bz ((seal_row rl).fr' _ _))); (try (have rl3 := (hb2.row (g := W1.heap.size) (Array.getElem?_eq_some_iff.1 rl).1).trans rl; have cv3 := seal_mark rl3; have kH := KFR.out u2 HB2.out ⟨W1.heap.size, 4, none⟩ 1)); (try (have rl5 := (hb2.row (g := u1.heap.size) (by simp)).trans (heap_alloc_new u1 (.cells #[.int .u8 115, .int .u8 101, .int .u8 97, .int .u8 108] 5)); have cv5 := seal_mark rl5; have kI := KFR.out u2 HB2.out ⟨u1.heap.size, 4, none⟩ 1)); clear s3 hb2)
        | (go_at_call 57; (with_reducible refine (rparts3 (B8.rd (show B8 W1 _ from (by repeat (first | exact B8.refl _ | exact HB2.out | exact HB1.out | refine B8.dr' ?_ | refine B8.al' ?_ _ | refine B8.fr' ?_ (by first | exact Nat.le_refl _ | exact HB1.out.sz)))) HK.out) (B8.rd (show B8 W1 _ from (by repeat (first | exact B8.refl _ | exact HB2.out | exact HB1.out | refine B8.dr' ?_ | refine B8.al' ?_ _ | refine B8.fr' ?_ (by first | exact Nat.le_refl _ | exact HB1.out.sz)))) HH.out) EK.out (by first | exact SLb.out | exact (seal_row rl3).fr' _ _ | exact (seal_row rl5).fr' _ _ | exact seal_bz u2) (by repeat (first | exact S2b.out | refine Bz.dr' ?_ | refine Bz.al' ?_ _ | refine Bz.fr' ?_ _ _)) (by repeat (first | exact S3.out | refine Bz.dr' ?_ | refine Bz.al' ?_ _ | refine Bz.fr' ?_ _ _)) (by omega) (by first | rfl | simp)).mono ?_); rintro e u3 ⟨A3, c3, rfl, k3, hb3⟩; have HB3 := Lib.hid (B8.trans (show B8 W1 _ from (by repeat (first | exact B8.refl _ | exact HB2.out | exact HB1.out | refine B8.dr' ?_ | refine B8.al' ?_ _ | refine B8.fr' ?_ (by first | exact Nat.le_refl _ | exact HB1.out.sz)))) hb3); have kJ := KALL.out u3 HB3.out; have K3 := Lib.hid k3; clear k3 hb3))
    all_goals
      go_wp2_with fail
      go_meet
      exact ⟨A3, c3, rfl, K3.out, HB3.out⟩
  case rest =>
    obtain ⟨A3, c3, rfl, k3, b3⟩ := hcut
    obtain ⟨W2, rfl⟩ : ∃ W2, W2 = wc := ⟨_, rfl⟩
    have K3 := Lib.hid k3
    have CB := Lib.hid b3
    clear k3 b3
    go_upto_region 3 with fail
    go_cut [14] (fun v wx => ∃ A4 c4, v = .slice A4 nbb c4 ∧ Bs wx A4 nbb c4 z ∧ B8 W2 wx)
    case first =>
      have kall : ∀ w', B8 W2 w' → w'.cell? ⟨u0.heap.size, 0, none⟩ = some (.slice AK 64 cK) ∧ w'.cell? ⟨u0.heap.size, 1, none⟩ = some (.slice AH 8 cH) := fun w' hb => ⟨((CB.out.trans hb).cell SP.out).trans PX.out.1, ((CB.out.trans hb).cell SP.out).trans PX.out.2⟩
      have KALL := Lib.hid kall
      have kA := kall W2 (B8.refl _)
      have kB := kall (W2.alloc (.cells #[.int .u8 104, .int .u8 105, .int .u8 100, .int .u8 101] 5)) (B8.alloc _ _)
      have BL4 := Lib.hid (B8.alloc W2 (.cells #[.int .u8 104, .int .u8 105, .int .u8 100, .int .u8 101] 5 (4, 5)))
      have kC := kall (W2.alloc (.cells #[.int .u8 104, .int .u8 105, .int .u8 100, .int .u8 101] 5 (4, 5))) BL4.out
      have kD := kall ((W2.alloc (.cells #[.int .u8 104, .int .u8 105, .int .u8 100, .int .u8 101] 5 (4, 5))).alloc (.cells #[.slice (some ⟨W2.heap.size, 0, none⟩) 4 4, .slice A3 32 c3] 24)) (BL4.out.trans (B8.alloc _ _))
      have cv : (convert 24 24 (.slice (some ⟨W2.heap.size, 0, none⟩) 4 4)).run Tryz.prog (W2.alloc (.cells #[.int .u8 104, .int .u8 105, .int .u8 100, .int .u8 101] 5)).drew = .ok (.slice (some ⟨W2.heap.size, 0, none⟩) 4 4) (W2.alloc (.cells #[.int .u8 104, .int .u8 105, .int .u8 100, .int .u8 101] 5 (4, 5))).drew := hide_conv W2.drew
      have LB := Lib.hid (hide_bs W2)
      clear kall
      go_region_held (fun w' => w'.cell? ⟨u0.heap.size, 0, none⟩ = some (.slice AK 64 cK) ∧ w'.cell? ⟨u0.heap.size, 1, none⟩ = some (.slice AH 8 cH)) (first | exact kA | exact kB | exact kC | exact kD | exact kE | exact kF | go_keep | assumption)
        (first
          | (go_at_call 57; (with_reducible refine (rparts2d (BL4.out.rd (CB.out.rd HK.out)) (BL4.out.rd (CB.out.rd HH.out)) EH.out LB.out (BL4.out.bz K3.out.bz) (by omega) (by first | rfl | simp)).mono ?_); rintro e u1 ⟨A5, c5, rfl, k5, b5⟩; have HB1 := Lib.hid (BL4.out.trans b5); have kE := KALL.out u1 HB1.out; have K5 := Lib.hid k5; clear k5 b5)
          | (go_at_call 59; (with_reducible refine (rstream10 ((CB.out.trans HB1.out).rd HK.out) ((CB.out.trans HB1.out).rd HH.out) EZ.out K5.out ln).mono ?_); rintro e u2 ⟨A6, c6, rfl, k6, b6⟩; have HB2 := Lib.hid (HB1.out.trans b6); have kF := KALL.out u2 HB2.out; have K6 := Lib.hid k6; clear k6 b6))
      all_goals
        go_wp2_with fail
        go_meet
        exact ⟨A6, c6, rfl, K6.out, HB2.out⟩
    case rest =>
    obtain ⟨A4, c4, rfl, k4, b4⟩ := hcut
    obtain ⟨W3, rfl⟩ : ∃ W3, W3 = wc := ⟨_, rfl⟩
    have K4 := Lib.hid k4
    have K3b := Lib.hid (B8.bsB b4 K3.out)
    have CB3 := Lib.hid (CB.out.trans b4)
    clear k4 b4 CB K3
    have hmk := fun W => run_make8 nbb (C := (nbb : Int)) rfl (by omega) W
    obtain ⟨Z, hZ⟩ : ∃ Z : List Int, Z = List.replicate nbb 0 := ⟨_, rfl⟩
    rw [← hZ] at hmk
    have HZ := Lib.hid hZ
    clear hZ
    go_wp2_with fail
    clear hmk
    go_loopw [16] (fun i wr => OxR bs z nbb W3 i wr) (fun i _ => nbb - (intOf i).toNat)
    case atStart => exact ⟨0, Z, Nat.zero_le _, rfl, Row.new _ _ _ _, by rw [HZ.out]; simp, fun j hj => absurd hj (Nat.not_lt_zero j), B8.alloc _ _⟩
    case round =>
      obtain ⟨k, zs, hk, rfl, hrow, hzl, h1, hbw⟩ := hrel
      have HR := Lib.hid hrow
      have H1 := Lib.hid h1
      have HW := Lib.hid hbw
      have HZL := Lib.hid hzl
      clear h1 hbw
      rcases Nat.lt_or_ge k nbb with hlt | hge
      · have hkn : (k : Int) < (nbb : Int) := by omega
        have fz := hrow.frozen k
        have cz := hrow.cell (getElem?_dig (show k < zs.length by omega))
        obtain ⟨ba, oa, x, rfl, hba, hbx, hcb⟩ := ((CW.out.trans (CB3.out.trans HW.out)).bz HB.out).rd.at_ hlt
        obtain ⟨bz, oz, y, rfl, hbz, hyx, hcz⟩ := (HW.out.bz K4.out.bz).rd.at_ hlt
        have EX1 := Lib.hid (dig_lt hbx)
        have EY1 := Lib.hid (dig_lt hyx)
        clear hrow hzl hbx hyx
        go_wp2_with fail
        go_region
        all_goals
          go_wp2_with fail
          go_roundw
          case rel =>
            refine ⟨k + 1, _, by omega, by go_num, (HR.out.set _ _).drew, by simpa using HZL.out, fun j hj => ?_, (Below.setCell HW.out (Nat.le_refl _) _).drew⟩
            rcases Nat.lt_or_ge j k with g | g
            · rw [dig_set_ne (by omega)]; exact H1.out j g
            · obtain rfl : j = k := by omega
              rw [dig_set_same (by rw [HZL.out]; omega), EX1.out, EY1.out]
          case measure => simp [intOf]; omega
      · obtain rfl : nbb = k := by omega
        have hkn : decide ((nbb : Int) < (nbb : Int)) = false := by simp
        have hzx : zs = X := by
          rw [← EX.out]
          refine ext_dig (by rw [hzl, xorB_len, BL.out]) (fun j hj => ?_)
          have hj2 : j < nbb := by rw [hzl] at hj; exact hj
          rw [H1.out j hj2, xorB_at (by rw [BL.out]; exact hj2)]
        subst hzx
        have HOUT := Lib.hid (show Bz wr (some ⟨W3.heap.size, 0, none⟩) nbb zs from ⟨rowAll hrow hzl, by rw [← EX.out]; exact xorB_dig _ _⟩)
        have CB := Lib.hid (CB3.out.trans HW.out)
        have K3 := Lib.hid (B8.bsB HW.out K3b.out)
        clear hrow hzl
        cases op with
        | true =>
          have HHB := Lib.hid (show Bz wr Ab nbb hs by rw [← HHS.out]; exact (CW.out.trans CB.out).bz HB.out)
          go_wp2_with fail
          have kall : ∀ w', B8 wr w' → w'.cell? ⟨u0.heap.size, 0, none⟩ = some (.slice AK 64 cK) ∧ w'.cell? ⟨u0.heap.size, 1, none⟩ = some (.slice AH 8 cH) := fun w' hb => ⟨((CB.out.trans hb).cell SP.out).trans PX.out.1, ((CB.out.trans hb).cell SP.out).trans PX.out.2⟩
          have KALL := Lib.hid kall
          have kA := kall wr (B8.refl _)
          have kB := kall (wr.alloc (.cells #[.int .u8 116, .int .u8 97, .int .u8 103] 5)) (B8.alloc _ _)
          have BL4 := Lib.hid (B8.alloc wr (.cells #[.int .u8 116, .int .u8 97, .int .u8 103] 5 (3, 4)))
          have kC := kall (wr.alloc (.cells #[.int .u8 116, .int .u8 97, .int .u8 103] 5 (3, 4))) BL4.out
          have kD := kall ((wr.alloc (.cells #[.int .u8 116, .int .u8 97, .int .u8 103] 5 (3, 4))).alloc (.cells #[.slice (some ⟨wr.heap.size, 0, none⟩) 3 3, .slice A3 32 c3] 24)) (BL4.out.trans (B8.alloc _ _))
          have cv : (convert 24 24 (.slice (some ⟨wr.heap.size, 0, none⟩) 3 3)).run Tryz.prog (wr.alloc (.cells #[.int .u8 116, .int .u8 97, .int .u8 103] 5)).drew = .ok (.slice (some ⟨wr.heap.size, 0, none⟩) 3 3) (wr.alloc (.cells #[.int .u8 116, .int .u8 97, .int .u8 103] 5 (3, 4))).drew := tag_conv wr.drew
          have LB := Lib.hid (tag_bs wr)
          clear kall
          go_region_held (fun w' => w'.cell? ⟨u0.heap.size, 0, none⟩ = some (.slice AK 64 cK) ∧ w'.cell? ⟨u0.heap.size, 1, none⟩ = some (.slice AH 8 cH)) (first | exact kA | exact kB | exact kC | exact kD | exact kE | exact kF | go_keep | assumption)
            (first
              | (go_at_call 57; (with_reducible refine (rparts2d (BL4.out.rd (CB.out.rd HK.out)) (BL4.out.rd (CB.out.rd HH.out)) ET.out LB.out (BL4.out.bz K3.out.bz) (by omega) (by first | rfl | simp)).mono ?_); rintro e u1 ⟨A5, c5, rfl, k5, b5⟩; have HB1 := Lib.hid (BL4.out.trans b5); have kE := KALL.out u1 HB1.out; have K5 := Lib.hid k5; clear k5 b5)
              | (go_at_call 60; (with_reducible refine (rmac10 ((CB.out.trans HB1.out).rd HK.out) ((CB.out.trans HB1.out).rd HH.out) rfl K5.out (HB1.out.bz HHB.out) ln).mono ?_); rintro e u2 ⟨A6, c6, rfl, k6, b6⟩; have HB2 := Lib.hid (HB1.out.trans b6); have kF := KALL.out u2 HB2.out; have K6 := Lib.hid k6; clear k6 b6))
          all_goals
            go_wp2_with fail
            go_ret2
            exact ⟨_, _, A6, c6, rfl, HB2.out.bz HOUT.out, by rw [EG.out]; exact K6.out.bz, CW.out.trans (CB.out.trans HB2.out)⟩
        | false =>
          have HHB := Lib.hid (show Bz wr (some ⟨W3.heap.size, 0, none⟩) nbb hs by rw [← HHS.out]; exact HOUT.out)
          go_wp2_with fail
          have kall : ∀ w', B8 wr w' → w'.cell? ⟨u0.heap.size, 0, none⟩ = some (.slice AK 64 cK) ∧ w'.cell? ⟨u0.heap.size, 1, none⟩ = some (.slice AH 8 cH) := fun w' hb => ⟨((CB.out.trans hb).cell SP.out).trans PX.out.1, ((CB.out.trans hb).cell SP.out).trans PX.out.2⟩
          have KALL := Lib.hid kall
          have kA := kall wr (B8.refl _)
          have kB := kall (wr.alloc (.cells #[.int .u8 116, .int .u8 97, .int .u8 103] 5)) (B8.alloc _ _)
          have BL4 := Lib.hid (B8.alloc wr (.cells #[.int .u8 116, .int .u8 97, .int .u8 103] 5 (3, 4)))
          have kC := kall (wr.alloc (.cells #[.int .u8 116, .int .u8 97, .int .u8 103] 5 (3, 4))) BL4.out
          have kD := kall ((wr.alloc (.cells #[.int .u8 116, .int .u8 97, .int .u8 103] 5 (3, 4))).alloc (.cells #[.slice (some ⟨wr.heap.size, 0, none⟩) 3 3, .slice A3 32 c3] 24)) (BL4.out.trans (B8.alloc _ _))
          have cv : (convert 24 24 (.slice (some ⟨wr.heap.size, 0, none⟩) 3 3)).run Tryz.prog (wr.alloc (.cells #[.int .u8 116, .int .u8 97, .int .u8 103] 5)).drew = .ok (.slice (some ⟨wr.heap.size, 0, none⟩) 3 3) (wr.alloc (.cells #[.int .u8 116, .int .u8 97, .int .u8 103] 5 (3, 4))).drew := tag_conv wr.drew
          have LB := Lib.hid (tag_bs wr)
          clear kall
          go_region_held (fun w' => w'.cell? ⟨u0.heap.size, 0, none⟩ = some (.slice AK 64 cK) ∧ w'.cell? ⟨u0.heap.size, 1, none⟩ = some (.slice AH 8 cH)) (first | exact kA | exact kB | exact kC | exact kD | exact kE | exact kF | go_keep | assumption)
            (first
              | (go_at_call 57; (with_reducible refine (rparts2d (BL4.out.rd (CB.out.rd HK.out)) (BL4.out.rd (CB.out.rd HH.out)) ET.out LB.out (BL4.out.bz K3.out.bz) (by omega) (by first | rfl | simp)).mono ?_); rintro e u1 ⟨A5, c5, rfl, k5, b5⟩; have HB1 := Lib.hid (BL4.out.trans b5); have kE := KALL.out u1 HB1.out; have K5 := Lib.hid k5; clear k5 b5)
              | (go_at_call 60; (with_reducible refine (rmac10 ((CB.out.trans HB1.out).rd HK.out) ((CB.out.trans HB1.out).rd HH.out) rfl K5.out (HB1.out.bz HHB.out) ln).mono ?_); rintro e u2 ⟨A6, c6, rfl, k6, b6⟩; have HB2 := Lib.hid (HB1.out.trans b6); have kF := KALL.out u2 HB2.out; have K6 := Lib.hid k6; clear k6 b6))
          all_goals
            go_wp2_with fail
            go_ret2
            exact ⟨_, _, A6, c6, rfl, HB2.out.bz HOUT.out, by rw [EG.out]; exact K6.out.bz, CW.out.trans (CB.out.trans HB2.out)⟩
end
end Go.Proofs.YtjalncdllegfoaaGreatDoor
/-
  The document's layer 10: what Close and Open answer.
-/
namespace Go.Proofs.YtjalncdllegfoaaGreatDoor
open Go.RowKit
set_option linter.unusedVariables false
/-- A letter was answered by the document. -/
def LtrD (R : Int) (B T : List Int) (nb : Nat) (w : World) (e : Ending) (w' : World) : Prop :=
  ∃ A n c Ab cb At ct, e = .returned (.tuple #[.agg #[.slice A n c, .slice Ab nb cb, .slice At 32 ct], .int .i64 0]) ∧ Cn w' A n c R ∧ Bz w' Ab nb B ∧ Bz w' At 32 T ∧ B8 w w'
/-- None was, and why. -/
def LtrN (code : Int) (w : World) (e : Ending) (w' : World) : Prop :=
  e = .returned (.tuple #[.agg #[.slice none 0 0, .slice none 0 0, .slice none 0 0], .int .i64 code]) ∧ B8 w w'
/-- Bytes lie in no block of slices. -/
theorem Bz.apart {w : World} {A : Option Addr} {n g : Nat} {xs : List Int} {t : TypeId} (h : Bz w A n xs) (hg : w.heap[g]? = some (.cells #[.slice none 0 0, .slice none 0 0, .slice none 0 0] t (0, 0))) : ∀ a, A = some a → 0 < n → a.block ≠ g := fun a ha hn e => by
  obtain ⟨b, off, x, e1, -, -, hc⟩ := h.rd.at_ hn
  rw [ha] at e1
  injection e1 with e1
  subst e1
  have e2 : b = g := e
  subst e2
  rw [cell_of_row w b (off + 0) _ _ _ hg] at hc
  rcases (show off = 0 ∨ off = 1 ∨ off = 2 ∨ 3 ≤ off by omega) with rfl | rfl | rfl | q
  · simp at hc
  · simp at hc
  · simp at hc
  · rw [Array.getElem?_eq_none (by simpa using q)] at hc; cases hc
section
variable {w : World} {b k : Nat} {r : Rgd} {Ak Ab Ar : Option Addr} {nk ck nb' cb nr cr : Nat} {K R : Int} {bs : List Int}
set_option maxHeartbeats 4000000 in
set_option maxRecDepth 100000 in
theorem rclose_many (x : Value) (hn : 1048576 < nb') : Calls Tryz.prog 9 #[x, .slice Ak nk ck, .slice Ab nb' cb, .slice Ar nr cr] w (LtrN 1 w) := by
  have B0 := Lib.hid (B8.alloc w (.cells #[.slice none 0 0, .slice none 0 0, .slice none 0 0] 33))
  have R0 := Lib.hid (heap_alloc_new w (.cells #[.slice none 0 0, .slice none 0 0, .slice none 0 0] 33))
  have e1 : decide ((1048576 : Int) < (nb' : Int)) = true := by simp; omega
  obtain ⟨w0, hw0⟩ : ∃ w0, w.alloc (.cells #[.slice none 0 0, .slice none 0 0, .slice none 0 0] 33) = w0 := ⟨_, rfl⟩
  rw [hw0] at B0 R0
  have y0 : w0.cell? ⟨w.heap.size, 0, none⟩ = some (.slice none 0 0) := cell_of_row w0 _ 0 _ _ _ R0.out
  have y1 : w0.cell? ⟨w.heap.size, 1, none⟩ = some (.slice none 0 0) := cell_of_row w0 _ 1 _ _ _ R0.out
  have y2 : w0.cell? ⟨w.heap.size, 2, none⟩ = some (.slice none 0 0) := cell_of_row w0 _ 2 _ _ _ R0.out
  have z0 := frozen_of_row w0 _ 0 _ _ R0.out
  have z1 := frozen_of_row w0 _ 1 _ _ R0.out
  have z2 := frozen_of_row w0 _ 2 _ _ R0.out
  go_enter Tryz.func9, Tryz.ntmps9
  go_wp2_with fail
  refine bodyPost_ret (v := .tuple #[.agg #[.slice none 0 0, .slice none 0 0, .slice none 0 0], .int .i64 1]) (results_pf Tryz.results9 _ _ _ w.heap.size _ rfl (load_lt (three_rowL R0.out)) rfl) rfl ?_
  exact ⟨rfl, B0.out.set3 (Nat.le_refl _) _ _ _⟩
set_option maxHeartbeats 4000000 in
set_option maxRecDepth 100000 in
theorem rclose_long (x : Value) (hn : nb' ≤ 1048576) (hr : Nm w Ar nr cr R) (lr : 64 < dl R) : Calls Tryz.prog 9 #[x, .slice Ak nk ck, .slice Ab nb' cb, .slice Ar nr cr] w (LtrN 2 w) := by
  have B0 := Lib.hid (B8.alloc w (.cells #[.slice none 0 0, .slice none 0 0, .slice none 0 0] 33))
  have R0 := Lib.hid (heap_alloc_new w (.cells #[.slice none 0 0, .slice none 0 0, .slice none 0 0] 33))
  have e1 : decide ((1048576 : Int) < (nb' : Int)) = false := by simp; omega
  have e2 : decide (64 < dl R) = true := by simp; omega
  have E2 := Lib.hid e2
  obtain ⟨w0, hw0⟩ : ∃ w0, w.alloc (.cells #[.slice none 0 0, .slice none 0 0, .slice none 0 0] 33) = w0 := ⟨_, rfl⟩
  rw [hw0] at B0 R0
  have HR := Lib.hid (B0.out.nm hr)
  have y0 : w0.cell? ⟨w.heap.size, 0, none⟩ = some (.slice none 0 0) := cell_of_row w0 _ 0 _ _ _ R0.out
  have y1 : w0.cell? ⟨w.heap.size, 1, none⟩ = some (.slice none 0 0) := cell_of_row w0 _ 1 _ _ _ R0.out
  have y2 : w0.cell? ⟨w.heap.size, 2, none⟩ = some (.slice none 0 0) := cell_of_row w0 _ 2 _ _ _ R0.out
  have z0 := frozen_of_row w0 _ 0 _ _ R0.out
  have z1 := frozen_of_row w0 _ 1 _ _ R0.out
  have z2 := frozen_of_row w0 _ 2 _ _ R0.out
  clear hr e2 lr
  go_enter Tryz.func9, Tryz.ntmps9
  go_wp2_with fail
  refine (rlong10 HR.out).mono ?_
  rintro e w1 ⟨rfl, rfl⟩
  rw [E2.out]
  go_wp2_with fail
  refine bodyPost_ret (v := .tuple #[.agg #[.slice none 0 0, .slice none 0 0, .slice none 0 0], .int .i64 2]) (results_pf Tryz.results9 _ _ _ w.heap.size _ rfl (load_lt (three_rowL R0.out)) rfl) rfl ?_
  exact ⟨rfl, B0.out.set3 (Nat.le_refl _) _ _ _⟩
set_option maxHeartbeats 4000000 in
set_option maxRecDepth 100000 in
theorem rclose_no (h : Rg8 w b k r) (hn : nb' ≤ 1048576) (hk : Nm w Ak nk ck K) (lk : Li nk K) (hx : ¬ El r.P r.Q K) (hr : Nm w Ar nr cr R) (lr : dl R ≤ 64) : Calls Tryz.prog 9 #[.pointer (some ⟨b, 0, none⟩), .slice Ak nk ck, .slice Ab nb' cb, .slice Ar nr cr] w (LtrN 8 w) := by
  have B0 := Lib.hid (B8.alloc w (.cells #[.slice none 0 0, .slice none 0 0, .slice none 0 0] 33))
  have R0 := Lib.hid (heap_alloc_new w (.cells #[.slice none 0 0, .slice none 0 0, .slice none 0 0] 33))
  have e1 : decide ((1048576 : Int) < (nb' : Int)) = false := by simp; omega
  have E2 := Lib.hid (show decide (64 < dl R) = false by simp; omega)
  obtain ⟨w0, hw0⟩ : ∃ w0, w.alloc (.cells #[.slice none 0 0, .slice none 0 0, .slice none 0 0] 33) = w0 := ⟨_, rfl⟩
  have L0 := Lib.hid (show w.heap.size < w0.heap.size by rw [← hw0]; simp)
  rw [hw0] at B0 R0
  have HG := Lib.hid (h.bel B0.out)
  have HR := Lib.hid (B0.out.nm hr)
  have HK := Lib.hid (B0.out.nm hk)
  have LK := Lib.hid lk
  have n3 := lk.1
  have DK := Lib.hid (li_dr lk hk)
  have HX := Lib.hid hx
  clear h hr hk hx lk lr
  go_enter Tryz.func9, Tryz.ntmps9
  go_wp2_with fail
  refine (rlong10 HR.out).mono ?_
  rintro e w1 ⟨rfl, rfl⟩
  rw [E2.out]
  clear hw0
  go_wp2_with fail
  refine (of_nm8 HK.out (by omega)).mono ?_
  rintro e u1 ⟨D1, m1, d1, rfl, k1, b1⟩
  have C1 := Lib.hid (show B8 w0 u1 from b1)
  have K1 := Lib.hid k1
  have N1 := Lib.hid (show m1 ≤ 10000 by have h1 := k1.len_; have h2 := DK.out; omega)
  clear k1 b1
  go_wp2_with fail
  refine (is7_any (HG.out.bel C1.out).toRg7 LK.out K1.out N1.out false ⟨fun e => (by cases e), fun e => absurd e HX.out⟩).mono ?_
  rintro e u2 ⟨rfl, b2⟩
  have C2 := Lib.hid (C1.out.trans (show B8 u1 u2 from b2))
  have ROW := Lib.hid ((C2.out.row L0.out).trans R0.out)
  clear b2
  have y0 : u2.cell? ⟨w.heap.size, 0, none⟩ = some (.slice none 0 0) := cell_of_row u2 _ 0 _ _ _ ROW.out
  have y1 : u2.cell? ⟨w.heap.size, 1, none⟩ = some (.slice none 0 0) := cell_of_row u2 _ 1 _ _ _ ROW.out
  have y2 : u2.cell? ⟨w.heap.size, 2, none⟩ = some (.slice none 0 0) := cell_of_row u2 _ 2 _ _ _ ROW.out
  have z0 := frozen_of_row u2 _ 0 _ _ ROW.out
  have z1 := frozen_of_row u2 _ 1 _ _ ROW.out
  have z2 := frozen_of_row u2 _ 2 _ _ ROW.out
  go_wp2_with fail
  refine bodyPost_ret (v := .tuple #[.agg #[.slice none 0 0, .slice none 0 0, .slice none 0 0], .int .i64 8]) (results_pf Tryz.results9 _ _ _ w.heap.size _ rfl (load_lt (three_rowL ROW.out)) rfl) rfl ?_
  exact ⟨rfl, (B0.out.trans C2.out).set3 (Nat.le_refl _) _ _ _⟩
set_option maxHeartbeats 8000000 in
set_option maxRecDepth 100000 in
theorem rclose_ok (h : Rg8 w b k r) (hk : Nm w Ak nk ck K) (lk : Li nk K) (hx : El r.P r.Q K) (hb : Bz w Ab nb' bs) (hn : nb' ≤ 10000) (hr : Nm w Ar nr cr R) (lr : dl R ≤ 64) (nr3 : nr ≤ 300) :
    Calls Tryz.prog 9 #[.pointer (some ⟨b, 0, none⟩), .slice Ak nk ck, .slice Ab nb' cb, .slice Ar nr cr] w
      (LtrD (gx r.P r.Q r.G R) (slX r.P (gx r.P r.Q K R) (gx r.P r.Q r.G R) bs) (slG r.P (gx r.P r.Q K R) (gx r.P r.Q r.G R) (slX r.P (gx r.P r.Q K R) (gx r.P r.Q r.G R) bs)) nb' w) := by
  obtain ⟨E, hE⟩ : ∃ E, gx r.P r.Q K R = E := ⟨_, rfl⟩
  obtain ⟨Y, hY⟩ : ∃ Y, gx r.P r.Q r.G R = Y := ⟨_, rfl⟩
  have HE := Lib.hid hE
  have HY := Lib.hid hY
  rw [hE, hY]
  have P0 := Lib.hid h.p0
  have Q0 := Lib.hid h.q0
  have B0 := Lib.hid (B8.alloc w (.cells #[.slice none 0 0, .slice none 0 0, .slice none 0 0] 33))
  have R0 := Lib.hid (heap_alloc_new w (.cells #[.slice none 0 0, .slice none 0 0, .slice none 0 0] 33))
  have e1 : decide ((1048576 : Int) < (nb' : Int)) = false := by simp; omega
  have E2 := Lib.hid (show decide (64 < dl R) = false by simp; omega)
  obtain ⟨w0, hw0⟩ : ∃ w0, w.alloc (.cells #[.slice none 0 0, .slice none 0 0, .slice none 0 0] 33) = w0 := ⟨_, rfl⟩
  have L0 := Lib.hid (show w.heap.size < w0.heap.size by rw [← hw0]; simp)
  rw [hw0] at B0 R0
  have HG := Lib.hid (h.bel B0.out)
  have HR := Lib.hid (B0.out.nm hr)
  have HK := Lib.hid (B0.out.nm hk)
  have HB := Lib.hid (B0.out.bz hb)
  have LK := Lib.hid lk
  have n3 := lk.1
  have DR := Lib.hid (show dr R ≤ 256 from dr_nm hr.pos lr)
  have HX := Lib.hid hx
  clear h hr hk hb hx lk lr hE hY
  go_enter Tryz.func9, Tryz.ntmps9
  go_wp2_with fail
  refine (rlong10 HR.out).mono ?_
  rintro e w1 ⟨rfl, rfl⟩
  rw [E2.out]
  clear hw0
  go_wp2_with fail
  refine (of_nm8 HK.out (by omega)).mono ?_
  rintro e u1 ⟨D1, m1, d1, rfl, k1, b1⟩
  have C1 := Lib.hid (show B8 w0 u1 from b1)
  have K1 := Lib.hid k1
  have N1 := Lib.hid (HG.out.toRg.n3 HG.out.lp k1 HX.out.2.1)
  clear k1 b1
  go_wp2_with fail
  refine (is7_any (HG.out.bel C1.out).toRg7 LK.out K1.out (Nat.le_trans N1.out (by decide)) true ⟨fun _ => HX.out, fun _ => rfl⟩).mono ?_
  rintro e u2 ⟨rfl, b2⟩
  have D2 := Lib.hid (show B8 u1 u2 from b2)
  have C2 := Lib.hid (C1.out.trans D2.out)
  have K1b := Lib.hid (rn_bel K1.out D2.out)
  clear b2
  go_wp2_with fail
  refine (of_nm8 (C2.out.nm HR.out) (by omega)).mono ?_
  rintro e u3 ⟨D3, m3, d3, rfl, k3, b3⟩
  have B3 := Lib.hid (show B8 u2 u3 from b3)
  have C3 := Lib.hid (C2.out.trans B3.out)
  have K3 := Lib.hid k3
  have N3 := Lib.hid (show m3 ≤ 256 by have h1 := k3.len_; have h2 := DR.out; omega)
  have v2 := (C3.out.cell (o := 2) HG.out.toRg.lt).trans HG.out.toRg.c2
  clear k3 b3
  go_wp2_with fail
  refine (rgx_any (HG.out.bel C3.out).toRg HG.out.lp HG.out.lq P0.out Q0.out (HG.out.bel C3.out).toRg.g K3.out (HG.out.toRg.n3 HG.out.lp HG.out.toRg.g HG.out.gP) (by have := N3.out; omega)).mono ?_
  rintro e u4 ⟨D4, m4, d4, rfl, k4, b4⟩
  rw [HY.out] at k4
  have B4 := Lib.hid (show B8 u3 u4 from b4)
  have C4 := Lib.hid (C3.out.trans B4.out)
  have K4 := Lib.hid k4
  have N4 := Lib.hid (HG.out.toRg.n3 HG.out.lp k4 (by rw [← HY.out]; exact gx_ltP P0.out))
  have K3b := Lib.hid (rn_bel K3.out B4.out)
  have K1c := Lib.hid (rn_bel K1b.out (B3.out.trans B4.out))
  clear k4 b4 v2
  go_wp2_with fail
  refine (rgx_any (HG.out.bel C4.out).toRg HG.out.lp HG.out.lq P0.out Q0.out K1c.out K3b.out N1.out (by have := N3.out; omega)).mono ?_
  rintro e u5 ⟨D5, m5, d5, rfl, k5, b5⟩
  rw [HE.out] at k5
  have B5 := Lib.hid (show B8 u4 u5 from b5)
  have C5 := Lib.hid (C4.out.trans B5.out)
  have K5 := Lib.hid k5
  have N5 := Lib.hid (HG.out.toRg.n3 HG.out.lp k5 (by rw [← HE.out]; exact gx_ltP P0.out))
  have K4b := Lib.hid (rn_bel K4.out B5.out)
  clear k5 b5
  go_wp2_with fail
  refine (rhide_any (HG.out.bel C5.out).toRg HG.out.lp HG.out.nbP K5.out (Nat.le_trans N5.out (by decide)) K4b.out (Nat.le_trans N4.out (by decide)) (C5.out.bz HB.out) hn false).mono ?_
  rintro e u6 ⟨A6, c6, A7, c7, rfl, x6, t6, b6⟩
  rw [if_neg (show ¬ (false = true) by decide)] at t6
  have C6 := Lib.hid (C5.out.trans b6)
  have X6 := Lib.hid x6
  have T6 := Lib.hid t6
  have K4c := Lib.hid (rn_bel K4b.out b6)
  clear x6 t6 b6
  go_wp2_with fail
  refine (to_new8 K4c.out (Nat.le_trans N4.out (by decide))).mono ?_
  rintro e u7 ⟨A8, m8, c8, rfl, k8, nw8, b8⟩
  have C7 := Lib.hid (C6.out.trans b8)
  have K8 := Lib.hid k8
  have X7 := Lib.hid (b8.bz X6.out)
  have T7 := Lib.hid (b8.bz T6.out)
  have L6 := Lib.hid (show w.heap.size < u6.heap.size by have := C6.out.sz; have := L0.out; omega)
  have N8 := Lib.hid (show ∀ a, A8 = some a → w.heap.size < a.block from fun a ha => by have := nw8 a ha; have := L6.out; omega)
  have ROW := Lib.hid ((C7.out.row L0.out).trans R0.out)
  clear k8 nw8 b8
  have y0 : u7.cell? ⟨w.heap.size, 0, none⟩ = some (.slice none 0 0) := cell_of_row u7 _ 0 _ _ _ ROW.out
  have y1 : u7.cell? ⟨w.heap.size, 1, none⟩ = some (.slice none 0 0) := cell_of_row u7 _ 1 _ _ _ ROW.out
  have y2 : u7.cell? ⟨w.heap.size, 2, none⟩ = some (.slice none 0 0) := cell_of_row u7 _ 2 _ _ _ ROW.out
  have z0 := frozen_of_row u7 _ 0 _ _ ROW.out
  have z1 := frozen_of_row u7 _ 1 _ _ ROW.out
  have z2 := frozen_of_row u7 _ 2 _ _ ROW.out
  go_wp2_with fail
  refine bodyPost_ret (v := .tuple #[.agg #[.slice A8 m8 c8, .slice A6 nb' c6, .slice A7 32 c7], .int .i64 0]) (results_pf Tryz.results9 _ _ _ w.heap.size _ rfl (load_lt (three_rowL ROW.out)) rfl) rfl ?_
  exact ⟨A8, m8, c8, A6, c6, A7, c7, rfl, K8.out.set3 (fun a ha _ => by have := N8.out a ha; omega) _ _ _, X7.out.set3 (X7.out.apart ROW.out) _ _ _, T7.out.set3 (T7.out.apart ROW.out) _ _ _, (B0.out.trans C7.out).set3 (Nat.le_refl _) _ _ _⟩
end
end Go.Proofs.YtjalncdllegfoaaGreatDoor
/-
  The document's layer 10: what Open answers.
-/
namespace Go.Proofs.YtjalncdllegfoaaGreatDoor
open Go.RowKit
set_option linter.unusedVariables false
/-- No bytes, and why. -/
def OpnN (code : Int) (w : World) (e : Ending) (w' : World) : Prop := e = .returned (.tuple #[.slice none 0 0, .int .i64 code]) ∧ B8 w w'
/-- What the document's Open answers to a letter that is one. -/
def OpnD (P E R : Int) (bs ts : List Int) (n : Nat) (w : World) (e : Ending) (w' : World) : Prop :=
  (ts = slG P E R bs ∧ ∃ A c, e = .returned (.tuple #[.slice A n c, .int .i64 0]) ∧ Bz w' A n (slX P E R bs) ∧ B8 w w') ∨ (ts ≠ slG P E R bs ∧ OpnN 15 w e w')
section
variable {w : World} {b k : Nat} {r : Rgd} {As Al Ab At : Option Addr} {ns cs nl cl nb' cb nt ct : Nat} {S R : Int} {bs ts : List Int}
set_option maxHeartbeats 4000000 in
set_option maxRecDepth 100000 in
theorem ropen_many (x : Value) (hn : 1048576 < nb') : Calls Tryz.prog 13 #[x, .slice As ns cs, .agg #[.slice Al nl cl, .slice Ab nb' cb, .slice At nt ct]] w (OpnN 1 w) := by
  have B0 := Lib.hid (B8.alloc w (.cells #[.slice Al nl cl, .slice Ab nb' cb, .slice At nt ct] 33))
  have px := three_box w (.slice Al nl cl) (.slice Ab nb' cb) (.slice At nt ct) 33
  have e1 : decide ((1048576 : Int) < (nb' : Int)) = true := by simp; omega
  obtain ⟨w0, hw0⟩ : ∃ w0, w.alloc (.cells #[.slice Al nl cl, .slice Ab nb' cb, .slice At nt ct] 33) = w0 := ⟨_, rfl⟩
  rw [hw0] at B0 px
  have x1 := px.2.1
  clear px
  go_enter Tryz.func13, Tryz.ntmps13
  go_wp2_with fail
  go_ret2
  exact ⟨rfl, B0.out⟩
set_option maxHeartbeats 4000000 in
set_option maxRecDepth 100000 in
theorem ropen_long (x : Value) (hn : nb' ≤ 1048576) (hs : Nm w As ns cs S) (ls : 64 < dl S) : Calls Tryz.prog 13 #[x, .slice As ns cs, .agg #[.slice Al nl cl, .slice Ab nb' cb, .slice At nt ct]] w (OpnN 2 w) := by
  have B0 := Lib.hid (B8.alloc w (.cells #[.slice Al nl cl, .slice Ab nb' cb, .slice At nt ct] 33))
  have px := three_box w (.slice Al nl cl) (.slice Ab nb' cb) (.slice At nt ct) 33
  have e1 : decide ((1048576 : Int) < (nb' : Int)) = false := by simp; omega
  have E2 := Lib.hid (show decide (64 < dl S) = true by simp; omega)
  obtain ⟨w0, hw0⟩ : ∃ w0, w.alloc (.cells #[.slice Al nl cl, .slice Ab nb' cb, .slice At nt ct] 33) = w0 := ⟨_, rfl⟩
  rw [hw0] at B0 px
  have x1 := px.2.1
  have HS := Lib.hid (B0.out.nm hs)
  clear px hs ls
  go_enter Tryz.func13, Tryz.ntmps13
  go_wp2_with fail
  refine (rlong10 HS.out).mono ?_
  rintro e w1 ⟨rfl, rfl⟩
  rw [E2.out]
  go_wp2_with fail
  go_ret2
  exact ⟨rfl, B0.out⟩
set_option maxHeartbeats 4000000 in
set_option maxRecDepth 100000 in
theorem ropen_no (h : Rg8 w b k r) (hn : nb' ≤ 1048576) (hs : Nm w As ns cs S) (ls : dl S ≤ 64) (hl : Nm w Al nl cl R) (ll : Li nl R) (hx : ¬ El r.P r.Q R) : Calls Tryz.prog 13 #[.pointer (some ⟨b, 0, none⟩), .slice As ns cs, .agg #[.slice Al nl cl, .slice Ab nb' cb, .slice At nt ct]] w (OpnN 8 w) := by
  have B0 := Lib.hid (B8.alloc w (.cells #[.slice Al nl cl, .slice Ab nb' cb, .slice At nt ct] 33))
  have px := three_box w (.slice Al nl cl) (.slice Ab nb' cb) (.slice At nt ct) 33
  have e1 : decide ((1048576 : Int) < (nb' : Int)) = false := by simp; omega
  have E2 := Lib.hid (show decide (64 < dl S) = false by simp; omega)
  obtain ⟨w0, hw0⟩ : ∃ w0, w.alloc (.cells #[.slice Al nl cl, .slice Ab nb' cb, .slice At nt ct] 33) = w0 := ⟨_, rfl⟩
  rw [hw0] at B0 px
  have x0 := px.1
  have x1 := px.2.1
  have HG := Lib.hid (h.bel B0.out)
  have HS := Lib.hid (B0.out.nm hs)
  have HL := Lib.hid (B0.out.nm hl)
  have LL := Lib.hid ll
  have n3 := ll.1
  have DL := Lib.hid (li_dr ll hl)
  have HX := Lib.hid hx
  clear px h hs ls hl ll hx
  go_enter Tryz.func13, Tryz.ntmps13
  go_wp2_with fail
  refine (rlong10 HS.out).mono ?_
  rintro e w1 ⟨rfl, rfl⟩
  rw [E2.out]
  go_wp2_with fail
  refine (of_nm8 HL.out (by omega)).mono ?_
  rintro e u1 ⟨D1, m1, d1, rfl, k1, b1⟩
  have C1 := Lib.hid (show B8 w0 u1 from b1)
  have K1 := Lib.hid k1
  have N1 := Lib.hid (show m1 ≤ 10000 by have h1 := k1.len_; have h2 := DL.out; omega)
  clear k1 b1 hw0 x0 x1
  go_wp2_with fail
  refine (is7_any (HG.out.bel C1.out).toRg7 LL.out K1.out N1.out false ⟨fun e => (by cases e), fun e => absurd e HX.out⟩).mono ?_
  rintro e u2 ⟨rfl, b2⟩
  have C2 := Lib.hid (C1.out.trans (show B8 u1 u2 from b2))
  clear b2
  go_wp2_with fail
  go_ret2
  exact ⟨rfl, B0.out.trans C2.out⟩
set_option maxHeartbeats 8000000 in
set_option maxRecDepth 100000 in
theorem ropen_ok (h : Rg8 w b k r) (hn : nb' ≤ 10000) (hs : Nm w As ns cs S) (ls : dl S ≤ 64) (ns3 : ns ≤ 300) (hl : Nm w Al nl cl R) (ll : Li nl R) (hx : El r.P r.Q R) (hb : Bz w Ab nb' bs) (ht : Bz w At nt ts) :
    Calls Tryz.prog 13 #[.pointer (some ⟨b, 0, none⟩), .slice As ns cs, .agg #[.slice Al nl cl, .slice Ab nb' cb, .slice At nt ct]] w (OpnD r.P (gx r.P r.Q R S) R bs ts nb' w) := by
  obtain ⟨E, hE⟩ : ∃ E, gx r.P r.Q R S = E := ⟨_, rfl⟩
  obtain ⟨X, hX⟩ : ∃ X, slX r.P E R bs = X := ⟨_, rfl⟩
  obtain ⟨T, hTT⟩ : ∃ T, slG r.P E R bs = T := ⟨_, rfl⟩
  have HE := Lib.hid hE
  have HXX := Lib.hid hX
  have HTT := Lib.hid hTT
  have TD := Lib.hid (show Dig 256 T by rw [← hTT]; exact slG_dig _ _ _ _)
  rw [hE]
  have GG := Lib.hid (fun e w' => show OpnD r.P E R bs ts nb' w e w' ↔ ((ts = T ∧ ∃ A c, e = .returned (.tuple #[.slice A nb' c, .int .i64 0]) ∧ Bz w' A nb' X ∧ B8 w w') ∨ (ts ≠ T ∧ OpnN 15 w e w')) by unfold OpnD; rw [hX, hTT])
  have P0 := Lib.hid h.p0
  have Q0 := Lib.hid h.q0
  have B0 := Lib.hid (B8.alloc w (.cells #[.slice Al nl cl, .slice Ab nb' cb, .slice At nt ct] 33))
  have px := three_box w (.slice Al nl cl) (.slice Ab nb' cb) (.slice At nt ct) 33
  have e1 : decide ((1048576 : Int) < (nb' : Int)) = false := by simp; omega
  have E2 := Lib.hid (show decide (64 < dl S) = false by simp; omega)
  obtain ⟨w0, hw0⟩ : ∃ w0, w.alloc (.cells #[.slice Al nl cl, .slice Ab nb' cb, .slice At nt ct] 33) = w0 := ⟨_, rfl⟩
  have L0 := Lib.hid (show w.heap.size < w0.heap.size by rw [← hw0]; simp)
  rw [hw0] at B0 px
  have x0 := px.1
  have x1 := px.2.1
  have PX := Lib.hid px
  have HG := Lib.hid (h.bel B0.out)
  have HS := Lib.hid (B0.out.nm hs)
  have HL := Lib.hid (B0.out.nm hl)
  have HB := Lib.hid (B0.out.bz hb)
  have HTs := Lib.hid (B0.out.bz ht)
  have LL := Lib.hid ll
  have n3 := ll.1
  have DS := Lib.hid (show dr S ≤ 256 from dr_nm hs.pos ls)
  have HX := Lib.hid hx
  clear px h hs ls hl ll hx hb ht hE hX hTT
  go_enter Tryz.func13, Tryz.ntmps13
  go_wp2_with fail
  refine (rlong10 HS.out).mono ?_
  rintro e w1 ⟨rfl, rfl⟩
  rw [E2.out]
  go_wp2_with fail
  refine (of_nm8 HL.out (by omega)).mono ?_
  rintro e u1 ⟨D1, m1, d1, rfl, k1, b1⟩
  have C1 := Lib.hid (show B8 w0 u1 from b1)
  have K1 := Lib.hid k1
  have N1 := Lib.hid (HG.out.toRg.n3 HG.out.lp k1 HX.out.2.1)
  clear k1 b1 hw0 x0 x1
  go_wp2_with fail
  refine (is7_any (HG.out.bel C1.out).toRg7 LL.out K1.out (Nat.le_trans N1.out (by decide)) true ⟨fun _ => HX.out, fun _ => rfl⟩).mono ?_
  rintro e u2 ⟨rfl, b2⟩
  have D2 := Lib.hid (show B8 u1 u2 from b2)
  have C2 := Lib.hid (C1.out.trans D2.out)
  have K1b := Lib.hid (rn_bel K1.out D2.out)
  clear b2
  go_wp2_with fail
  have bd := B8.drew u2
  have Cd := Lib.hid (C2.out.trans bd)
  have Kd := Lib.hid (rn_bel K1b.out bd)
  have kA := (C2.out.cell (o := 1) L0.out).trans PX.out.2.1
  clear bd
  go_region_held (fun w' => w'.cell? ⟨w.heap.size, 1, none⟩ = some (.slice Ab nb' cb)) (first | exact kA | exact kB | exact kC | exact kD | go_keep | assumption)
    (first
      | (go_at_call 25; (with_reducible refine (of_nm8 (Cd.out.nm HS.out) (by omega)).mono ?_); rintro e u3 ⟨D3, m3, d3, rfl, k3, b3⟩; have B3 := Lib.hid (show B8 _ u3 from b3); have C3 := Lib.hid (Cd.out.trans B3.out); have K3 := Lib.hid k3; have N3 := Lib.hid (show m3 ≤ 256 by have h1 := k3.len_; have h2 := DS.out; omega); have kB := (C3.out.cell (o := 1) L0.out).trans PX.out.2.1; clear k3 b3)
      | (go_at_call 27; (with_reducible refine (rgx_any (HG.out.bel C3.out).toRg HG.out.lp HG.out.lq P0.out Q0.out (rn_bel Kd.out B3.out) K3.out N1.out (by have := N3.out; omega)).mono ?_); rintro e u4 ⟨D4, m4, d4, rfl, k4, b4⟩; rw [HE.out] at k4; have B4 := Lib.hid (show B8 _ u4 from b4); have C4 := Lib.hid (C3.out.trans B4.out); have K4 := Lib.hid k4; have N4 := Lib.hid (HG.out.toRg.n3 HG.out.lp k4 (by rw [← HE.out]; exact gx_ltP P0.out)); have kC := (C4.out.cell (o := 1) L0.out).trans PX.out.2.1; clear k4 b4)
      | (go_at_call 28; (with_reducible refine (rhide_any (HG.out.bel C4.out).toRg HG.out.lp HG.out.nbP K4.out (Nat.le_trans N4.out (by decide)) (rn_bel Kd.out (B3.out.trans B4.out)) (Nat.le_trans N1.out (by decide)) (C4.out.bz HB.out) hn true).mono ?_); rintro e u5 ⟨A6, c6, A7, c7, rfl, x6, t6, b6⟩; rw [HXX.out] at x6; rw [if_pos rfl, HTT.out] at t6; have C5 := Lib.hid (C4.out.trans b6); have X6 := Lib.hid x6; have T6 := Lib.hid t6; have kD := (C5.out.cell (o := 1) L0.out).trans PX.out.2.1; clear x6 t6 b6))
  all_goals
    have cA := conv_any (c := c7) T6.out.rd
    have cB := conv_any (c := ct) (C5.out.bz HTs.out).rd
    have y2 := (C5.out.cell (o := 2) L0.out).trans PX.out.2.2
    by_cases ht : ts = T
    · have sn := str_eql (strOfNums T)
      have HT := Lib.hid ht
      rw [ht] at cB
      clear ht kA
      go_wp2_with fail
      go_ret2
      exact (GG.out _ _).2 (.inl ⟨HT.out, A6, c6, rfl, X6.out, B0.out.trans C5.out⟩)
    · have sn : ((strOfNums T).toList == (strOfNums ts).toList) = false := by
        rw [beq_eq_false_iff_ne]
        exact fun q => ht (str_inj TD.out HTs.out.dig_ q).symm
      have HT := Lib.hid ht
      clear ht kA
      go_wp2_with fail
      go_ret2
      exact (GG.out _ _).2 (.inr ⟨HT.out, rfl, B0.out.trans C5.out⟩)
end
end Go.Proofs.YtjalncdllegfoaaGreatDoor
/-
  The laws' helpers of layer 10: two letters that are alike; answers of Close and Open in one form.
-/
namespace Go.Proofs.YtjalncdllegfoaaGreatDoor
open Go.RowKit
set_option linter.unusedVariables false
set_option maxHeartbeats 4000000 in
set_option maxRecDepth 100000 in
theorem same10_any {w : World} {A A' Ab Ab' At At' : Option Addr} {n c n' c' nb' cb nb2 cb2 nt ct nt2 ct2 : Nat} {N : Int} {B T : List Int} (h : Cn w A n c N) (h' : Cn w A' n' c' N) (hb : Bz w Ab nb' B) (hb' : Bz w Ab' nb2 B) (ht : Bz w At nt T) (ht' : Bz w At' nt2 T) :
    Calls Tryz.prog 10 #[.agg #[.slice A n c, .slice Ab nb' cb, .slice At nt ct], .agg #[.slice A' n' c', .slice Ab' nb2 cb2, .slice At' nt2 ct2]] w (AnsV (.bool true) w) := by
  have p1 := three_box w (.slice A n c) (.slice Ab nb' cb) (.slice At nt ct) 33
  have b1 := B8.alloc w (.cells #[.slice A n c, .slice Ab nb' cb, .slice At nt ct] 33)
  obtain ⟨w1, hw1⟩ : ∃ w1, w.alloc (.cells #[.slice A n c, .slice Ab nb' cb, .slice At nt ct] 33) = w1 := ⟨_, rfl⟩
  have s1 : w.heap.size < w1.heap.size := by rw [← hw1]; simp
  rw [hw1] at p1 b1
  have p2 := three_box w1 (.slice A' n' c') (.slice Ab' nb2 cb2) (.slice At' nt2 ct2) 33
  have b2 := B8.alloc w1 (.cells #[.slice A' n' c', .slice Ab' nb2 cb2, .slice At' nt2 ct2] 33)
  obtain ⟨w2, hw2⟩ : ∃ w2, w1.alloc (.cells #[.slice A' n' c', .slice Ab' nb2 cb2, .slice At' nt2 ct2] 33) = w2 := ⟨_, rfl⟩
  have s2 : w1.heap.size < w2.heap.size := by rw [← hw2]; simp
  rw [hw2] at p2 b2
  have B0 := Lib.hid (b1.trans b2)
  have P1 := Lib.hid (show w2.cell? ⟨w.heap.size, 0, none⟩ = some (.slice A n c) ∧ w2.cell? ⟨w.heap.size, 1, none⟩ = some (.slice Ab nb' cb) ∧ w2.cell? ⟨w.heap.size, 2, none⟩ = some (.slice At nt ct) from ⟨(b2.cell s1).trans p1.1, (b2.cell s1).trans p1.2.1, (b2.cell s1).trans p1.2.2⟩)
  have P2 := Lib.hid p2
  have S1 := Lib.hid (show w.heap.size < w2.heap.size by omega)
  have S2 := Lib.hid s2
  have x0 := P1.out.1
  have y0 := P2.out.1
  have H1 := Lib.hid (B0.out.cn h)
  have H2 := Lib.hid (B0.out.cn h')
  have HB1 := Lib.hid (B0.out.bz hb)
  have HB2 := Lib.hid (B0.out.bz hb')
  have HT1 := Lib.hid (B0.out.bz ht)
  have HT2 := Lib.hid (B0.out.bz ht')
  clear p1 b1 p2 b2 s1 s2 h h' hb hb' ht ht'
  go_enter Tryz.func10, Tryz.ntmps10
  go_wp2_with fail
  clear hw1 hw2
  refine (same8 H1.out H2.out rfl).mono ?_
  rintro e w3 ⟨rfl, q, rfl⟩
  have D := Lib.hid (B8.drewN w2 q)
  obtain ⟨w3, hw3⟩ : ∃ w3, w2.drewN q = w3 := ⟨_, rfl⟩
  rw [hw3] at D ⊢
  clear hw3 x0 y0
  have x1 := (D.out.cell (o := 1) S1.out).trans P1.out.2.1
  have x2 := (D.out.cell (o := 2) S1.out).trans P1.out.2.2
  have y1 := (D.out.cell (o := 1) S2.out).trans P2.out.2.1
  have y2 := (D.out.cell (o := 2) S2.out).trans P2.out.2.2
  have k1 := conv_any (c := cb) (D.out.bz HB1.out).rd
  have k2 := conv_any (c := cb2) (D.out.bz HB2.out).rd
  have k3 := conv_any (c := ct) (D.out.bz HT1.out).rd
  have k4 := conv_any (c := ct2) (D.out.bz HT2.out).rd
  have sB := str_eql (strOfNums B)
  have sT := str_eql (strOfNums T)
  go_wp2_with fail
  go_ret
  exact ⟨rfl, B0.out.trans D.out⟩
/-! ### Codes -/
open Classical in
/-- What is amiss first. -/
noncomputable def clC (n : Nat) (lg el : Prop) : Int := if 1048576 < n then 1 else if lg then 2 else if el then 0 else 8
theorem clC1 {n : Nat} {lg el : Prop} (h : 1048576 < n) : clC n lg el = 1 := if_pos h
theorem clC2 {n : Nat} {lg el : Prop} (h : ¬ 1048576 < n) (h2 : lg) : clC n lg el = 2 := by unfold clC; rw [if_neg h, if_pos h2]
theorem clC0 {n : Nat} {lg el : Prop} (h : ¬ 1048576 < n) (h2 : ¬ lg) (h3 : el) : clC n lg el = 0 := by unfold clC; rw [if_neg h, if_neg h2, if_pos h3]
theorem clC8 {n : Nat} {lg el : Prop} (h : ¬ 1048576 < n) (h2 : ¬ lg) (h3 : ¬ el) : clC n lg el = 8 := by unfold clC; rw [if_neg h, if_neg h2, if_neg h3]
def okI (code N : Int) : Int := if code = 0 then N else 0
def okB (code : Int) (B : List Int) : List Int := if code = 0 then B else []
/-- A letter as it is answered; none where something is amiss. -/
def LtIn (code R : Int) (B T : List Int) (v : Value) (w : World) : Prop :=
  ∃ A n c Ab nb' cb At nt ct, v = .agg #[.slice A n c, .slice Ab nb' cb, .slice At nt ct] ∧ Cn w A n c (okI code R) ∧ Bz w Ab nb' (okB code B) ∧ Bz w At nt (okB code T)
theorem LtIn.no {code R : Int} {B T : List Int} {w : World} (h : code ≠ 0) : LtIn code R B T (.agg #[.slice none 0 0, .slice none 0 0, .slice none 0 0]) w := by
  refine ⟨none, 0, 0, none, 0, 0, none, 0, 0, rfl, ?_, ?_, ?_⟩
  · unfold okI; rw [if_neg h]; exact Cn.nil w
  · unfold okB; rw [if_neg h]; exact bz_nil w
  · unfold okB; rw [if_neg h]; exact bz_nil w
theorem LtIn.b8 {code R : Int} {B T : List Int} {v : Value} {w w' : World} (hb : B8 w w') (h : LtIn code R B T v w) : LtIn code R B T v w' := by
  obtain ⟨A, n, c, Ab, nb', cb, At, nt, ct, rfl, h1, h2, h3⟩ := h
  exact ⟨A, n, c, Ab, nb', cb, At, nt, ct, rfl, hb.cn h1, hb.bz h2, hb.bz h3⟩
def ClV (code R : Int) (B T : List Int) (w : World) (e : Ending) (w' : World) : Prop := ∃ v ev, e = .returned (.tuple #[v, ev]) ∧ ErV ev code ∧ LtIn code R B T v w' ∧ B8 w w'
def ClD (code R : Int) (B T : List Int) (w : World) (e : Ending) (w' : World) : Prop := ∃ v, e = .returned (.tuple #[v, .int .i64 code]) ∧ LtIn code R B T v w' ∧ B8 w w'
theorem LtrE.v {code R : Int} {B T : List Int} {w w' : World} {e : Ending} (h : LtrE code w e w') (h1 : 1 ≤ code ∧ code ≤ 15) : ClV code R B T w e w' := by
  obtain ⟨rfl, hb⟩ := h
  exact ⟨_, _, rfl, .inr ⟨h1, rfl⟩, LtIn.no (by omega), hb⟩
theorem LtrA.v {R : Int} {B T : List Int} {n : Nat} {w w' : World} {e : Ending} (h : LtrA R B T n w e w') (hT : Dig 256 T) : ClV 0 R B T w e w' := by
  obtain ⟨A, n, c, Ab, cb, g, ct, rfl, h1, h2, h3, -, -, -, -, -, hb⟩ := h
  exact ⟨_, _, rfl, .inl ⟨rfl, rfl⟩, ⟨_, _, _, _, _, _, _, _, _, rfl, h1, h2, h3.bsL hT⟩, hb⟩
theorem LtrN.v {code R : Int} {B T : List Int} {w w' : World} {e : Ending} (h : LtrN code w e w') (h1 : code ≠ 0) : ClD code R B T w e w' := by
  obtain ⟨rfl, hb⟩ := h
  exact ⟨_, rfl, LtIn.no h1, hb⟩
theorem LtrD.v {R : Int} {B T : List Int} {n : Nat} {w w' : World} {e : Ending} (h : LtrD R B T n w e w') : ClD 0 R B T w e w' := by
  obtain ⟨A, n, c, Ab, cb, At, ct, rfl, h1, h2, h3, hb⟩ := h
  exact ⟨_, rfl, ⟨_, _, _, _, _, _, _, _, _, rfl, h1, h2, h3⟩, hb⟩
/-- Bytes and an error; none where something is amiss. -/
def OpV (code : Int) (B : List Int) (w : World) (e : Ending) (w' : World) : Prop := ∃ A n c ev, e = .returned (.tuple #[.slice A n c, ev]) ∧ ErV ev code ∧ Bz w' A n (okB code B) ∧ B8 w w'
def OpD (code : Int) (B : List Int) (w : World) (e : Ending) (w' : World) : Prop := ∃ A n c, e = .returned (.tuple #[.slice A n c, .int .i64 code]) ∧ Bz w' A n (okB code B) ∧ B8 w w'
theorem Err1.v10 {code : Int} {B : List Int} {w w' : World} {e : Ending} (h : Err1 code w e w') (h1 : 1 ≤ code ∧ code ≤ 15) : OpV code B w e w' := by
  obtain ⟨rfl, hb⟩ := h
  exact ⟨_, _, _, _, rfl, .inr ⟨h1, rfl⟩, by unfold okB; rw [if_neg (by omega)]; exact bz_nil w', hb⟩
theorem XoP.v {B : List Int} {n : Nat} {w w' : World} {e : Ending} (h : XoP B n w e w') (hd : Dig 256 B) : OpV 0 B w e w' := by
  obtain ⟨A, c, rfl, h1, hb⟩ := h
  exact ⟨_, _, _, _, rfl, .inl ⟨rfl, rfl⟩, h1.bsL hd, hb⟩
theorem OpnN.v {code : Int} {B : List Int} {w w' : World} {e : Ending} (h : OpnN code w e w') (h1 : code ≠ 0) : OpD code B w e w' := by
  obtain ⟨rfl, hb⟩ := h
  exact ⟨_, _, _, rfl, by unfold okB; rw [if_neg h1]; exact bz_nil w', hb⟩
section
variable {w : World} {b k : Nat} {d : Gd} {r : Rgd} {As Ak Al Ab Ar At : Option Addr} {ns cs nk ck nl cl nb' cb nr cr nt ct : Nat} {K R S : Int} {bs ts : List Int}
theorem close_v (h : Gr w b d) (hT : Tabs w) (hk : Nm w Ak nk ck K) (hb : Bz w Ab nb' bs) (hr : Nm w Ar nr cr R) :
    Calls Tryz.prog 8 #[.pointer (some ⟨b, 0, none⟩), .slice Ak nk ck, .slice Ab nb' cb, .slice Ar nr cr] w (ClV (clC nb' (64 < dl R) (El d.P d.Q K)) (gx d.P d.Q d.G R) (slX d.P (gx d.P d.Q K R) (gx d.P d.Q d.G R) bs) (slG d.P (gx d.P d.Q K R) (gx d.P d.Q d.G R) (slX d.P (gx d.P d.Q K R) (gx d.P d.Q d.G R) bs)) w) := by
  by_cases h1 : 1048576 < nb'
  · rw [clC1 h1]; exact (close_many h1).mono fun _ _ hh => hh.v (by decide)
  by_cases h2 : 64 < dl R
  · rw [clC2 h1 h2]; exact (close_long h (by omega) hr h2).mono fun _ _ hh => hh.v (by decide)
  by_cases h3 : El d.P d.Q K
  · rw [clC0 h1 h2 h3]; exact (close_ok h hT hk h3 hb (by omega) hr (by omega)).mono fun _ _ hh => hh.v (slG_dig _ _ _ _)
  · rw [clC8 h1 h2 h3]; exact (close_no h (by omega) hk h3 hr (by omega)).mono fun _ _ hh => hh.v (by decide)
theorem rclose_v (h : Rg8 w b k r) (hk : Nm w Ak nk ck K) (lk : Li nk K) (hb : Bz w Ab nb' bs) (hn : nb' ≤ 10000 ∨ 1048576 < nb') (hr : Nm w Ar nr cr R) (lr : Li nr R) :
    Calls Tryz.prog 9 #[.pointer (some ⟨b, 0, none⟩), .slice Ak nk ck, .slice Ab nb' cb, .slice Ar nr cr] w (ClD (clC nb' (64 < dl R) (El r.P r.Q K)) (gx r.P r.Q r.G R) (slX r.P (gx r.P r.Q K R) (gx r.P r.Q r.G R) bs) (slG r.P (gx r.P r.Q K R) (gx r.P r.Q r.G R) (slX r.P (gx r.P r.Q K R) (gx r.P r.Q r.G R) bs)) w) := by
  by_cases h1 : 1048576 < nb'
  · rw [clC1 h1]; exact (rclose_many _ h1).mono fun _ _ hh => hh.v (by decide)
  by_cases h2 : 64 < dl R
  · rw [clC2 h1 h2]; exact (rclose_long _ (by omega) hr h2).mono fun _ _ hh => hh.v (by decide)
  by_cases h3 : El r.P r.Q K
  · rw [clC0 h1 h2 h3]; exact (rclose_ok h hk lk h3 hb (by omega) hr (by omega) lr.1).mono fun _ _ hh => hh.v
  · rw [clC8 h1 h2 h3]; exact (rclose_no h (by omega) hk lk h3 hr (by omega)).mono fun _ _ hh => hh.v (by decide)
end
end Go.Proofs.YtjalncdllegfoaaGreatDoor
