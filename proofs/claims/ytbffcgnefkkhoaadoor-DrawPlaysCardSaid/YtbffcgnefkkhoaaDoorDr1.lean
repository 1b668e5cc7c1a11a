/-
  The document's row of draws: what Bytes answers.
-/
import Derived.Test.YtbffcgnefkkhoaaDoorDr0
import Derived.Deep.RegionHeld
import Derived.Deep.DrawnRows
namespace Go.Proofs.YtbffcgnefkkhoaaDoor
open Go.RowKit
set_option linter.unusedVariables false
theorem bz_draw (w : World) : Bz (w.alloc (.cells #[.int .u8 100, .int .u8 114, .int .u8 97, .int .u8 119] 5 (4, 5))) (some ⟨w.heap.size, 0, none⟩) 4 drwB :=
  Bs.bz (c := 4) (bs_lit w drwB (4, 5) (n := 4) rfl rfl drwB_dig (by omega))
theorem Rd.bw_ {kd : IntKind} {w w' : World} {A : Option Addr} {n : Nat} {xs : List Int} (h : Rd kd w A n xs) (hb : Bw w w') : Rd kd w' A n xs := h.below hb
theorem Bz.bw_ {w w' : World} {A : Option Addr} {n : Nat} {xs : List Int} (h : Bz w A n xs) (hb : Bw w w') : Bz w' A n xs := h.below hb
theorem rstream_b {W : World} {AK AH : Option Addr} {cK cH : Nat} {A : Option Addr} {c n : Nat} {key R : List Int} (hR : stream key n = R) (hK : Rd .u32 W AK 64 KT) (hH : Rd .u32 W AH 8 H0.l) (hk : Bs W A 32 c key) (hn : n ≤ 10000) :
    Calls Tryd.prog 36 #[.agg #[.slice AK 64 cK, .slice AH 8 cH], .slice A 32 c, .int .i64 n] W fun e w' => ∃ A1 c1, e = .returned (.slice A1 n c1) ∧ Bs w' A1 n c1 R ∧ Bw W w' := by
  subst hR; exact rstream_any hK hH hk (by decide) n hn
theorem rparts_b3d {W : World} {AK AH : Option Addr} {cK cH : Nat} {A1 A2 A3 : Option Addr} {n2 c1 c2 c3 : Nat} {seed R : List Int} {k : Nat} (hR : drk seed k = R) (hK : Rd .u32 W AK 64 KT) (hH : Rd .u32 W AH 8 H0.l) (h1 : Bz W A1 4 drwB) (h2 : Bz W A2 n2 seed) (h3 : Bz W A3 8 (be8 (k : Int))) (hn2 : n2 ≤ 1000) {g : Nat} (hg : W.heap.size = g) :
    Calls Tryd.prog 37 #[.agg #[.slice AK 64 cK, .slice AH 8 cH], .slice (some ⟨g, 0, none⟩) 3 3] (W.alloc (.cells #[.slice A1 4 c1, .slice A2 n2 c2, .slice A3 8 c3] 22)).drew (AnsBy R 32 W) := by
  have h := rparts_b3 (W := W.drew) (cK := cK) (cH := cH) (c1 := c1) (c2 := c2) (c3 := c3) hR hK.drew hH.drew ⟨h1.rd.drew, h1.dig_⟩ ⟨h2.rd.drew, h2.dig_⟩ ⟨h3.rd.drew, h3.dig_⟩ hn2 hg
  exact h.mono fun e W' ⟨A, c, e1, e2, e3, e4⟩ => ⟨A, c, e1, e2, e3, (Bw.drew W).trans e4⟩
set_option maxHeartbeats 8000000 in
set_option maxRecDepth 100000 in
theorem r6bytes_any {w : World} {lo hi b k : Nat} {d : DrD} {seed : List Int} (h : Dr w lo hi b d seed k) (hs : d.nS ≤ 1000) (hk : k ≤ 1000000000) (n : Nat) (hn : n ≤ 10000) :
    Calls Tryd.prog 22 #[.pointer (some ⟨b, 0, none⟩), .int .i64 n] w fun e w' => ∃ A c, e = .returned (.slice A n c) ∧ Bs w' A n c (drw seed k n) ∧ Dr w' lo hi b d seed (k + 1) ∧ Bx b w w' := by
  have hmk := fun W => run_make8 8 (C := 8) rfl (by omega) W
  obtain ⟨Z, hZ⟩ : ∃ Z : List Int, Z = List.replicate 8 0 := ⟨_, rfl⟩
  rw [← hZ] at hmk
  have HZ := Lib.hid hZ
  have HD := Lib.hid h
  have hbl := h.lt
  have hc1 : w.cell? ⟨b, 1, none⟩ = some (.int .i64 (k : Int)) := h.cell rfl
  clear hZ h
  go_enter Tryd.func22, Tryd.ntmps22
  go_wp2_with fail
  clear hmk
  go_loopw [6, 7] (fun n i wr => NuR (k : Int) .i64 w n i wr) (fun _ i _ => (intOf i + 1).toNat)
  case atStart =>
    exact ⟨8, 7, Z, by omega, rfl, rfl, by simp, Row.new _ _ _ _, by rw [HZ.out]; simp, fun j h h' => by omega, (Below.refl _ _).alloc (Nat.le_refl _) _⟩
  case round =>
    clear hc1
    obtain ⟨p, v, zs, hp, rfl, hv, rfl, hrow, hzl, hz, hb⟩ := hrel
    have HZE := Lib.hid hz
    have HZL := Lib.hid hzl
    clear hz
    rcases Nat.eq_zero_or_pos p with g | g
    · have hv1 : decide (0 ≤ v) = false := by simp; omega
      have hv2 : v < 0 := by omega
      have hbe : zs = be8 (k : Int) := ext_dig (by rw [HZL.out, be8_len]) (fun j hj => by rw [HZL.out] at hj; rw [HZE.out j (by omega) hj, be8_dig_at hj])
      have hrow' : Row wr w.heap.size 5 .u8 (be8 (k : Int)) := by rw [← hbe]; exact hrow
      have HC := Lib.hid hrow'
      have hd := HD.out.bw hb
      have hc1 : wr.cell? ⟨b, 1, none⟩ = some (.int .i64 (k : Int)) := hd.cell rfl
      have hf1 : wr.frozen? ⟨b, 1, none⟩ = false := hd.frozen 1
      have ki : IntKind.i64.wrap ((k : Int) + 1) = ((k + 1 : Nat) : Int) := by rw [IntWalk.i64_in _ (by omega)]; omega
      have HD1 := Lib.hid hd
      have HB1 := Lib.hid hb
      clear hzl hbe hrow' hv hrow hb hd
      --<R9
      go_wp2_with fail
      generalize hW1 : wr.setCell ⟨b, 1, none⟩ (.int .i64 ((k : Int) + 1)) = W1
      rw [show ((k : Int) + 1) = ((k + 1 : Nat) : Int) by omega] at hW1
      have bx1 : Bx b wr W1 := by rw [← hW1]; exact Bx.set _ _ _ _
      have hd1 : Dr W1 lo hi b d seed (k + 1) := by rw [← hW1]; exact HD1.out.next
      have hcz : Bz W1 (some ⟨w.heap.size, 0, none⟩) 8 (be8 (k : Int)) := by
        refine ⟨?_, be8_dig _⟩
        have hr : Rd .u8 wr (some ⟨w.heap.size, 0, none⟩) 8 (be8 (k : Int)) := HC.out.rd (be8_len _) (fun j y hy => by rwa [Nat.zero_add])
        exact hr.bx bx1 (fun a ha => by injection ha with ha; subst ha; show w.heap.size ≠ b; omega)
      have BX1 := Lib.hid (((show Bw w wr from HB1.out).bx b).trans bx1)
      have HDD := Lib.hid hd1
      have HCZ := Lib.hid hcz
      have HK := Lib.hid hd1.K
      have HH := Lib.hid hd1.H
      have HSd := Lib.hid hd1.s.bz
      have z0 : ∀ W', Bw W1 W' → W'.cell? ⟨b, 0, none⟩ = some (.slice d.AS d.nS d.cS) := fun W' hb => (HDD.out.bw hb).cell rfl
      have z2 : ∀ W', Bw W1 W' → W'.cell? ⟨b, 2, none⟩ = some (.slice d.AK 64 d.cK) := fun W' hb => (HDD.out.bw hb).cell rfl
      have z3 : ∀ W', Bw W1 W' → W'.cell? ⟨b, 3, none⟩ = some (.slice d.AH 8 d.cH) := fun W' hb => (HDD.out.bw hb).cell rfl
      have y0 := z0 W1 (Bw.refl _)
      have y2 := z2 W1 (Bw.refl _)
      have y3 := z3 W1 (Bw.refl _)
      have hb1 := hd1.lt
      obtain ⟨R, hR⟩ : ∃ R, drk seed k = R := ⟨_, rfl⟩
      obtain ⟨S, hS⟩ : ∃ S, drw seed k n = S := ⟨_, rfl⟩
      have HR := Lib.hid hR
      have HST := Lib.hid (show stream R n = S by rw [← hR]; exact hS)
      have HSE := Lib.hid hS
      have hW := Bw.drew W1
      have hl0 : Bz (W1.alloc (.cells #[.int .u8 100, .int .u8 114, .int .u8 97, .int .u8 119] 5 (4, 5))) (some ⟨W1.heap.size, 0, none⟩) 4 drwB := bz_draw W1
      have hWl : Bw W1 (W1.alloc (.cells #[.int .u8 100, .int .u8 114, .int .u8 97, .int .u8 119] 5 (4, 5))) := Bw.alloc _ _
      have hgl : (W1.alloc (.cells #[.int .u8 100, .int .u8 114, .int .u8 97, .int .u8 119] 5 (4, 5))).heap.size = W1.heap.size + 1 := by simp
      have cv : (convert 22 22 (.slice (some ⟨W1.heap.size, 0, none⟩) 4 4)).run Tryd.prog (W1.alloc (.cells #[.int .u8 100, .int .u8 114, .int .u8 97, .int .u8 119] 5)).drew = .ok (.slice (some ⟨W1.heap.size, 0, none⟩) 4 4) (W1.alloc (.cells #[.int .u8 100, .int .u8 114, .int .u8 97, .int .u8 119] 5 (4, 5))).drew :=
        Joins.run_convert_bytes_const_at W1.drew _ _ _ 4 4 W1.heap.size rfl Tryd.underlying22 Tryd.underlying5
      have HL0 := Lib.hid hl0
      have HGL := Lib.hid hgl
      clear hW1 bx1 hd1 hcz hR hS hc1 hf1 ki HC HD1 HB1 HD hl0 hgl
      have kall : ∀ W', Bw W1 W' → W'.cell? ⟨b, 0, none⟩ = some (.slice d.AS d.nS d.cS) ∧ W'.cell? ⟨b, 2, none⟩ = some (.slice d.AK 64 d.cK) ∧ W'.cell? ⟨b, 3, none⟩ = some (.slice d.AH 8 d.cH) := fun W' hb => ⟨z0 W' hb, z2 W' hb, z3 W' hb⟩
      have kA := kall W1 (Bw.refl _)
      have kB := kall (W1.alloc (.cells #[.int .u8 100, .int .u8 114, .int .u8 97, .int .u8 119] 5)) (Bw.alloc _ _)
      have kC := kall (W1.alloc (.cells #[.int .u8 100, .int .u8 114, .int .u8 97, .int .u8 119] 5 (4, 5))) hWl
      have kD := kall ((W1.alloc (.cells #[.int .u8 100, .int .u8 114, .int .u8 97, .int .u8 119] 5 (4, 5))).alloc (.cells #[.slice (some ⟨W1.heap.size, 0, none⟩) 4 4, .slice d.AS d.nS d.cS, .slice (some ⟨w.heap.size, 0, none⟩) 8 8] 22)) (hWl.trans (Bw.alloc _ _))
      have KALL := Lib.hid kall
      clear z0 z2 z3 y0 y2 y3 kall
      go_region_held (fun w' => w'.cell? ⟨b, 0, none⟩ = some (.slice d.AS d.nS d.cS) ∧ w'.cell? ⟨b, 2, none⟩ = some (.slice d.AK 64 d.cK) ∧ w'.cell? ⟨b, 3, none⟩ = some (.slice d.AH 8 d.cH)) (first | exact kA | exact kB | exact kC | exact kD | exact kE | go_keep | assumption)
        (first
        | (go_at_call 37; (with_reducible refine (rparts_b3d HR.out (HK.out.bw_ hWl) (HH.out.bw_ hWl) HL0.out (HSd.out.bw_ hWl) (HCZ.out.bw_ hWl) hs HGL.out).mono ?_); rintro e wN ⟨AN, cN, rfl, hbN, -, hN⟩; have hW := hWl.trans hN; have kE := KALL.out wN hW; have HBN := Lib.hid hbN; clear hbN hN)
        | (go_at_call 36; (with_reducible refine (rstream_b HST.out (HK.out.bw_ hW) (HH.out.bw_ hW) HBN.out hn).mono ?_); rintro e wM ⟨AM, cM, rfl, hbM, hM⟩; have hM := hW.trans hM; have kE := KALL.out wM hM; have HBM := Lib.hid hbM; have HWM := Lib.hid hM; clear hbM hM))
      all_goals
        go_wp2_with fail
        go_ret
        exact ⟨_, _, rfl, by rw [HSE.out]; exact HBM.out, HDD.out.bw HWM.out, BX1.out.trans (HWM.out.bx b)⟩
      --R9>
    · --<L
      obtain ⟨m, rfl⟩ : ∃ m, p = m + 1 := ⟨p - 1, by omega⟩
      obtain rfl : v = (m : Int) := by omega
      have fz := hrow.frozen m
      have cz := hrow.cell (getElem?_dig (show m < zs.length by omega))
      obtain ⟨M, hM⟩ : ∃ M, (k : Int) / 256 ^ (8 - (m + 1)) = M := ⟨_, rfl⟩
      have h0 : (0 : Int) ≤ (k : Int) := by omega
      have m0 : 0 ≤ M := by rw [← hM]; exact Int.ediv_nonneg h0 (Int.le_of_lt (Int.pow_pos (by decide)))
      have m1 : M < 9223372036854775808 := by rw [← hM]; have := Int.ediv_le_self (256 ^ (8 - (m + 1))) h0; omega
      rw [hM]
      have HM := Lib.hid hM
      have q1 : M.tdiv 256 = M / 256 := Int.tdiv_eq_ediv_of_nonneg m0
      have q2 : M.tmod 256 = M % 256 := Int.tmod_eq_emod_of_nonneg m0
      clear hzl hM hv
      go_wp2_with fail
      go_roundw
      case rel =>
        refine ⟨m, _, _, by omega, rfl, rfl, ?_, hrow.set _ _, by simpa using HZL.out, fun j hj hj8 => ?_, hb.setCell (Nat.le_refl _) _⟩
        · rw [← HM.out, div_next h0 (by omega)]
        · rcases Nat.lt_or_ge m j with g | g
          · rw [dig_set_ne (by omega)]; exact HZE.out j (by omega) hj8
          · obtain rfl : j = m := by omega
            rw [dig_set_same (by rw [HZL.out]; omega), ← HM.out, show 8 - (j + 1) = 7 - j by omega]
      case measure => simp [intOf]
      --L>
end Go.Proofs.YtbffcgnefkkhoaaDoor
