/-
  WireTorn answers true: no proper beginning of a message's bytes is a message's, and nothing may stand behind them. By program: genwtorn.py.
-/
import Derived.Test.YtcnekfpgoceblaaWWireOne
import Derived.Test.YtcnekfpgoceblaaHsa
namespace Go.Proofs.Ytcnekfpgoceblaa
open Go.RowKit
set_option linter.unusedVariables false
set_option maxRecDepth 100000 in
theorem eqW_more : ∀ w : World, (binOp .eql 35 (.iface 57 (.int .i64 10)) (.iface 57 (.int .i64 10))).run Try.prog w = .ok (.bool true) w := fun _ => rfl
/-- What is refused. -/
theorem readm_err {w : World} {A : Option Addr} {n c : Nat} {xs : List Int} {code : Int} (hr : Rd .u8 w A n xs) (hd : Dig 256 xs) (hnc : n ≤ c) (hn47 : n ≤ 140737488355328) (h : rdC msgC 1048576 xs = (code, none)) :
    Calls Try.prog 18 #[.slice A n c] w fun e w' => e = .returned (.tuple #[.agg #[.int .i64 0, .int .i64 0, .int .i64 0, .int .i64 0, .int .i64 0, .int .i64 0, .bool false, .slice none 0 0, .slice none 0 0, .slice none 0 0, .int .i64 0, .slice none 0 0], .iface 57 (.int .i64 code)]) ∧ Below w.heap.size w w' := by
  refine (pReadMsg_any hr hd hnc hn47).mono ?_
  rintro e w' (⟨m, h1, -⟩ | ⟨k, h1, -, rfl, h3⟩)
  · rw [h] at h1; cases h1
  · rw [h] at h1
    obtain rfl : code = k := by injection h1
    exact ⟨rfl, h3⟩
theorem msg_pos (v : MsgT) : 0 < (msgC.enc v).length := by
  show 0 < (cntE v.1 ++ _).length
  rw [List.length_append]
  have := Cdc.cntE_pos v.1
  omega
set_option maxHeartbeats 64000000 in
set_option maxRecDepth 100000 in
theorem wireTorn_walk {w : World} {m : Mgd} (hm : Mg w m) (hI : m.Int) (hT : ∀ i, i < m.nt → (m.T i).xs.length ≤ 4611686018427387904) {cut : Int} (hcut : -9223372036854775808 ≤ cut ∧ cut ≤ 9223372036854775807)
    {B : Option Addr} {nb cb : Nat} {ys : List Int} (hb : Rd .u8 w B nb ys) (hdb : Dig 256 ys) (hnb : nb ≤ cb) (hlb : nb ≤ 140737488355328) :
    Calls Try.prog 7 #[.agg #[.int .i64 m.k, .int .i64 m.g, .int .i64 m.l, .int .i64 m.p, .int .i64 m.s, .int .i64 m.u, .bool m.ok, .slice m.Ab m.nb m.cb, .slice m.Ap m.np m.cp, .slice m.At m.nt m.ct, .int .i64 m.i, .slice m.Av m.nv m.cv], .int .i64 cut, .slice B nb cb] w fun e w' => e = .returned (.bool true) ∧ Below w.heap.size w w' := by
  obtain ⟨cm, xs, hcm, hlx, hdx, hok, -, hpm, -⟩ := msg_two hm hI hT
  have HM := Lib.hid hm
  have HP := Lib.hid hpm
  have HOK := Lib.hid hok
  have HDX := Lib.hid hdx
  have HB := Lib.hid hb
  have HDB := Lib.hid hdb
  obtain ⟨s, hs⟩ : ∃ s, w.heap.size = s := ⟨_, rfl⟩
  obtain ⟨W1, hW1⟩ : ∃ W1, w.alloc (.cells #[.int .i64 m.k, .int .i64 m.g, .int .i64 m.l, .int .i64 m.p, .int .i64 m.s, .int .i64 m.u, .bool m.ok, .slice m.Ab m.nb m.cb, .slice m.Ap m.np m.cp, .slice m.At m.nt m.ct, .int .i64 m.i, .slice m.Av m.nv m.cv] 30) = W1 := ⟨_, rfl⟩
  have B1 := Lib.hid (show Below w.heap.size w W1 by rw [← hW1]; exact (Below.refl _ _).alloc (Nat.le_refl _) _)
  have R1 := Lib.hid (show W1.heap[s]? = some (.cells #[.int .i64 m.k, .int .i64 m.g, .int .i64 m.l, .int .i64 m.p, .int .i64 m.s, .int .i64 m.u, .bool m.ok, .slice m.Ab m.nb m.cb, .slice m.Ap m.np m.cp, .slice m.At m.nt m.ct, .int .i64 m.i, .slice m.Av m.nv m.cv] 30 (0, 0)) by rw [← hW1, ← hs]; exact heap_alloc_new w _)
  clear hm hpm hok hdx hb hdb hI hT
  go_enter Try.func7, Try.ntmps7
  go_wp2_with fail
  try rw [hW1]
  clear hW1
  refine (up11_any W1).mono ?_
  rintro e w2 ⟨rfl, b2⟩
  have B2 := Lib.hid (B1.out.trans (b2.mono B1.out.size))
  have R2 := Lib.hid (row_belowM R1.out b2)
  clear b2 hs
  have y0 := cell_of_row w2 s 0 _ _ _ R2.out
  have y1 := cell_of_row w2 s 1 _ _ _ R2.out
  have y2 := cell_of_row w2 s 2 _ _ _ R2.out
  have y3 := cell_of_row w2 s 3 _ _ _ R2.out
  have y4 := cell_of_row w2 s 4 _ _ _ R2.out
  have y5 := cell_of_row w2 s 5 _ _ _ R2.out
  have y6 := cell_of_row w2 s 6 _ _ _ R2.out
  have y7 := cell_of_row w2 s 7 _ _ _ R2.out
  have y8 := cell_of_row w2 s 8 _ _ _ R2.out
  have y9 := cell_of_row w2 s 9 _ _ _ R2.out
  have y10 := cell_of_row w2 s 10 _ _ _ R2.out
  have y11 := cell_of_row w2 s 11 _ _ _ R2.out
  go_wp2_with fail
  clear y0 y1 y2 y3 y4 y5 y6 y7 y8 y9 y10 y11
  refine (smallW_any (HM.out.below B2.out)).mono ?_
  rintro e w3 ⟨q, rfl, -, b3⟩
  have B3 := Lib.hid (B2.out.trans (b3.mono B2.out.size))
  have R3 := Lib.hid (row_belowM R2.out b3)
  clear b3
  have y0 := cell_of_row w3 s 0 _ _ _ R3.out
  have y1 := cell_of_row w3 s 1 _ _ _ R3.out
  have y2 := cell_of_row w3 s 2 _ _ _ R3.out
  have y3 := cell_of_row w3 s 3 _ _ _ R3.out
  have y4 := cell_of_row w3 s 4 _ _ _ R3.out
  have y5 := cell_of_row w3 s 5 _ _ _ R3.out
  have y6 := cell_of_row w3 s 6 _ _ _ R3.out
  have y7 := cell_of_row w3 s 7 _ _ _ R3.out
  have y8 := cell_of_row w3 s 8 _ _ _ R3.out
  have y9 := cell_of_row w3 s 9 _ _ _ R3.out
  have y10 := cell_of_row w3 s 10 _ _ _ R3.out
  have y11 := cell_of_row w3 s 11 _ _ _ R3.out
  go_wp2_with fail
  clear y0 y1 y2 y3 y4 y5 y6 y7 y8 y9 y10 y11
  refine (HP.out w3 (HM.out.below B3.out)).mono ?_
  rintro e w4 ⟨A4, c4, E4, rfl, hE4, rd4, hc4, b4⟩
  have HE4 := Lib.hid hE4
  have RD4 := Lib.hid rd4
  have HC4 := Lib.hid hc4
  have B4 := Lib.hid (B3.out.trans (b4.mono B3.out.size))
  clear hE4 rd4 b4 hc4
  by_cases ga : cm = 0
  case neg =>
    obtain rfl := erv_iface HE4.out ga
    have q1 := neW_one cm
    clear ga
    go_wp2_with fail
    go_ret
    exact ⟨rfl, B4.out⟩
  obtain rfl := ervN_zero (ga ▸ HE4.out)
  obtain ⟨cn, ok, ex⟩ := HOK.out ga
  have q1 := neW_nil
  cases q with
  | false =>
    clear ga cn ok ex
    go_wp2_with fail
    go_ret
    exact ⟨rfl, B4.out⟩
  | true =>
    have xpos : 0 < xs.length := by rw [ex]; exact msg_pos _
    obtain ⟨L, hL⟩ : ∃ L, xs.length = L := ⟨_, rfl⟩
    have HL := Lib.hid hL
    have TORN := Lib.hid (show ∀ r, r < L → rdC msgC 1048576 (xs.take r) = (9, none) from fun r hr => by
      have hne : xs.drop r ≠ [] := fun e => by
        have h9 := congrArg List.length e
        rw [List.length_drop, HL.out] at h9
        simp at h9
        omega
      exact rdC_torn msgC (v := mv m) ok (fun x hx => HDX.out x (List.mem_of_mem_take hx)) (show msgC.enc (mv m) = xs.take r ++ xs.drop r by rw [List.take_append_drop, ex]) hne (by rw [← ex]; exact hlx))
    have MORE := Lib.hid (show 0 < nb → L + nb ≤ 1048576 → rdC msgC 1048576 (xs ++ ys) = (10, none) from fun h0 h1 => by
      rw [ex]
      refine rdC_more msgC ok (fun e => ?_) ?_
      · have h9 := HB.out.len
        rw [e] at h9
        simp at h9
        omega
      · rw [← ex, HL.out, HB.out.len]; exact h1)
    have HX := Lib.hid ex
    rw [hL] at RD4 HC4 xpos ⊢
    clear ga cn ok ex hL
    have l0 : ((L : Int) == 0) = false := by simp; omega
    rcases Int.lt_or_le cut 0 with gc | gc
    · have ec : decide (cut < 0) = true := by simpa using gc
      obtain ⟨k, hk⟩ : ∃ k : Nat, -(cut + 1) = (k : Int) := Int.eq_ofNat_of_zero_le (by omega)
      have w1 : IntKind.i64.wrap (cut + 1) = cut + 1 := by rw [IntWalk.i64_in _ (by omega)]
      have w2 : IntKind.i64.wrap (-(cut + 1)) = (k : Int) := by rw [IntWalk.i64_in _ (by omega)]; exact hk
      obtain ⟨r, hr⟩ : ∃ r, k % L = r := ⟨_, rfl⟩
      have rl : r < L := by rw [← hr]; exact Nat.mod_lt _ xpos
      have w3' : (k : Int) % (L : Int) = (r : Int) := by rw [← hr]; rfl
      have w4' : (k : Int).tmod (L : Int) = (r : Int) := by rw [Int.tmod_eq_emod_of_nonneg (by omega)]; exact w3'
      have HK := Lib.hid hk
      have rc : r ≤ c4 := by have := HC4.out; omega
      clear gc hk hr
      go_wp2_with fail
      refine (readm_err (n := r) (c := c4) (rd_take RD4.out (by omega)) (fun x hx => HDX.out x (List.mem_of_mem_take hx)) rc (by have := HL.out; omega) (TORN.out r rl)).mono ?_
      rintro e w5 ⟨rfl, b5⟩
      have B5 := Lib.hid (B4.out.trans (b5.mono B4.out.size))
      have RD5 := Lib.hid (RD4.out.below b5)
      obtain ⟨W6, hW6⟩ : ∃ W6, w5.alloc (.cells #[.int .i64 0, .int .i64 0, .int .i64 0, .int .i64 0, .int .i64 0, .int .i64 0, .bool false, .slice none 0 0, .slice none 0 0, .slice none 0 0, .int .i64 0, .slice none 0 0] 30) = W6 := ⟨_, rfl⟩
      have BL6 := Lib.hid (show Below w5.heap.size w5 W6 by rw [← hW6]; exact (Below.refl _ _).alloc (Nat.le_refl _) _)
      have B6 := Lib.hid (B5.out.trans (BL6.out.mono B5.out.size))
      have HW6 := Lib.hid hW6
      clear hW6
      have q2 := eqW_form
      have q3 := eqW_more
      clear b5
      by_cases gm : 1000 < nb ∨ nb = 0 ∨ 1048576 < L + nb
      · have wl : IntKind.i64.wrap ((L : Int) + (nb : Int)) = ((L + nb : Nat) : Int) := by have := HL.out; rw [IntWalk.i64_in _ (by omega)]; omega
        rcases Nat.lt_or_ge 1000 nb with g1 | g1
        · have t1 : decide ((1000 : Int) < (nb : Int)) = true := by simp; omega
          clear gm g1
          go_wp2_with fail
          try rw [HW6.out]
          go_ret
          exact ⟨rfl, B6.out⟩
        · have t1 : decide ((1000 : Int) < (nb : Int)) = false := by simp; omega
          rcases Nat.eq_zero_or_pos nb with g2 | g2
          · have t2 : ((nb : Int) == 0) = true := by simp; omega
            clear gm g1 g2
            go_wp2_with fail
            try rw [HW6.out]
            go_ret
            exact ⟨rfl, B6.out⟩
          · have t2 : ((nb : Int) == 0) = false := by simp; omega
            have t3 : decide (1048576 < L + nb) = true := by simp; omega
            have t4 : decide ((1048576 : Int) < (L : Int) + (nb : Int)) = true := by simp; omega
            clear gm g1 g2
            go_wp2_with fail
            try rw [HW6.out]
            go_ret
            exact ⟨rfl, B6.out⟩
      · have n1 : nb ≤ 1000 := by omega
        have n2 : 0 < nb := by omega
        have n3 : L + nb ≤ 1048576 := by omega
        have t1 : decide ((1000 : Int) < (nb : Int)) = false := by simp; omega
        have t2 : ((nb : Int) == 0) = false := by simp; omega
        have wl : IntKind.i64.wrap ((L : Int) + (nb : Int)) = ((L + nb : Nat) : Int) := by rw [IntWalk.i64_in _ (by omega)]; omega
        have t3 : decide (1048576 < L + nb) = false := by simp; omega
        have t4 : decide ((1048576 : Int) < (L : Int) + (nb : Int)) = false := by simp; omega
        have N3 := Lib.hid n3
        have N2 := Lib.hid n2
        have s6 : W6.heap.size = w5.heap.size + 1 := by rw [← HW6.out]; simp
        have OW7 := Lib.hid (show (W6.alloc (.cells #[] 5)).ownsRow W6.heap.size 5 1 (.slice (some ⟨w5.heap.size + 1, 0, none⟩) 0 0) 0 (([] : List Int).map (Value.int .u8)) from own_none_at W6 5 .u8 (base := W6.heap.size) s6 (Nat.le_of_eq s6))
        have BL7 := Lib.hid (show Below W6.heap.size W6 (W6.alloc (.cells #[] 5)) from (Below.refl _ _).alloc (Nat.le_refl _) _)
        have RD7 := Lib.hid ((RD5.out.below BL6.out).below BL7.out)
        have s67 := BL7.out.size
        have zl : 0 + L ≤ 8796093022208 := by have := N3.out; omega
        have ln : L + nb ≤ 8796093022208 := by have := N3.out; omega
        have HDA := Lib.hid (show Dig 256 (xs ++ ys) from fun x hx => by rcases List.mem_append.1 hx with hx | hx; exact HDX.out x hx; exact HDB.out x hx)
        have l47 : L + nb ≤ 140737488355328 := by omega
        clear gm n2 n3 s6
        go_wp2_with (at_builtin; (try rw [HW6.out]); refine wpList_catK _ rfl (.tmp 71) (.tmp 72) 33 rfl W6.heap.size 1 5 .u8 Try.underlying33 info8u (by omega) (.slice (some ⟨w5.heap.size + 1, 0, none⟩) 0 0) 0 [] rfl OW7.out A4 L _ xs rfl RD7.out zl s67 ?_)
        intro v8 w8 hn8 hg8
        have ho8 : w8.ownsRow W6.heap.size 5 1 v8 L (xs.map (Value.int .u8)) := (by simpa using hn8)
        have B8 := Lib.hid (show Below W6.heap.size W6 w8 from own_below BL7.out OW7.out hg8 s67 (Nat.le_refl _))
        obtain ⟨A8, c8, rfl, -⟩ := own_rd ho8
        have OW8 := Lib.hid ho8
        have RB8 := Lib.hid (HB.out.below (B6.out.trans (B8.out.mono B6.out.size)))
        have s68 : W6.heap.size ≤ w8.heap.size := B8.out.size
        clear hn8 hg8 ho8
        go_wp2_with (at_builtin; refine wpList_catK _ rfl (.tmp 73) (.tmp 74) 33 rfl W6.heap.size 1 5 .u8 Try.underlying33 info8u (by omega) (.slice A8 L c8) L xs rfl OW8.out B nb _ ys rfl RB8.out ln s68 ?_)
        intro v9 w9 hn9 hg9
        have ho9 : w9.ownsRow W6.heap.size 5 1 v9 (L + nb) ((xs ++ ys).map (Value.int .u8)) := (by simpa using hn9)
        have B9 := Lib.hid (show Below W6.heap.size W6 w9 from own_below B8.out OW8.out hg9 s68 (Nat.le_refl _))
        obtain ⟨A9, c9, rfl, rd9, nc9, -⟩ := own_rd ho9
        have RD9 := Lib.hid rd9
        have B9' := Lib.hid (B6.out.trans (B9.out.mono B6.out.size))
        clear hn9 hg9 ho9 rd9
        go_wp2_with fail
        (with_reducible refine (readm_err RD9.out HDA.out nc9 l47 (MORE.out N2.out N3.out)).mono ?_)
        rintro e w10 ⟨rfl, b10⟩
        have B10 := Lib.hid (B9'.out.trans (b10.mono B9'.out.size))
        clear b10
        go_wp2_with fail
        go_ret
        exact ⟨rfl, B10.out.alloc B10.out.size _⟩
    · have ec : decide (cut < 0) = false := by simpa using gc
      obtain ⟨k, rfl⟩ := Int.eq_ofNat_of_zero_le gc
      obtain ⟨r, hr⟩ : ∃ r, k % L = r := ⟨_, rfl⟩
      have rl : r < L := by rw [← hr]; exact Nat.mod_lt _ xpos
      have w3' : (k : Int) % (L : Int) = (r : Int) := by rw [← hr]; rfl
      have w4' : (k : Int).tmod (L : Int) = (r : Int) := by rw [Int.tmod_eq_emod_of_nonneg (by omega)]; exact w3'
      have rc : r ≤ c4 := by have := HC4.out; omega
      clear gc hr
      go_wp2_with fail
      refine (readm_err (n := r) (c := c4) (rd_take RD4.out (by omega)) (fun x hx => HDX.out x (List.mem_of_mem_take hx)) rc (by have := HL.out; omega) (TORN.out r rl)).mono ?_
      rintro e w5 ⟨rfl, b5⟩
      have B5 := Lib.hid (B4.out.trans (b5.mono B4.out.size))
      have RD5 := Lib.hid (RD4.out.below b5)
      obtain ⟨W6, hW6⟩ : ∃ W6, w5.alloc (.cells #[.int .i64 0, .int .i64 0, .int .i64 0, .int .i64 0, .int .i64 0, .int .i64 0, .bool false, .slice none 0 0, .slice none 0 0, .slice none 0 0, .int .i64 0, .slice none 0 0] 30) = W6 := ⟨_, rfl⟩
      have BL6 := Lib.hid (show Below w5.heap.size w5 W6 by rw [← hW6]; exact (Below.refl _ _).alloc (Nat.le_refl _) _)
      have B6 := Lib.hid (B5.out.trans (BL6.out.mono B5.out.size))
      have HW6 := Lib.hid hW6
      clear hW6
      have q2 := eqW_form
      have q3 := eqW_more
      clear b5
      by_cases gm : 1000 < nb ∨ nb = 0 ∨ 1048576 < L + nb
      · have wl : IntKind.i64.wrap ((L : Int) + (nb : Int)) = ((L + nb : Nat) : Int) := by have := HL.out; rw [IntWalk.i64_in _ (by omega)]; omega
        rcases Nat.lt_or_ge 1000 nb with g1 | g1
        · have t1 : decide ((1000 : Int) < (nb : Int)) = true := by simp; omega
          clear gm g1
          go_wp2_with fail
          try rw [HW6.out]
          go_ret
          exact ⟨rfl, B6.out⟩
        · have t1 : decide ((1000 : Int) < (nb : Int)) = false := by simp; omega
          rcases Nat.eq_zero_or_pos nb with g2 | g2
          · have t2 : ((nb : Int) == 0) = true := by simp; omega
            clear gm g1 g2
            go_wp2_with fail
            try rw [HW6.out]
            go_ret
            exact ⟨rfl, B6.out⟩
          · have t2 : ((nb : Int) == 0) = false := by simp; omega
            have t3 : decide (1048576 < L + nb) = true := by simp; omega
            have t4 : decide ((1048576 : Int) < (L : Int) + (nb : Int)) = true := by simp; omega
            clear gm g1 g2
            go_wp2_with fail
            try rw [HW6.out]
            go_ret
            exact ⟨rfl, B6.out⟩
      · have n1 : nb ≤ 1000 := by omega
        have n2 : 0 < nb := by omega
        have n3 : L + nb ≤ 1048576 := by omega
        have t1 : decide ((1000 : Int) < (nb : Int)) = false := by simp; omega
        have t2 : ((nb : Int) == 0) = false := by simp; omega
        have wl : IntKind.i64.wrap ((L : Int) + (nb : Int)) = ((L + nb : Nat) : Int) := by rw [IntWalk.i64_in _ (by omega)]; omega
        have t3 : decide (1048576 < L + nb) = false := by simp; omega
        have t4 : decide ((1048576 : Int) < (L : Int) + (nb : Int)) = false := by simp; omega
        have N3 := Lib.hid n3
        have N2 := Lib.hid n2
        have s6 : W6.heap.size = w5.heap.size + 1 := by rw [← HW6.out]; simp
        have OW7 := Lib.hid (show (W6.alloc (.cells #[] 5)).ownsRow W6.heap.size 5 1 (.slice (some ⟨w5.heap.size + 1, 0, none⟩) 0 0) 0 (([] : List Int).map (Value.int .u8)) from own_none_at W6 5 .u8 (base := W6.heap.size) s6 (Nat.le_of_eq s6))
        have BL7 := Lib.hid (show Below W6.heap.size W6 (W6.alloc (.cells #[] 5)) from (Below.refl _ _).alloc (Nat.le_refl _) _)
        have RD7 := Lib.hid ((RD5.out.below BL6.out).below BL7.out)
        have s67 := BL7.out.size
        have zl : 0 + L ≤ 8796093022208 := by have := N3.out; omega
        have ln : L + nb ≤ 8796093022208 := by have := N3.out; omega
        have HDA := Lib.hid (show Dig 256 (xs ++ ys) from fun x hx => by rcases List.mem_append.1 hx with hx | hx; exact HDX.out x hx; exact HDB.out x hx)
        have l47 : L + nb ≤ 140737488355328 := by omega
        clear gm n2 n3 s6
        go_wp2_with (at_builtin; (try rw [HW6.out]); refine wpList_catK _ rfl (.tmp 71) (.tmp 72) 33 rfl W6.heap.size 1 5 .u8 Try.underlying33 info8u (by omega) (.slice (some ⟨w5.heap.size + 1, 0, none⟩) 0 0) 0 [] rfl OW7.out A4 L _ xs rfl RD7.out zl s67 ?_)
        intro v8 w8 hn8 hg8
        have ho8 : w8.ownsRow W6.heap.size 5 1 v8 L (xs.map (Value.int .u8)) := (by simpa using hn8)
        have B8 := Lib.hid (show Below W6.heap.size W6 w8 from own_below BL7.out OW7.out hg8 s67 (Nat.le_refl _))
        obtain ⟨A8, c8, rfl, -⟩ := own_rd ho8
        have OW8 := Lib.hid ho8
        have RB8 := Lib.hid (HB.out.below (B6.out.trans (B8.out.mono B6.out.size)))
        have s68 : W6.heap.size ≤ w8.heap.size := B8.out.size
        clear hn8 hg8 ho8
        go_wp2_with (at_builtin; refine wpList_catK _ rfl (.tmp 73) (.tmp 74) 33 rfl W6.heap.size 1 5 .u8 Try.underlying33 info8u (by omega) (.slice A8 L c8) L xs rfl OW8.out B nb _ ys rfl RB8.out ln s68 ?_)
        intro v9 w9 hn9 hg9
        have ho9 : w9.ownsRow W6.heap.size 5 1 v9 (L + nb) ((xs ++ ys).map (Value.int .u8)) := (by simpa using hn9)
        have B9 := Lib.hid (show Below W6.heap.size W6 w9 from own_below B8.out OW8.out hg9 s68 (Nat.le_refl _))
        obtain ⟨A9, c9, rfl, rd9, nc9, -⟩ := own_rd ho9
        have RD9 := Lib.hid rd9
        have B9' := Lib.hid (B6.out.trans (B9.out.mono B6.out.size))
        clear hn9 hg9 ho9 rd9
        go_wp2_with fail
        (with_reducible refine (readm_err RD9.out HDA.out nc9 l47 (MORE.out N2.out N3.out)).mono ?_)
        rintro e w10 ⟨rfl, b10⟩
        have B10 := Lib.hid (B9'.out.trans (b10.mono B9'.out.size))
        clear b10
        go_wp2_with fail
        go_ret
        exact ⟨rfl, B10.out.alloc B10.out.size _⟩
end Go.Proofs.Ytcnekfpgoceblaa
