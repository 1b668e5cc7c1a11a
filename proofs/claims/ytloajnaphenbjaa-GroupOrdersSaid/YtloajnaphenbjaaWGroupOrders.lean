/-
  GroupOrders: walked through.
-/
import Derived.Test.YtloajnaphenbjaaGru
import Derived.Test.YtloajnaphenbjaaAr0
import Derived.Test.YtloajnaphenbjaaRed0
namespace Go.Proofs.Ytloajnaphenbjaa
open Go.RowKit
set_option linter.unusedVariables false
section
variable {w : World} {aA : Option Addr} {na ca : Nat} {za : List Int} {sA : Option Addr} {ns cs : Nat} {zs : List Int}
set_option maxHeartbeats 8000000 in
set_option maxRecDepth 100000 in
theorem groupOrders_over (i : Int) (hi : -9223372036854775808 ≤ i ∧ i ≤ 9223372036854775807) (ha : Told w aA na ca za) (hs : Told w sA ns cs zs) (hl : 60 < na ∨ 60 < ns) :
    Calls Try.prog 5 #[.int .i64 i, .slice aA na ca, .slice sA ns cs] w fun e w' => e = .returned (.bool true) ∧ Below w.heap.size w w' := by
  have da := ha.c60
  have ds := hs.c60
  have hcase : (60 < na) ∨ (na ≤ 60 ∧ 60 < ns) := by omega
  have HI := Lib.hid hi
  clear hi hl
  go_enter Try.func5, Try.ntmps5
  go_wp2_with fail
  refine (up_any w).mono ?_
  rintro e w1 ⟨rfl, b1⟩
  go_wp2_with fail
  refine (known_any i HI.out w1).mono ?_
  rintro e w2 ⟨A, n, c, A', n', c', rfl, kg, b2⟩
  have g2 := b1.trans (b2.mono b1.size)
  clear b1 b2
  go_wp2_with fail
  refine (kg_new (kix_lt i) kg).mono ?_
  rintro e w3 ⟨b, d, rfl, gr, -, -, -, b3, -, -⟩
  have G := Lib.hid (g2.trans (b3.mono g2.size))
  clear g2 b3 kg gr
  rcases hcase with h | ⟨h, h'⟩
  · have t1 : decide ((60 : Int) < (na : Int)) = true := by simp; omega
    go_wp2
    go_ret
    exact ⟨rfl, G.out⟩
  · have t1 : decide ((60 : Int) < (na : Int)) = false := by simp; omega
    have t2 : decide ((60 : Int) < (ns : Int)) = true := by simp; omega
    go_wp2
    go_ret
    exact ⟨rfl, G.out⟩
theorem zero_len {w : World} {A : Option Addr} {n c : Nat} {N : Int} (h : Cn w A n c N) : ((n : Int) == 0) = decide (N = 0) ∧ (n == 0) = decide (N = 0) := by
  have h1 := h.len_
  have h2 := dl_zero h.pos
  by_cases g : N = 0
  · have : n = 0 := by omega
    subst this
    simp [g]
  · have : n ≠ 0 := fun e => g (h2.1 (by omega))
    simp [g, this]
theorem one_bool {w : World} {A : Option Addr} {n c : Nat} {N : Int} (h : Cn w A n c N) (r : Bool) (hr : decide (N = 1) = r) :
    Calls Try.prog 17 #[.slice A n c] w fun e w' => e = .returned (.bool r) ∧ w = w' := by
  subst hr
  by_cases g : N = 1
  · rw [decide_eq_true g]; subst g; exact one_is h
  · rw [decide_eq_false g]; exact one_not h g
set_option maxHeartbeats 8000000 in
set_option maxRecDepth 100000 in
theorem groupOrders_ok (i : Int) (hi : -9223372036854775808 ≤ i ∧ i ≤ 9223372036854775807) {X Y : Int} (ha : Nm w aA na ca X) (hs : Nm w sA ns cs Y) (la : na ≤ 60) (ls : ns ≤ 60) :
    Calls Try.prog 5 #[.int .i64 i, .slice aA na ca, .slice sA ns cs] w fun e w' => e = .returned (.bool true) ∧ Below w.heap.size w w' := by
  have t1 : decide ((60 : Int) < (na : Int)) = false := by simp; omega
  have t2 : decide ((60 : Int) < (ns : Int)) = false := by simp; omega
  have dx : dl X ≤ 64 := by have := ha.dl_le; omega
  have dy : dl Y ≤ 64 := by have := hs.dl_le; omega
  have x0 := ha.pos
  have y0 := hs.pos
  have HI := Lib.hid hi
  clear hi
  go_enter Try.func5, Try.ntmps5
  go_wp2_with fail
  refine (up_any w).mono ?_
  rintro e w1 ⟨rfl, b1⟩
  go_wp2_with fail
  refine (known_any i HI.out w1).mono ?_
  rintro e w2 ⟨A, n, c, A', n', c', rfl, kg, b2⟩
  have g2 := b1.trans (b2.mono b1.size)
  clear b1 b2
  go_wp2_with fail
  refine (kg_new (kix_lt i) kg).mono ?_
  rintro e w3 ⟨b, d, rfl, gr, -, -, -, b3, -, -⟩
  have g3 := g2.trans (b3.mono g2.size)
  clear g2 b3 kg
  have EA := gr.el.pow gr.safe.p2 gr.safe.q1 X.toNat
  have HEA := Lib.hid EA
  have h1 := el_orders gr.safe EA y0
  have h2 := el_orders gr.safe gr.el x0
  have hor : decide ((d.G ^ X.toNat % d.P) ^ Y.toNat % d.P = 1) = (decide (Y % d.Q = 0) || decide (X % d.Q = 0)) := by
    have hg := gr.g1
    by_cases a : Y % d.Q = 0
    · rw [decide_eq_true (h1.2 (.inl a)), decide_eq_true a]; rfl
    · by_cases b : X % d.Q = 0
      · rw [decide_eq_true (h1.2 (.inr (h2.2 (.inl b)))), decide_eq_true b, Bool.or_true]
      · rw [decide_eq_false a, decide_eq_false b, decide_eq_false]
        · rfl
        · intro e
          rcases h1.1 e with k | k
          · exact a k
          · rcases h2.1 k with k | k
            · exact b k
            · exact hg k
  have HOR := Lib.hid hor
  clear EA h1 h2 hor
  go_wp2_with fail
  refine (gscalars_any gr.toGr0).mono ?_
  rintro e w4 ⟨bs0, As0, cs0, low0, Bs0, cB0, Ss0, cS0, rfl, -, b4, -⟩
  have g4 := g3.trans (b4.mono g3.size)
  have gr := gr.below b4
  clear g3 b4
  go_wp2_with fail
  refine (gbase_any gr (ha.below g4) dx).mono ?_
  rintro e w5 ⟨Bb, nb', cb, rfl, kb, b5, -⟩
  have g5 := g4.trans (b5.mono g4.size)
  have gr := gr.below b5
  clear g4 b5
  go_wp2_with fail
  refine (gexp_any gr.toGr0 kb.nm (hs.below g5) HEA.out dy).mono ?_
  rintro e w6 ⟨Bp, np, cp, rfl, kp, b6, -⟩
  have g6 := g5.trans (b6.mono g5.size)
  have gr := gr.below b6
  clear g5 b6 kb
  go_wp2_with fail
  refine (gscalars_any gr.toGr0).mono ?_
  rintro e w7 ⟨bs, As, cs', lows, Bs, cBs, Ss, cSs, rfl, md, b7, -⟩
  have g7 := g6.trans (b7.mono g6.size)
  have gr := gr.below b7
  have kp := kp.below b7
  clear g6 b7
  go_wp2_with fail
  refine (reduce_any md (hs.below g7) dy).mono ?_
  rintro e w8 ⟨Br, nr, cr, rfl, kr, b8, -⟩
  have g8 := g7.trans (b8.mono g7.size)
  have gr := gr.below b8
  have kp := kp.below b8
  clear g7 b8 md
  go_wp2_with fail
  refine (gscalars_any gr.toGr0).mono ?_
  rintro e w9 ⟨bs2, As2, cs2, lows2, Bs2, cBs2, Ss2, cSs2, rfl, md, b9, -⟩
  have g9 := g8.trans (b9.mono g8.size)
  have kp := kp.below b9
  have kr := kr.below b9
  clear g8 b9 gr
  go_wp2_with fail
  refine (reduce_any md (ha.below g9) dx).mono ?_
  rintro e w10 ⟨Bt, nt, ct, rfl, kt, b10, -⟩
  have g10 := g9.trans (b10.mono g9.size)
  have kp := kp.below b10
  have kr := kr.below b10
  clear g9 b10 md
  have zr := zero_len kr
  have zt := zero_len kt
  have G := Lib.hid g10
  clear g10 kr kt
  by_cases a : Y % d.Q = 0
  · rw [decide_eq_true a] at zr
    have ho : decide ((d.G ^ X.toNat % d.P) ^ Y.toNat % d.P = 1) = true := by rw [HOR.out, decide_eq_true a]; rfl
    have HO := Lib.hid ho
    have zr1 := zr.1
    have zr2 := zr.2
    clear a ho zr zt
    go_wp2_with fail
    refine (one_bool kp true HO.out).mono ?_
    rintro e w11 ⟨rfl, rfl⟩
    clear kp
    go_wp2
    go_ret
    exact ⟨rfl, G.out⟩
  · rw [decide_eq_false a] at zr
    have zr1 := zr.1
    have zr2 := zr.2
    by_cases b : X % d.Q = 0
    · rw [decide_eq_true b] at zt
      have ho : decide ((d.G ^ X.toNat % d.P) ^ Y.toNat % d.P = 1) = true := by rw [HOR.out, decide_eq_true b, Bool.or_true]
      have HO := Lib.hid ho
      have zt1 := zt.1
      have zt2 := zt.2
      clear a b ho zr zt
      go_wp2_with fail
      refine (one_bool kp true HO.out).mono ?_
      rintro e w11 ⟨rfl, rfl⟩
      clear kp
      go_wp2
      go_ret
      exact ⟨rfl, G.out⟩
    · rw [decide_eq_false b] at zt
      have ho : decide ((d.G ^ X.toNat % d.P) ^ Y.toNat % d.P = 1) = false := by rw [HOR.out, decide_eq_false a, decide_eq_false b]; rfl
      have HO := Lib.hid ho
      have zt1 := zt.1
      have zt2 := zt.2
      clear a b ho zr zt
      go_wp2_with fail
      refine (one_bool kp false HO.out).mono ?_
      rintro e w11 ⟨rfl, rfl⟩
      clear kp
      go_wp2
      go_ret
      exact ⟨rfl, G.out⟩
theorem groupOrders_walk (i : Int) (hi : -9223372036854775808 ≤ i ∧ i ≤ 9223372036854775807) (ha : Told w aA na ca za) (hs : Told w sA ns cs zs) :
    Calls Try.prog 5 #[.int .i64 i, .slice aA na ca, .slice sA ns cs] w fun e w' => e = .returned (.bool true) ∧ Below w.heap.size w w' := by
  by_cases h : 60 < na ∨ 60 < ns
  · exact groupOrders_over i hi ha hs h
  · exact groupOrders_ok i hi ha.nm hs.nm (by omega) (by omega)
end
end Go.Proofs.Ytloajnaphenbjaa
