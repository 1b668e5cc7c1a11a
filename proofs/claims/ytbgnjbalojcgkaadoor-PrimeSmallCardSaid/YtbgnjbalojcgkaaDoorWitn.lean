/-
  What checkWitness answers: whether A is a witness.
-/
import Derived.Test.YtbgnjbalojcgkaaDoorCof
namespace Go.Proofs.YtbgnjbalojcgkaaDoor
open Go.RowKit
set_option linter.unusedVariables false
/-- A struct of three slices in memory. -/
structure St3 (w : World) (b : Nat) (A1 : Option Addr) (n1 c1 : Nat) (A2 : Option Addr) (n2 c2 : Nat) (A3 : Option Addr) (n3 c3 : Nat) : Prop where
  lt : b < w.heap.size
  c0 : w.cell? ⟨b, 0, none⟩ = some (.slice A1 n1 c1)
  c1_ : w.cell? ⟨b, 1, none⟩ = some (.slice A2 n2 c2)
  c2_ : w.cell? ⟨b, 2, none⟩ = some (.slice A3 n3 c3)
section
variable {w w' : World} {b : Nat} {A1 A2 A3 : Option Addr} {n1 c1 n2 c2 n3 c3 : Nat}
theorem St3.below (h : St3 w b A1 n1 c1 A2 n2 c2 A3 n3 c3) (hb : Below w.heap.size w w') : St3 w' b A1 n1 c1 A2 n2 c2 A3 n3 c3 :=
  ⟨Nat.lt_of_lt_of_le h.lt hb.size, (hb.cell (p := ⟨b, 0, none⟩) h.lt).trans h.c0, (hb.cell (p := ⟨b, 1, none⟩) h.lt).trans h.c1_, (hb.cell (p := ⟨b, 2, none⟩) h.lt).trans h.c2_⟩
theorem St3.new (w : World) (A1 : Option Addr) (n1 c1 : Nat) (A2 : Option Addr) (n2 c2 : Nat) (A3 : Option Addr) (n3 c3 : Nat) :
    St3 (w.alloc (.cells #[.slice A1 n1 c1, .slice A2 n2 c2, .slice A3 n3 c3] 41)) w.heap.size A1 n1 c1 A2 n2 c2 A3 n3 c3 :=
  ⟨by simp, by simp [World.cell?_alloc_new], by simp [World.cell?_alloc_new], by simp [World.cell?_alloc_new]⟩
end
/-- What the witness says, with the power of A in the middle. -/
def Wt (P Q A K : Int) : Prop := 2 ≤ A ∧ A < P ∧ (A ^ K.toNat % P) ^ Q.toNat % P = 1 ∧ Int.gcd P ((A ^ K.toNat % P - 1) % P) = 1
/-- An error of one of the codes, or none. -/
def erv (c : Int) : Value := if c = 0 then .nilIface else .iface 44 (.int .i64 c)
section
variable {w : World} {b : Nat} {P : Int} {n : Nat} {A0 : Option Addr} {c0 : Nat} {low : Int} {B : Option Addr} {cB : Nat} {S : Option Addr} {cS : Nat}
variable {A1 A2 A3 A4 : Option Addr} {n1 c1 n2 c2 n3 c3 n4 c4 : Nat} {Q A K : Int}
set_option maxHeartbeats 1000000 in
theorem witness_less (md : Md w b P n A0 c0 low B cB S cS) (h3 : Nm w A3 n3 c3 A) (ha : A < 2) :
    Calls Tryd.prog 29 #[.pointer (some ⟨b, 0, none⟩), .agg #[.slice A1 n1 c1, .slice A2 n2 c2, .slice A3 n3 c3], .slice A4 n4 c4] w (AnsV (.iface 44 (.int .i64 7)) w) := by
  have t1 : decide ((nb A : Int) < 2) = true := by have := nb_two h3.pos; simp; omega
  have st := St3.new w A1 n1 c1 A2 n2 c2 A3 n3 c3
  have ba := below_al w (.cells #[.slice A1 n1 c1, .slice A2 n2 c2, .slice A3 n3 c3] 41)
  have h3' := h3.below ba
  have BA := Lib.hid ba
  clear ba
  go_enter Tryd.func29, Tryd.ntmps29
  go_wp2_with fail
  refine (bits_any h3').mono ?_
  rintro e w1 ⟨rfl, rfl⟩
  go_wp2
  go_ret
  exact ⟨rfl, BA.out⟩
set_option maxHeartbeats 1000000 in
theorem witness_great (md : Md w b P n A0 c0 low B cB S cS) (h1 : Nm w A1 n1 c1 P) (h3 : Nm w A3 n3 c3 A) (ha : 2 ≤ A) (hp : P ≤ A) :
    Calls Tryd.prog 29 #[.pointer (some ⟨b, 0, none⟩), .agg #[.slice A1 n1 c1, .slice A2 n2 c2, .slice A3 n3 c3], .slice A4 n4 c4] w (AnsV (.iface 44 (.int .i64 7)) w) := by
  have t1 : decide ((nb A : Int) < 2) = false := by have := nb_two h3.pos; simp; omega
  have t2 : decide (0 ≤ cmpI A P) = true := by
    simp
    rcases Int.lt_or_eq_of_le hp with g | g
    · rw [cmpI_gt g]; decide
    · rw [g, cmpI_eq]; decide
  have ba := below_al w (.cells #[.slice A1 n1 c1, .slice A2 n2 c2, .slice A3 n3 c3] 41)
  have h3' := h3.below ba
  have h1' := h1.below ba
  have BA := Lib.hid ba
  clear ba hp ha
  go_enter Tryd.func29, Tryd.ntmps29
  go_wp2_with fail
  refine (bits_any h3').mono ?_
  rintro e w1 ⟨rfl, rfl⟩
  go_wp2_with fail
  refine (cmp_v h3' h1').mono ?_
  rintro e w2 ⟨rfl, b2⟩
  have b12 := BA.out.trans (b2.mono BA.out.size)
  clear b2
  go_wp2
  go_ret
  exact ⟨rfl, b12⟩
set_option maxHeartbeats 2000000 in
theorem witness_mid (md : Md w b P n A0 c0 low B cB S cS) (h1 : Nm w A1 n1 c1 P) (h2 : Nm w A2 n2 c2 Q) (h3 : Nm w A3 n3 c3 A) (h4 : Nm w A4 n4 c4 K) (l2 : dl Q ≤ 64) (l3 : dl A ≤ 64) (l4 : dl K ≤ 64) (ha : 2 ≤ A) (hp : A < P) :
    Calls Tryd.prog 29 #[.pointer (some ⟨b, 0, none⟩), .agg #[.slice A1 n1 c1, .slice A2 n2 c2, .slice A3 n3 c3], .slice A4 n4 c4] w
      (fun e w' => (Wt P Q A K → AnsV .nilIface w e w') ∧ (¬ Wt P Q A K → AnsV (.iface 44 (.int .i64 7)) w e w')) := by
  have t1 : decide ((nb A : Int) < 2) = false := by have := nb_two h3.pos; simp; omega
  have t2 : decide (0 ≤ cmpI A P) = false := by simp; rw [cmpI_lt hp]; decide
  have st := St3.new w A1 n1 c1 A2 n2 c2 A3 n3 c3
  have ba := below_al w (.cells #[.slice A1 n1 c1, .slice A2 n2 c2, .slice A3 n3 c3] 41)
  have rx := md.rest (A ^ K.toNat)
  have h3' := h3.below ba
  have h1' := h1.below ba
  have BA := Lib.hid ba
  have HA := Lib.hid ha
  have HP := Lib.hid hp
  clear ba hp ha
  go_enter Tryd.func29, Tryd.ntmps29
  go_wp2_with fail
  refine (bits_any h3').mono ?_
  rintro e w1 ⟨rfl, rfl⟩
  go_wp2_with fail
  refine (cmp_v h3' h1').mono ?_
  rintro e w2 ⟨rfl, b2⟩
  have g2 := BA.out.trans (b2.mono BA.out.size)
  have st2 := st.below b2
  have q1 := st2.c1_
  have q2 := st2.c2_
  clear b2 st h3' h1' BA
  go_wp2_with fail
  refine (exp_any (md.below g2) (h3.below g2) (h4.below g2) l3 l4).mono ?_
  rintro e w3 ⟨B3, m3, d3, rfl, k3, b3, -⟩
  have st3 := st2.below b3
  have g3 := g2.trans (b3.mono g2.size)
  clear q1 q2 st2 g2 b3
  have q1 := st3.c1_
  go_wp2_with fail
  refine (exp_any (md.below g3) k3.nm (h2.below g3) rx.2.2.2 l2).mono ?_
  rintro e w4 ⟨B4, m4, d4, rfl, k4, b4, -⟩
  have st4 := st3.below b4
  have g4 := g3.trans (b4.mono g3.size)
  have k34 := k3.below b4
  clear q1 st3 g3 b4 k3
  have L1 := Lib.hid (lit_one w4 1 (by decide) (by decide))
  have k4' := k4.below (below_al w4 (.cells #[.int .u64 1] 22))
  by_cases hc : (A ^ K.toNat % P) ^ Q.toNat % P = 1
  · have t3 : ((cmpI ((A ^ K.toNat % P) ^ Q.toNat % P) 1 : Int) != 0) = false := by rw [hc, cmpI_eq]; rfl
    have HC := Lib.hid hc
    clear hc
    go_wp2_with fail
    refine (cmp_v k4'.nm L1.out).mono ?_
    rintro e w5 ⟨rfl, b5⟩
    have b45 := below_one b5
    have g5 := g4.trans (b45.mono g4.size)
    have k35 := k34.below b45
    clear b5 b45 g4 k4' L1 k34 st4 k4
    have L1 := Lib.hid (lit_one w5 1 (by decide) (by decide))
    have k36 := k35.below (below_al w5 (.cells #[.int .u64 1] 22))
    have md5 := (md.below g5).below (below_al w5 (.cells #[.int .u64 1] 22))
    have ry := md.rest (A ^ K.toNat % P - 1)
    go_wp2_with fail
    refine (msub_any md5 k36.nm L1.out rx.2.2.2 (dl_small (by decide) (by decide))).mono ?_
    rintro e w6 ⟨B6, m6, d6, rfl, k6, b6, -⟩
    have b56 := below_one b6
    have g6 := g5.trans (b56.mono g5.size)
    have md6 := md.below g6
    clear b6 b56 g5 k36 L1 k35 md5
    by_cases hg : Int.gcd P ((A ^ K.toNat % P - 1) % P % P) = 1
    · have HG := Lib.hid hg
      clear hg
      go_wp2_with fail
      refine (inverse_any md6 k6.nm ry.2.2.2 HG.out).mono ?_
      rintro e w7 ⟨U, -, -, -, B7, m7, d7, rfl, -, b7, -⟩
      have g7 := g6.trans (b7.mono g6.size)
      have G := Lib.hid g7
      clear g6 b7 md6 k6 g7 ry rx
      go_wp2
      go_ret
      refine ⟨fun _ => ⟨rfl, G.out⟩, fun hn => absurd ⟨HA.out, HP.out, HC.out, ?_⟩ hn⟩
      have := HG.out
      rwa [Int.emod_emod_of_dvd _ (Int.dvd_refl P)] at this
    · have HG := Lib.hid hg
      clear hg
      go_wp2_with fail
      refine (inverse_none md6 k6.nm ry.2.2.2 HG.out).mono ?_
      rintro e w7 ⟨rfl, b7⟩
      have g7 := g6.trans (b7.mono g6.size)
      have G := Lib.hid g7
      clear g6 b7 md6 k6 g7 ry rx
      go_wp2
      go_ret
      refine ⟨fun hw => absurd ?_ HG.out, fun _ => ⟨rfl, G.out⟩⟩
      rw [Int.emod_emod_of_dvd _ (Int.dvd_refl P)]
      exact hw.2.2.2
  · have t3 : ((cmpI ((A ^ K.toNat % P) ^ Q.toNat % P) 1 : Int) != 0) = true := by
      simp
      rcases Int.lt_or_gt_of_ne hc with g | g
      · rw [cmpI_lt g]; decide
      · rw [cmpI_gt g]; decide
    have HC := Lib.hid hc
    clear hc
    go_wp2_with fail
    refine (cmp_v k4'.nm L1.out).mono ?_
    rintro e w5 ⟨rfl, b5⟩
    have b45 := below_one b5
    have g5 := g4.trans (b45.mono g4.size)
    have G := Lib.hid g5
    clear b5 b45 g4 k4' L1 k34 st4 k4 g5 rx
    go_wp2
    go_ret
    exact ⟨fun hw => absurd hw.2.2.1 HC.out, fun _ => ⟨rfl, G.out⟩⟩
end
end Go.Proofs.YtbgnjbalojcgkaaDoor
