/-
  The document's layer 7: what Turn answers.
-/
import Derived.Test.YtpmnghealjgkeaaGreatR7t
import Derived.Test.YtpmnghealjgkeaaGreatL7z
namespace Go.Proofs.YtpmnghealjgkeaaGreat
open Go.RowKit
set_option linter.unusedVariables false
theorem info_pair : (Tryz.prog.info? 61).map (fun i => (i.zero, i.size, i.bytes)) = some (some (.agg #[.slice none 0 0, .slice none 0 0, .slice none 0 0]), 3, 72) := by kernel_rfl
/-- A letter of the document's, as it grows. -/
def DlR (T : Nat → Trp) (n : Nat) (w : World) (v i : Value) (wr : World) : Prop :=
  ∃ (j : Nat) (S' : Nat → Nsl), j ≤ n ∧ i = .int .i64 j ∧ Owc 61 3 wr w.heap.size v j S' ∧ (∀ p, p < j * 3 → (S' p).n = dl (S' p).N) ∧ (∀ p, p < j → Trp.of (stpS S' p) = T p) ∧ Below w.heap.size w wr
theorem DlR.next {T : Nat → Trp} {n j : Nat} {w : World} {S' : Nat → Nsl} {s : Stp} (hc : ∀ p, p < j * 3 → (S' p).n = dl (S' p).N) (hT : ∀ p, p < j → Trp.of (stpS S' p) = T p) (h1 : s.n1 = dl s.P) (h2 : s.n2 = dl s.Q) (h3 : s.n3 = dl s.A) (ht : Trp.of s = T j) :
    (∀ p, p < (j + 1) * 3 → (joinS S' (tri s) (j * 3) p).n = dl (joinS S' (tri s) (j * 3) p).N) ∧ ∀ p, p < j + 1 → Trp.of (stpS (joinS S' (tri s) (j * 3)) p) = T p := by
  constructor
  · intro p hp
    rcases Nat.lt_or_ge p (j * 3) with g | g
    · rw [joinS_lt g]; exact hc p g
    · obtain ⟨i, rfl⟩ : ∃ i, p = j * 3 + i := ⟨p - j * 3, by omega⟩
      rw [joinS_ge]
      rcases (show i = 0 ∨ i = 1 ∨ i = 2 by omega) with q | q | q <;> subst q
      · exact h1
      · exact h2
      · exact h3
  · intro p hp
    rcases Nat.lt_or_ge p j with g | g
    · rw [← hT p g]
      unfold stpS Trp.of
      rw [joinS_lt (by omega), joinS_lt (by omega), joinS_lt (by omega)]
    · obtain rfl : p = j := by omega
      rw [← ht]
      unfold stpS Trp.of
      have e0 : joinS S' (tri s) (p * 3) (p * 3) = tri s 0 := joinS_ge (S := S') (U := tri s) (m := p * 3) (i := 0)
      rw [e0, joinS_ge, joinS_ge]
      rfl
/-- At its end. -/
theorem DlR.det {T : Nat → Trp} {n : Nat} {w wr : World} {v : Value} {S' : Nat → Nsl} (ho : Owc 61 3 wr w.heap.size v n S') (h60 : n ≤ 17592186044416) (hc : ∀ p, p < n * 3 → (S' p).n = dl (S' p).N) (hT : ∀ p, p < n → Trp.of (stpS S' p) = T p) (hb : Below w.heap.size w wr) :
    ∃ A c, v = .slice A n c ∧ ∃ S, Ch wr A n c S ∧ CanL S n ∧ (∀ i, i < n → Trp.of (S i) = T i) ∧ Below w.heap.size w wr := by
  obtain ⟨A, c, rfl, -, hch⟩ := ho.ch h60
  exact ⟨A, c, rfl, stpS S', hch, fun i hi => ⟨hc (i * 3) (by omega), hc (i * 3 + 1) (by omega), hc (i * 3 + 2) (by omega)⟩, hT, hb⟩
theorem tri_nm {w : World} {o : Obj} (s : Stp) (h1 : Nm w s.A1 s.n1 s.c1 s.P) (h2 : Nm w s.A2 s.n2 s.c2 s.Q) (h3 : Nm w s.A3 s.n3 s.c3 s.A) : ∀ i, i < 1 * 3 → Nm (w.alloc o) (tri s i).A (tri s i).n (tri s i).c (tri s i).N := by
  intro i hi
  rcases (show i = 0 ∨ i = 1 ∨ i = 2 by omega) with q | q | q <;> subst q
  · exact h1.below (below_al _ _)
  · exact h2.below (below_al _ _)
  · exact h3.below (below_al _ _)
theorem tri_far {e : TypeId} {k : Nat} {w : World} {base : Nat} {v : Value} {n m : Nat} {S' : Nat → Nsl} (ho : Owc e k w base v n S') (hm : w.heap.size ≤ m) (s : Stp) (h1 : ∀ a, s.A1 = some a → m ≤ a.block) (h2 : ∀ a, s.A2 = some a → m ≤ a.block) (h3 : ∀ a, s.A3 = some a → m ≤ a.block) :
    ∀ i, i < 1 * 3 → ∀ a, (tri s i).A = some a → 0 < (tri s i).n → v.ownBlock ≠ some a.block := by
  intro i hi a ha _
  rcases (show i = 0 ∨ i = 1 ∨ i = 2 by omega) with q | q | q <;> subst q
  · exact ho.far (Nat.le_trans hm (h1 a ha))
  · exact ho.far (Nat.le_trans hm (h2 a ha))
  · exact ho.far (Nat.le_trans hm (h3 a ha))
set_option maxHeartbeats 16000000 in
set_option maxRecDepth 100000 in
theorem rturn7_any {w : World} {b k : Nat} {r : Rgd} {A : Option Addr} {n c : Nat} {S : Nat → Stp} (h : Rg7 w b r k) (hl : Ch w A n c S) (hL : ∀ i, i < n → LiS (S i)) :
    Calls Tryz.prog 28 #[.pointer (some ⟨b, 0, none⟩), .slice A n c] w (DetP (turnC r.P r.Q S n) (fun i => turnN (Trp.of (S i))) n w) := by
  have HR := Lib.hid h
  have HL := Lib.hid hl
  have HLI := Lib.hid hL
  have h60 := hl.c60
  clear h hl hL
  go_enter Tryz.func28, Tryz.ntmps28
  go_wp2_with fail
  refine (fits7_any n n h60 h60 w).mono ?_
  rintro e w1 ⟨⟨s1, rfl, hs1⟩, rfl⟩
  have S1 := Lib.hid hs1
  clear hs1
  cases s1
  · have E := Lib.hid (show turnC r.P r.Q S n = 1 from fitC_arg (fun g => by have := S1.out.2 g; cases this))
    go_wp2_with fail
    go_ret2
    exact .inr ⟨by rw [E.out]; decide, by rw [E.out]; rfl, Below.refl _ _⟩
  have FT := Lib.hid (show 1 ≤ n ∧ n ≤ 32 ∧ n = n from by have g := S1.out.1 rfl; exact ⟨g.1, g.2.1, rfl⟩)
  have FT1 := Lib.hid FT.out.1
  have FT2 := Lib.hid FT.out.2.1
  clear FT
  clear S1
  go_wp2_with fail
  refine (odd7_any HR.out HL.out HLI.out).mono ?_
  rintro e w2 ⟨⟨s2, rfl, hs2⟩, b2⟩
  have S2 := Lib.hid hs2
  have B2 := Lib.hid b2
  clear hs2 b2
  cases s2
  case true =>
    have E := Lib.hid (show turnC r.P r.Q S n = 8 from fitC_no ⟨FT1.out, FT2.out, rfl⟩ (fun g => g) (S2.out.1 rfl))
    go_wp2_with fail
    go_ret2
    exact .inr ⟨by rw [E.out]; decide, by rw [E.out]; rfl, B2.out⟩
  have EL := Lib.hid (show ElL r.P r.Q S n from Classical.byContradiction fun g => by have := S2.out.2 g; cases this)
  have E := Lib.hid (show turnC r.P r.Q S n = 0 from fitC_ok ⟨FT1.out, FT2.out, rfl⟩ (fun g => g) EL.out)
  clear S2
  have n32 : n ≤ 32 := FT2.out
  have HL2 := Lib.hid (HL.out.below B2.out)
  go_wp2_with fail
  obtain ⟨wb, rfl⟩ : ∃ wb, wb = w2 := ⟨_, rfl⟩
  go_loopw [7, 8] (fun v i wr => DlR (fun i => turnN (Trp.of (S i))) n wb v i wr) (fun _ i _ => n - (intOf i).toNat)
  case atStart => exact ⟨0, fun _ => ⟨none, 0, 0, 0⟩, Nat.zero_le _, rfl, Owc.nil _ _ _ _ _, fun p hp => absurd hp (by omega), fun p hp => absurd hp (Nat.not_lt_zero p), Below.refl _ _⟩
  case round =>
    obtain ⟨j, S', hj, rfl, hown, hcn, hT, hbl⟩ := hrel
    have HO := Lib.hid hown
    have HC := Lib.hid hcn
    have HT := Lib.hid hT
    have HBL := Lib.hid hbl
    clear hown hcn hT hbl
    rcases Nat.lt_or_ge j n with hlt | hge
    · --<L
      have hkn : (j : Int) < (n : Int) := by omega
      obtain ⟨b0, off, eA, hb0, hcell⟩ := (HL2.out.below HBL.out).ex (by omega)
      subst eA
      obtain ⟨-, x1, x2⟩ := hcell j hlt
      obtain ⟨-, p2, p3⟩ := (HL2.out.below HBL.out).at_ j hlt
      obtain ⟨-, l2, l3⟩ := HLI.out j hlt
      obtain ⟨s, hs⟩ : ∃ s, S j = s := ⟨_, rfl⟩
      have HSJ := Lib.hid hs
      rw [hs] at x1 x2 p2 p3 l2 l3
      obtain ⟨A1, n1, c1, A2, n2, c2, A3, n3, c3, X1, X2, X3⟩ := s
      simp only at x1 x2 p2 p3 l2 l3
      have m2 : n2 ≤ 1000 := by have := l2.1; omega
      have m3 : n3 ≤ 1000 := by have := l3.1; omega
      have D2 := Lib.hid (li_dr l2 p2)
      have D3 := Lib.hid (li_dr l3 p3)
      have bd := below_dr wr
      have P2 := Lib.hid (p2.below bd)
      have P3 := Lib.hid (p3.below bd)
      have y1 : wr.drew.cell? ⟨b0, off + j * 3 + 1, none⟩ = some (.slice A2 n2 c2) := x1
      have y2 : wr.drew.cell? ⟨b0, off + j * 3 + 2, none⟩ = some (.slice A3 n3 c3) := x2
      have LB := Lib.hid (show b0 < wr.drew.heap.size from hb0)
      have O0 := Lib.hid (HO.out.below bd)
      have G0 := Lib.hid (HBL.out.trans (bd.mono HBL.out.size))
      have z0 := Lib.hid (show wr.heap.size ≤ wr.drew.heap.size from Nat.le_refl _)
      clear hcell p2 p3 l2 l3 hs bd x1 x2
      go_wp2_with fail
      go_region_law (first
        | (go_simp; go_at_call 51; first
          | ((with_reducible refine (of_nm7 P2a.out m2).mono ?_); rintro e v2 ⟨B2', d2, e2, rfl, k2, b2, -⟩; have K2 := Lib.hid k2; have K3b := Lib.hid (K3.out.below b2); have O2 := Lib.hid (O1.out.below b2); have G2 := Lib.hid (G1.out.trans (b2.mono G1.out.size)); have z2 := Lib.hid (Nat.le_trans z1.out b2.size); clear k2 b2)
          | ((with_reducible refine (of_nm7 P3.out m3).mono ?_); rintro e v1 ⟨B1', d1, e1, rfl, k1, b1, -⟩; have t1 := (b1.cell (p := ⟨b0, off + j * 3 + 1, none⟩) LB.out).trans y1; have K3 := Lib.hid k1; have P2a := Lib.hid (P2.out.below b1); have O1 := Lib.hid (O0.out.below b1); have G1 := Lib.hid (G0.out.trans (b1.mono G0.out.size)); have z1 := Lib.hid (Nat.le_trans z0.out b1.size); clear k1 b1))
        | (go_simp; go_at_call 56; (with_reducible refine (rone_any _).mono ?_); rintro e v3 ⟨B3', d3, e3, rfl, k3, b3⟩; have K1c := Lib.hid k3; have K2c := Lib.hid (K2.out.below b3); have K3c := Lib.hid (K3b.out.below b3); have O3 := Lib.hid (O2.out.below b3); have G3 := Lib.hid (G2.out.trans (b3.mono G2.out.size)); have z3 := Lib.hid (Nat.le_trans z2.out b3.size); have q1 : d3 ≤ 100000 := (by have h1 := k3.len_; have h2 : dr 1 = 1 := (by unfold dr; rw [dgD_one (by decide) (by decide)]; rfl); omega); have q2 : d2 ≤ 100000 := (by have h1 := K2.out.len_; have h2 := D2.out; omega); have q3 : d1 ≤ 100000 := (by have h1 := K3b.out.len_; have h2 := D3.out; omega); clear k3 b3)
        | (go_simp; go_at_call 53; (with_reducible refine (told7_any K3c.out K2c.out K1c.out q3 q2 q1).mono ?_); rintro e v4 ⟨⟨C1, f1, g1, C2, f2, g2, C3, f3, g3, i1, i2, i3⟩, rfl, t4, t5, t6, w4, w5, w6, b4⟩; have T4 := Lib.hid t4; have T5 := Lib.hid t5; have T6 := Lib.hid t6; have W4 := Lib.hid w4; have W5 := Lib.hid w5; have W6 := Lib.hid w6; have O4 := Lib.hid (O3.out.below b4); have G4 := Lib.hid (G3.out.trans (b4.mono G3.out.size)); have z4 := Lib.hid (Nat.le_trans z3.out b4.size); have U1 := Lib.hid (tri_cell v4 61 ⟨C1, f1, g1, C2, f2, g2, C3, f3, g3, X3, X2, 1⟩); have U2 := Lib.hid (tri_nm (w := v4) (o := .cells #[.slice C1 f1 g1, .slice C2 f2 g2, .slice C3 f3 g3] 61) ⟨C1, f1, g1, C2, f2, g2, C3, f3, g3, X3, X2, 1⟩ t4.nm t5.nm t6.nm); have U3 := Lib.hid (tri_far HO.out z3.out ⟨C1, f1, g1, C2, f2, g2, C3, f3, g3, X3, X2, 1⟩ w4 w5 w6); have O5 := Lib.hid (O4.out.below (below_al v4 (.cells #[.slice C1 f1 g1, .slice C2 f2 g2, .slice C3 f3 g3] 61))); have hb5 : wb.heap.size ≤ (v4.alloc (.cells #[.slice C1 f1 g1, .slice C2 f2 g2, .slice C3 f3 g3] 61)).heap.size := (Nat.le_trans HBL.out.size (Nat.le_trans z4.out (by simp))); clear t4 t5 t6 w4 w5 w6 b4)
        | (refine step_owc rfl (.tmp 25) (.tmp 41) 25 rfl wb.heap.size 61 3 72 (.agg #[.slice none 0 0, .slice none 0 0, .slice none 0 0]) Tryz.underlying25 info_pair rfl (by decide) u7 j 1 1 S' (tri ⟨C1, f1, g1, C2, f2, g2, C3, f3, g3, X3, X2, 1⟩) rfl O5.out v4.heap.size rfl U1.out U2.out U3.out (by decide) (by unfold maxLen; omega) (by omega) hb5 ?_; intro vz wz hownz hgz; have HOZ := Lib.hid hownz; have HGZ := Lib.hid hgz; clear hownz hgz))
      all_goals
        have G5 := Lib.hid ((G4.out.trans ((below_al v4 (.cells #[.slice C1 f1 g1, .slice C2 f2 g2, .slice C3 f3 g3] 61)).mono G4.out.size)).grown HGZ.out hb5 (fun b e => (HO.out.lt e).1))
        have NX := Lib.hid (DlR.next (w := wb) (n := n) (T := fun i => turnN (Trp.of (S i))) (s := ⟨C1, f1, g1, C2, f2, g2, C3, f3, g3, X3, X2, 1⟩) HC.out HT.out T4.out.len_ T5.out.len_ T6.out.len_ (by show _ = turnN (Trp.of (S j)); rw [HSJ.out]; rfl))
        clear hb5 q1 q2 q3
        go_wp2_with fail
        go_roundw
        case rel => exact ⟨j + 1, _, by omega, by go_num, HOZ.out, NX.out.1, NX.out.2, G5.out⟩
        case measure => simp [intOf]; omega
      --L>
    · obtain rfl : j = n := by omega
      have hkn : decide ((j : Int) < (j : Int)) = false := by simp
      obtain ⟨A1, c1, rfl, S1, f1, f2, f3, f4⟩ := DlR.det HO.out h60 HC.out HT.out HBL.out
      have F1 := Lib.hid f1
      have F2 := Lib.hid f2
      have F3 := Lib.hid f3
      have F4 := Lib.hid (B2.out.trans (f4.mono B2.out.size))
      clear f1 f2 f3 f4
      go_wp2_with fail
      go_ret2
      exact .inl ⟨E.out, A1, c1, S1, rfl, F1.out, F2.out, F3.out, F4.out⟩
end Go.Proofs.YtpmnghealjgkeaaGreat
