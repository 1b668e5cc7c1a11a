/-
  The helpers of layer 7's laws that compare with the document: few, light, pairs.
-/
import Derived.Test.YtpmnghealjgkeaaGreatR7b
import Derived.Test.YtpmnghealjgkeaaGreatMxx
import Derived.Deep.RegionLaw
namespace Go.Proofs.YtpmnghealjgkeaaGreat
open Go.RowKit
set_option linter.unusedVariables false
theorem few7_any (n : Nat) (hn : n ≤ 17592186044416) (w : World) : Calls Tryz.prog 13 #[.int .i64 (n : Int)] w fun e w' => (∃ s : Bool, e = .returned (.bool s) ∧ (s = true ↔ (n ≤ 6 ∨ 32 < n))) ∧ w = w' := by
  rcases Nat.lt_or_ge 6 n with g | g
  · have e1 : decide ((n : Int) ≤ 6) = false := by simp; omega
    rcases Nat.lt_or_ge 32 n with g2 | g2
    · have e2 : decide ((32 : Int) < (n : Int)) = true := by simp; omega
      go_enter Tryz.func13, Tryz.ntmps13
      go_wp2_with fail
      go_ret
      exact ⟨⟨true, rfl, fun _ => (by omega), fun _ => rfl⟩, rfl⟩
    · have e2 : decide ((32 : Int) < (n : Int)) = false := by simp; omega
      go_enter Tryz.func13, Tryz.ntmps13
      go_wp2_with fail
      go_ret
      exact ⟨⟨false, rfl, fun h => (by cases h), fun h => (by omega)⟩, rfl⟩
  · have e1 : decide ((n : Int) ≤ 6) = true := by simp; omega
    go_enter Tryz.func13, Tryz.ntmps13
    go_wp2_with fail
    go_ret
    exact ⟨⟨true, rfl, fun _ => (by omega), fun _ => rfl⟩, rfl⟩
/-- Numbers that the document's way bears. -/
def LiN (S : Nat → Nsl) (n : Nat) : Prop := ∀ i, i < n → Li (S i).n (S i).N
def LtR (S : Nat → Nsl) (n : Nat) (w : World) (i : Value) (wr : World) : Prop := ∃ k : Nat, k ≤ n ∧ i = .int .i64 k ∧ (∀ j, j < k → Li (S j).n (S j).N) ∧ w = wr
set_option maxHeartbeats 4000000 in
theorem light7_any {w : World} {A : Option Addr} {n c : Nat} {S : Nat → Nsl} (hl : Ns w A n c S) : Calls Tryz.prog 14 #[.slice A n c] w fun e w' => (∃ s : Bool, e = .returned (.bool s) ∧ (s = true ↔ LiN S n)) ∧ w = w' := by
  have HL := Lib.hid hl
  have h60 := hl.c60
  clear hl
  go_enter Tryz.func14, Tryz.ntmps14
  go_wp2_with fail
  go_loopw [3] (fun i wr => LtR S n w i wr) (fun i _ => n - (intOf i).toNat)
  case atStart => exact ⟨0, Nat.zero_le _, rfl, fun j h => absurd h (Nat.not_lt_zero j), rfl⟩
  case round =>
    obtain ⟨k, hk, rfl, hz, rfl⟩ := hrel
    have HZ := Lib.hid hz
    clear hz
    rcases Nat.lt_or_ge k n with hlt | hge
    · have hkn : (k : Int) < (n : Int) := by omega
      obtain ⟨b, off, eA, hb, hc⟩ := HL.out.ex (by omega)
      subst eA
      have hck := hc k hlt
      have HN := Lib.hid (HL.out.at_ k hlt)
      have h6 := (HL.out.at_ k hlt).c60
      obtain ⟨s, hs⟩ : ∃ s, S k = s := ⟨_, rfl⟩
      have HSK := Lib.hid hs
      rw [hs] at hck HN h6
      obtain ⟨Aj, nj, cj, Nj⟩ := s
      simp only at hck HN h6
      obtain ⟨q, hq⟩ : ∃ q, dl Nj = q := ⟨_, rfl⟩
      have HQ := Lib.hid hq
      have q6 : q ≤ 17592186044416 := by have := HN.out.dl_le; omega
      clear hc hs hq
      have no : ¬ Li nj Nj → ¬ LiN S n := fun g e => by have h := e k hlt; rw [HSK.out] at h; exact g h
      have NO := Lib.hid no
      clear no
      go_wp2_with fail
      refine (Limbs_nm HN.out).mono ?_
      rintro e w1 ⟨rfl, rfl⟩
      rw [HQ.out]
      rcases Nat.lt_or_ge 300 nj with g | g
      · have e1 : decide ((300 : Int) < (nj : Int)) = true := by simp; omega
        go_wp2_with fail
        go_ret
        exact ⟨⟨false, rfl, fun h => (by cases h), fun h => absurd h (NO.out fun l => by have := l.1; omega)⟩, rfl⟩
      have e1 : decide ((300 : Int) < (nj : Int)) = false := by simp; omega
      rcases Nat.lt_or_ge 6 q with g2 | g2
      · have e2 : decide ((6 : Int) < (q : Int)) = true := by simp; omega
        rcases Nat.lt_or_ge 64 q with g3 | g3
        · have e3 : decide ((q : Int) ≤ 64) = false := by simp; omega
          go_wp2_with fail
          go_roundw
          case rel =>
            refine ⟨k + 1, by omega, by go_num, fun j hj => ?_, rfl⟩
            rcases Nat.lt_or_ge j k with p | p
            · exact HZ.out j p
            · obtain rfl : j = k := by omega
              rw [HSK.out]
              exact ⟨g, .inr (by rw [HQ.out]; exact g3)⟩
          case measure => simp [intOf]; omega
        · have e3 : decide ((q : Int) ≤ 64) = true := by simp; omega
          go_wp2_with fail
          go_ret
          exact ⟨⟨false, rfl, fun h => (by cases h), fun h => absurd h (NO.out fun l => by have := l.2; rw [HQ.out] at this; omega)⟩, rfl⟩
      · have e2 : decide ((6 : Int) < (q : Int)) = false := by simp; omega
        go_wp2_with fail
        go_roundw
        case rel =>
          refine ⟨k + 1, by omega, by go_num, fun j hj => ?_, rfl⟩
          rcases Nat.lt_or_ge j k with p | p
          · exact HZ.out j p
          · obtain rfl : j = k := by omega
            rw [HSK.out]
            exact ⟨g, .inl (by rw [HQ.out]; exact g2)⟩
        case measure => simp [intOf]; omega
    · obtain rfl : k = n := by omega
      have hkn : decide ((k : Int) < (k : Int)) = false := by simp
      go_wp2_with fail
      go_ret
      exact ⟨⟨true, rfl, fun _ => HZ.out, fun _ => rfl⟩, rfl⟩
/-! ### pairs -/
theorem info_nat24z : (Tryz.prog.info? 23).map (fun i => (i.zero, i.size, i.bytes)) = some (some (.slice none 0 0), 1, 24) := by kernel_rfl
/-- The three slices of a pair. -/
def tri (s : Stp) : Nat → Nsl := fun i => if i = 0 then ⟨s.A1, s.n1, s.c1, s.P⟩ else if i = 1 then ⟨s.A2, s.n2, s.c2, s.Q⟩ else ⟨s.A3, s.n3, s.c3, s.A⟩
theorem tri_cell (W : World) (t : TypeId) (s : Stp) : ∀ i, i < 3 * 1 → (W.alloc (.cells #[.slice s.A1 s.n1 s.c1, .slice s.A2 s.n2 s.c2, .slice s.A3 s.n3 s.c3] t)).cell? ⟨W.heap.size, i, none⟩ = some (.slice (tri s i).A (tri s i).n (tri s i).c) := by
  intro i hi
  rcases (show i = 0 ∨ i = 1 ∨ i = 2 by omega) with q | q | q <;> subst q <;> simp [World.cell?_alloc_at, tri]
def PrsR (S : Nat → Stp) (n : Nat) (w : World) (v i : Value) (wr : World) : Prop :=
  ∃ (k : Nat) (S' : Nat → Nsl), k ≤ n ∧ i = .int .i64 k ∧ Owc 23 1 wr w.heap.size v (k * 3) S' ∧ (∀ j, j < k → ∀ m, m < 3 → S' (j * 3 + m) = tri (S j) m) ∧ Below w.heap.size w wr
/-- What pairs answers. -/
def PrsP (S : Nat → Stp) (n : Nat) (w : World) (e : Ending) (w' : World) : Prop :=
  ∃ A c S', e = .returned (.slice A (n * 3) c) ∧ Ns w' A (n * 3) c S' ∧ (∀ j, j < n → ∀ m, m < 3 → S' (j * 3 + m) = tri (S j) m) ∧ Below w.heap.size w w'
theorem pairs_lis {S : Nat → Stp} {S' : Nat → Nsl} {n : Nat} (h : ∀ j, j < n → ∀ m, m < 3 → S' (j * 3 + m) = tri (S j) m) : LiN S' (n * 3) ↔ ∀ i, i < n → LiS (S i) := by
  constructor
  · intro g i hi
    have h0 := g (i * 3 + 0) (by omega)
    have h1 := g (i * 3 + 1) (by omega)
    have h2 := g (i * 3 + 2) (by omega)
    rw [h i hi 0 (by omega)] at h0
    rw [h i hi 1 (by omega)] at h1
    rw [h i hi 2 (by omega)] at h2
    exact ⟨h0, h1, h2⟩
  · intro g i hi
    have hj : i / 3 < n := by omega
    have hs := g (i / 3) hj
    have e := h (i / 3) hj (i % 3) (by omega)
    rw [show i / 3 * 3 + i % 3 = i by omega] at e
    rw [e]
    rcases (show i % 3 = 0 ∨ i % 3 = 1 ∨ i % 3 = 2 by omega) with q | q | q <;> rw [q]
    · exact hs.1
    · exact hs.2.1
    · exact hs.2.2
set_option maxHeartbeats 8000000 in
set_option maxRecDepth 100000 in
theorem pairs7_any {w : World} {A : Option Addr} {n c : Nat} {S : Nat → Stp} (hl : Ch w A n c S) (h72 : n * 72 ≤ 140737488355328) :
    Calls Tryz.prog 15 #[.slice A n c] w (PrsP S n w) := by
  have HL := Lib.hid hl
  clear hl
  go_enter Tryz.func15, Tryz.ntmps15
  go_wp2_with fail
  go_loopw [3, 4] (fun v i wr => PrsR S n w v i wr) (fun _ i _ => n - (intOf i).toNat)
  case atStart => exact ⟨0, fun _ => ⟨none, 0, 0, 0⟩, Nat.zero_le _, rfl, by rw [Nat.zero_mul]; exact Owc.nil _ _ _ _ _, fun j h => absurd h (Nat.not_lt_zero j), Below.refl _ _⟩
  case round =>
    obtain ⟨k, S', hk, rfl, hown, hS, hbl⟩ := hrel
    have HO := Lib.hid hown
    have HS := Lib.hid hS
    have HBL := Lib.hid hbl
    clear hown hS hbl
    have h72' := h72
    rcases Nat.lt_or_ge k n with hlt | hge
    · have hkn : (k : Int) < (n : Int) := by omega
      obtain ⟨b0, off, eA, hb0, hcell⟩ := (HL.out.below HBL.out).ex (by omega)
      subst eA
      obtain ⟨x0, x1, x2⟩ := hcell k hlt
      obtain ⟨p1, p2, p3⟩ := (HL.out.below HBL.out).at_ k hlt
      obtain ⟨r1, r2, r3⟩ := HL.out.at_ k hlt
      obtain ⟨s, hs⟩ : ∃ s, S k = s := ⟨_, rfl⟩
      have HSK := Lib.hid hs
      rw [hs] at x0 x1 x2 p1 p2 p3 r1 r2 r3
      obtain ⟨A1, n1, c1, A2, n2, c2, A3, n3, c3, X1, X2, X3⟩ := s
      simp only at x0 x1 x2 p1 p2 p3 r1 r2 r3
      have s0 := HBL.out.size
      have bd := (below_dr wr).trans ((below_al wr.drew (.cells #[.slice A1 n1 c1, .slice A2 n2 c2, .slice A3 n3 c3] 23)).mono (below_dr wr).size)
      have U1 := Lib.hid (show ∀ i, i < 3 * 1 → (wr.drew.alloc (.cells #[.slice A1 n1 c1, .slice A2 n2 c2, .slice A3 n3 c3] 23)).cell? ⟨wr.heap.size, i, none⟩ = some (.slice (tri (S k) i).A (tri (S k) i).n (tri (S k) i).c) from fun i hi => by
        rw [HSK.out]; exact tri_cell wr.drew 23 ⟨A1, n1, c1, A2, n2, c2, A3, n3, c3, X1, X2, X3⟩ i hi)
      have U2 := Lib.hid (show ∀ i, i < 3 * 1 → Nm (wr.drew.alloc (.cells #[.slice A1 n1 c1, .slice A2 n2 c2, .slice A3 n3 c3] 23)) (tri (S k) i).A (tri (S k) i).n (tri (S k) i).c (tri (S k) i).N from fun i hi => by
        rw [HSK.out]
        rcases (show i = 0 ∨ i = 1 ∨ i = 2 by omega) with q | q | q <;> subst q
        · exact p1.below bd
        · exact p2.below bd
        · exact p3.below bd)
      have U3 := Lib.hid (show ∀ i, i < 3 * 1 → ∀ a, (tri (S k) i).A = some a → 0 < (tri (S k) i).n → u3.ownBlock ≠ some a.block from fun i hi a ha h0 => by
        rw [HSK.out] at ha h0
        rcases (show i = 0 ∨ i = 1 ∨ i = 2 by omega) with q | q | q <;> subst q
        · exact HO.out.old (r1.blk h0 a ha)
        · exact HO.out.old (r2.blk h0 a ha)
        · exact HO.out.old (r3.blk h0 a ha))
      have O1 := Lib.hid (HO.out.below bd)
      clear hcell p1 p2 p3 r1 r2 r3 hs
      go_wp2_with fail
      go_region_law (refine step_owc rfl (.tmp 11) (.tmp 27) 24 rfl w.heap.size 23 1 24 (.slice none 0 0) Tryz.underlying24 info_nat24z rfl (by decide) u3 (k * 3) 3 3 S' (tri (S k)) rfl O1.out wr.heap.size rfl U1.out U2.out U3.out (by decide) (by unfold maxLen; omega) (by omega) (by simp; omega) ?_; intro v5 w5 hown5 hg5; have HO5 := Lib.hid hown5; have HG5 := Lib.hid hg5; clear hown5 hg5)
      all_goals
        have hb5 : Below w.heap.size w w5 := (HBL.out.trans (bd.mono s0)).grown HG5.out (by simp; omega) (fun b e => (HO.out.lt e).1)
        have HB5 := Lib.hid hb5
        clear hb5
        go_wp2_with fail
        go_roundw
        case rel =>
          refine ⟨k + 1, _, by omega, by go_num, by rw [show (k + 1) * 3 = k * 3 + 3 by omega]; exact HO5.out, fun j hj m hm => ?_, HB5.out⟩
          rcases Nat.lt_or_ge j k with g | g
          · rw [joinS_lt (by omega)]; exact HS.out j g m hm
          · obtain rfl : j = k := by omega
            rw [Nat.mul_one, joinS_ge]
        case measure => simp [intOf]; omega
    · obtain rfl : k = n := by omega
      have hkn : decide ((k : Int) < (k : Int)) = false := by simp
      obtain ⟨A1, c1, rfl, -, hns⟩ := HO.out.ns (by omega)
      have HNS := Lib.hid hns
      clear hns
      go_wp2_with fail
      go_ret
      exact ⟨A1, c1, S', rfl, HNS.out, HS.out, HBL.out⟩
end Go.Proofs.YtpmnghealjgkeaaGreat
