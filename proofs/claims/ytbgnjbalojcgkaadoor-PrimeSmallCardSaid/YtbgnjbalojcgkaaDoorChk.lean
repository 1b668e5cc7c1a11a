/-
  What Check answers: the first step at fault, as a Spot; or the number that is proved.
-/
import Derived.Test.YtbgnjbalojcgkaaDoorNext
import Derived.Test.YtbgnjbalojcgkaaDoorSpot
namespace Go.Proofs.YtbgnjbalojcgkaaDoor
open Go.RowKit
set_option linter.unusedVariables false
/-- A step as a chain has it: three slices and their numbers. -/
structure Stp where
  A1 : Option Addr
  n1 : Nat
  c1 : Nat
  A2 : Option Addr
  n2 : Nat
  c2 : Nat
  A3 : Option Addr
  n3 : Nat
  c3 : Nat
  P : Int
  Q : Int
  A : Int
/-- A step's numbers, in memory. -/
structure Stp.At (w : World) (s : Stp) : Prop where
  p : Nm w s.A1 s.n1 s.c1 s.P
  q : Nm w s.A2 s.n2 s.c2 s.Q
  a : Nm w s.A3 s.n3 s.c3 s.A
theorem Stp.At.below {w w' : World} {s : Stp} (h : s.At w) (hb : Below w.heap.size w w') : s.At w' := ⟨h.p.below hb, h.q.below hb, h.a.below hb⟩
/-- The three cells of step i behind ⟨b, off⟩. -/
structure Cells (w : World) (b off : Nat) (s : Stp) : Prop where
  c0 : w.cell? ⟨b, off, none⟩ = some (.slice s.A1 s.n1 s.c1)
  c1 : w.cell? ⟨b, off + 1, none⟩ = some (.slice s.A2 s.n2 s.c2)
  c2 : w.cell? ⟨b, off + 2, none⟩ = some (.slice s.A3 s.n3 s.c3)
/-- A chain of steps in memory. -/
structure Ch (w : World) (a : Option Addr) (n c : Nat) (S : Nat → Stp) : Prop where
  nc : n ≤ c
  c60 : n ≤ 17592186044416
  ex : 0 < n → ∃ b off, a = some ⟨b, off, none⟩ ∧ b < w.heap.size ∧ ∀ i, i < n → Cells w b (off + i * 3) (S i)
  at_ : ∀ i, i < n → (S i).At w
theorem Ch.below {w w' : World} {a : Option Addr} {n c : Nat} {S : Nat → Stp} (h : Ch w a n c S) (hb : Below w.heap.size w w') : Ch w' a n c S :=
  ⟨h.nc, h.c60, fun hn => by
    obtain ⟨b, off, e, hl, hc⟩ := h.ex hn
    exact ⟨b, off, e, Nat.lt_of_lt_of_le hl hb.size, fun i hi => ⟨(hb.cell (p := ⟨b, _, none⟩) hl).trans (hc i hi).c0, (hb.cell (p := ⟨b, _, none⟩) hl).trans (hc i hi).c1, (hb.cell (p := ⟨b, _, none⟩) hl).trans (hc i hi).c2⟩⟩, fun i hi => (h.at_ i hi).below hb⟩
/-- What is amiss with step i of a chain. -/
noncomputable def bdS (S : Nat → Stp) (n i : Nat) : Int := bd (fun j => (S j).P) (fun j => (S j).Q) (fun j => (S j).A) n i
noncomputable def scS (s : Stp) : Int := sc s.P s.Q s.A
/-- A Spot was answered. -/
def SpotP (k : Nat) (c : Int) (w : World) (e : Ending) (w' : World) : Prop :=
  ∃ b, e = .returned (.tuple #[.slice none 0 0, .iface 47 (.pointer (some ⟨b, 0, none⟩))]) ∧ Sp w' b k c ∧ Below w.heap.size w w'
theorem step_good {w : World} {s : Stp} (h : s.At w) (hs : scS s = 0) :
    Calls Tryd.prog 15 #[.agg #[.slice s.A1 s.n1 s.c1, .slice s.A2 s.n2 s.c2, .slice s.A3 s.n3 s.c3]] w (AnsV .nilIface w) := by
  have := step_any h.p h.q h.a
  rw [show sc s.P s.Q s.A = 0 from hs, erv_zero] at this
  exact this
theorem step_code {w : World} {s : Stp} {c : Int} (h : s.At w) (hs : scS s = c) (hc : c ≠ 0) :
    Calls Tryd.prog 15 #[.agg #[.slice s.A1 s.n1 s.c1, .slice s.A2 s.n2 s.c2, .slice s.A3 s.n3 s.c3]] w (AnsV (.iface 44 (.int .i64 c)) w) := by
  have := step_any h.p h.q h.a
  rw [show sc s.P s.Q s.A = c from hs, erv_code hc] at this
  exact this
def ChkR (S : Nat → Stp) (n : Nat) (w : World) (i : Value) (wr : World) : Prop := ∃ k : Nat, k ≤ n ∧ i = .int .i64 k ∧ (∀ j, j < k → bdS S n j = 0) ∧ Below w.heap.size w wr
/-- What Check answers of a chain of 1 to 64 steps. -/
def ChkP (S : Nat → Stp) (n : Nat) (w : World) (e : Ending) (w' : World) : Prop :=
  ((∀ i, i < n → bdS S n i = 0) ∧ Ans (S 0).P w e w') ∨ ∃ k c, k < n ∧ (∀ j, j < k → bdS S n j = 0) ∧ bdS S n k = c ∧ c ≠ 0 ∧ SpotP k c w e w'
theorem chk_arg {w : World} {a : Option Addr} {n c : Nat} (hn : n = 0 ∨ 64 < n) (h1 : n ≤ 9223372036854775807) :
    Calls Tryd.prog 9 #[.slice a n c] w (Err1 1 w) := by
  rcases hn with rfl | hn
  · go_enter Tryd.func9, Tryd.ntmps9
    go_wp2
    go_ret2
    exact ⟨rfl, Below.refl _ _⟩
  · have t1 : ((n : Int) == 0) = false := by simp; omega
    have t2 : (n == 0) = false := by simp; omega
    have t3 : decide ((64 : Int) < (n : Int)) = true := by simp; omega
    go_enter Tryd.func9, Tryd.ntmps9
    go_wp2
    go_ret2
    exact ⟨rfl, Below.refl _ _⟩
set_option maxHeartbeats 4000000 in
theorem chk_any {w : World} {b off n c : Nat} {S : Nat → Stp} (h : Ch w (some ⟨b, off, none⟩) n c S) (h1 : 1 ≤ n) (h2 : n ≤ 64) :
    Calls Tryd.prog 9 #[.slice (some ⟨b, off, none⟩) n c] w (ChkP S n w) := by
  have t1 : ((n : Int) == 0) = false := by simp; omega
  have t2 : (n == 0) = false := by simp; omega
  have hnc := h.nc
  obtain ⟨b', off', hbo, hb0, hcl⟩ := h.ex (by omega)
  simp only [Option.some.injEq, Addr.mk.injEq, and_true] at hbo
  obtain ⟨rfl, rfl⟩ := hbo
  have HC := Lib.hid hcl
  clear hcl
  go_enter Tryd.func9, Tryd.ntmps9
  go_wp2_with fail
  go_loopw [18] (fun i wr => ChkR S n w i wr) (fun i _ => n - (intOf i).toNat)
  case atStart => exact ⟨0, Nat.zero_le _, rfl, fun j h => absurd h (by omega), Below.refl _ _⟩
  case round =>
    obtain ⟨k, hk, rfl, hz, hb⟩ := hrel
    have HZ := Lib.hid hz
    clear hz
    have hr := h.below hb
    rcases Nat.lt_or_ge k n with hlt | hge
    · have cells := hr.ex (by omega)
      obtain ⟨b', off', hbo, hb1, hcl⟩ := cells
      simp only [Option.some.injEq, Addr.mk.injEq, and_true] at hbo
      obtain ⟨rfl, rfl⟩ := hbo
      have q0 := (hcl k hlt).c0
      have q1 := (hcl k hlt).c1
      have q2 := (hcl k hlt).c2
      have HC1 := Lib.hid hcl
      have sa := hr.at_ k hlt
      clear hcl
      have hkk : (k : Int) < 64 := by omega
      by_cases hs : scS (S k) = 0
      · have HS := Lib.hid hs
        clear hs
        have st := St3.new wr (S k).A1 (S k).n1 (S k).c1 (S k).A2 (S k).n2 (S k).c2 (S k).A3 (S k).n3 (S k).c3
        have ba := below_al wr (.cells #[.slice (S k).A1 (S k).n1 (S k).c1, .slice (S k).A2 (S k).n2 (S k).c2, .slice (S k).A3 (S k).n3 (S k).c3] 41)
        go_wp2_with fail
        refine (step_good (sa.below ba) HS.out).mono ?_
        rintro e w2 ⟨rfl, b2⟩
        have g2 := ba.trans (b2.mono ba.size)
        have gb := hb.trans (g2.mono hb.size)
        have st2 := st.below b2
        have r1 := st2.c1_
        have bd2 := below_dr w2
        have sa2 := (sa.below g2).below bd2
        have hr2 := (hr.below g2).below bd2
        have GB := Lib.hid gb
        have gd := gb.trans (bd2.mono gb.size)
        have GD := Lib.hid gd
        have hw : IntKind.i64.wrap ((k : Int) + 1) = (k : Int) + 1 := IntWalk.i64_in _ (by omega)
        have hle1 : (k : Int) + 1 ≤ (n : Int) := by omega
        have hle2 : (0 : Int) ≤ (k : Int) + 1 := by omega
        have hle3 : (n : Int) ≤ (c : Int) := by omega
        have hle4 : k + 1 ≤ n := hlt
        have hle5 : ((k : Int) + 1).toNat = k + 1 := by omega
        clear ba b2 st gb q0 q1 q2 bd2 gd
        rcases Nat.lt_or_ge (k + 1) n with hm | hm
        · have cells := hr2.ex (by omega)
          obtain ⟨b', off', hbo, hb2, hcl⟩ := cells
          simp only [Option.some.injEq, Addr.mk.injEq, and_true] at hbo
          obtain ⟨rfl, rfl⟩ := hbo
          have q0 := (hcl (k + 1) hm).c0
          have sn := hr2.at_ (k + 1) hm
          have hcne : ¬ c = k + 1 := by omega
          have hpos : 0 < n - (k + 1) := by omega
          clear hcl
          by_cases hq : (S k).Q = (S (k + 1)).P
          · have HBD : bdS S n k = 0 := bd_next (P := fun j => (S j).P) (Q := fun j => (S j).Q) (A := fun j => (S j).A) HS.out hm hq
            have HB := Lib.hid HBD
            have HQ := Lib.hid hq
            clear hq HBD
            go_wp2_with fail
            go_region_with (go_at_call 16; refine (next_more_yes sa2.q sn.p hpos q0 HQ.out).mono ?_; rintro e w3 ⟨rfl, b3⟩)
            all_goals
              have gb3 := GD.out.trans (b3.mono GD.out.size)
              have GB3 := Lib.hid gb3
              clear b3 gb3 q0 r1
              go_wp2
              go_roundw
              case rel => exact ⟨k + 1, hlt, by go_num, fun j hj => by
                rcases Nat.lt_or_ge j k with g | g
                · exact HZ.out j g
                · obtain rfl : j = k := by omega
                  exact HB.out, GB3.out⟩
              case measure => simp [intOf]; omega
          · have HBD : bdS S n k = 7 := bd_join (P := fun j => (S j).P) (Q := fun j => (S j).Q) (A := fun j => (S j).A) HS.out hm hq
            have HB := Lib.hid HBD
            have HQ := Lib.hid hq
            clear hq HBD
            go_wp2_with fail
            go_region_with (go_at_call 16; refine (next_more_no sa2.q sn.p hpos q0 HQ.out).mono ?_; rintro e w3 ⟨rfl, b3⟩)
            all_goals
              have gb3 := GD.out.trans (b3.mono GD.out.size)
              have GB3 := Lib.hid gb3
              clear b3 gb3 q0 r1
              go_wp2
              go_ret2
              refine .inr ⟨k, 7, hlt, HZ.out, HB.out, by decide, _, rfl, ⟨by simp, ?_, ?_⟩, GB3.out.alloc GB3.out.size _⟩
              · simp [World.cell?_alloc_new]
              · simp [World.cell?_alloc_new]
        · have hlen : n - (k + 1) = 0 := by omega
          have hnot : ¬ k + 1 < n := by omega
          by_cases hq : Sm (S k).Q
          · have HBD : bdS S n k = 0 := bd_last (P := fun j => (S j).P) (Q := fun j => (S j).Q) (A := fun j => (S j).A) HS.out hnot hq
            have HB := Lib.hid HBD
            have HQ := Lib.hid hq
            have HLEN := Lib.hid hlen
            clear hq HBD hlen
            have hcd : (c = k + 1) = True ∨ (c = k + 1) = False := by
              by_cases hcc : c = k + 1
              · exact .inl (eq_true hcc)
              · exact .inr (eq_false hcc)
            rcases hcd with hcc | hcc
            all_goals
              go_wp2_with fail
              go_region_with (go_at_call 16; refine (next_last_yes sa2.q HQ.out).mono ?_; rintro e w3 ⟨rfl, b3⟩)
              all_goals
                have gb3 := GD.out.trans (b3.mono GD.out.size)
                have GB3 := Lib.hid gb3
                clear b3 gb3 r1
                go_wp2
                go_roundw
                case rel => exact ⟨k + 1, hlt, by go_num, fun j hj => by
                  rcases Nat.lt_or_ge j k with g | g
                  · exact HZ.out j g
                  · obtain rfl : j = k := by omega
                    exact HB.out, GB3.out⟩
                case measure => simp [intOf]; omega
          · have HBD : bdS S n k = 7 := bd_end (P := fun j => (S j).P) (Q := fun j => (S j).Q) (A := fun j => (S j).A) HS.out hnot hq
            have HB := Lib.hid HBD
            have HQ := Lib.hid hq
            have HLEN := Lib.hid hlen
            clear hq HBD hlen
            have hcd : (c = k + 1) = True ∨ (c = k + 1) = False := by
              by_cases hcc : c = k + 1
              · exact .inl (eq_true hcc)
              · exact .inr (eq_false hcc)
            rcases hcd with hcc | hcc
            all_goals
              go_wp2_with fail
              go_region_with (go_at_call 16; refine (next_last_no sa2.q HQ.out).mono ?_; rintro e w3 ⟨rfl, b3⟩)
              all_goals
                have gb3 := GD.out.trans (b3.mono GD.out.size)
                have GB3 := Lib.hid gb3
                clear b3 gb3 r1
                go_wp2
                go_ret2
                refine .inr ⟨k, 7, hlt, HZ.out, HB.out, by decide, _, rfl, ⟨by simp, ?_, ?_⟩, GB3.out.alloc GB3.out.size _⟩
                · simp [World.cell?_alloc_new]
                · simp [World.cell?_alloc_new]
      · obtain ⟨cd, hcd⟩ : ∃ cd, scS (S k) = cd := ⟨_, rfl⟩
        have hc0 : cd ≠ 0 := hcd ▸ hs
        have HCD := Lib.hid hcd
        have HC0 := Lib.hid hc0
        have HBD : bdS S n k = cd := (bd_own (P := fun j => (S j).P) (Q := fun j => (S j).Q) (A := fun j => (S j).A) (n := n) hs).trans hcd
        have HB := Lib.hid HBD
        have ba := below_al wr (.cells #[.slice (S k).A1 (S k).n1 (S k).c1, .slice (S k).A2 (S k).n2 (S k).c2, .slice (S k).A3 (S k).n3 (S k).c3] 41)
        clear hs hcd hc0 HBD
        go_wp2_with fail
        refine (step_code (sa.below ba) HCD.out HC0.out).mono ?_
        rintro e w2 ⟨rfl, b2⟩
        have g2 := ba.trans (b2.mono ba.size)
        have gb := hb.trans (g2.mono hb.size)
        have GB := Lib.hid gb
        clear ba b2 g2 gb q0 q1 q2
        go_wp2
        go_ret2
        refine .inr ⟨k, cd, hlt, HZ.out, HB.out, HC0.out, _, rfl, ⟨by simp, ?_, ?_⟩, GB.out.alloc GB.out.size _⟩
        · simp [World.cell?_alloc_new]
        · simp [World.cell?_alloc_new]
    · obtain rfl : k = n := by omega
      have cells := hr.ex (by omega)
      obtain ⟨b', off', hbo, hb1, hcl⟩ := cells
      simp only [Option.some.injEq, Addr.mk.injEq, and_true] at hbo
      obtain ⟨rfl, rfl⟩ := hbo
      have q0 := (hcl 0 (by omega)).c0
      simp only [Nat.zero_mul, Nat.add_zero] at q0
      have sa := hr.at_ 0 (by omega)
      clear hcl
      go_wp2_with fail
      refine (norm_any sa.p).mono ?_
      rintro e w2 ⟨B2, m2, d2, rfl, k2, b2, n2⟩
      have gb := hb.trans (b2.mono hb.size)
      have N2 := Lib.hid n2
      have GB := Lib.hid gb
      clear b2 gb n2
      go_wp2
      go_ret2
      exact .inl ⟨HZ.out, _, _, _, rfl, k2, GB.out, fun a ha => Nat.le_trans hb.size (N2.out a ha)⟩
end Go.Proofs.YtbgnjbalojcgkaaDoor
