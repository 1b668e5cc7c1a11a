/-
  Several texts in one: ArgS, ArgG, Lig4, Up4, Gpq, WGroupNew.
-/
import Derived.Test.YtloajnaphenbjaaGreatDoorPri
import Derived.Test.YtloajnaphenbjaaGreatDoorArg
import Derived.Deep.Slices
import Derived.Deep.Fields
import Derived.SizedLaws
import Derived.Lib.SmallJoins
import Derived.Test.YtloajnaphenbjaaGreatDoorGro
import Derived.Test.YtloajnaphenbjaaGreatDoorRfo
import Derived.Test.YtloajnaphenbjaaGreatDoorDor
import Derived.Test.YtloajnaphenbjaaGreatDoorDoc
/-
  A chain of steps that came in: its cells, and that its slices are numbers.
-/
namespace Go.Proofs.YtloajnaphenbjaaGreatDoor
open Go.RowKit Go.ChangeShapes Go.WideShapes Go.Deep
set_option linter.unusedVariables false
section
variable {H : Type} {enc : TypeId × Value → H} {w : World}
theorem all_mem {P : Program} {e : TypeId} {d : DataW H} {l : List (DataW H)} (hd : d ∈ l) : ∀ n ∈ d.weights P e, n ∈ DataW.weightsAll P e l := by
  induction l with
  | nil => cases hd
  | cons x r ih =>
    intro n hn
    rw [DataW.weightsAll, List.mem_append]
    rcases List.mem_cons.1 hd with rfl | hd
    · exact .inl hn
    · exact .inr (ih hd n hn)
theorem nat8 : Tryz.prog.bytesOf 38 = 8 := by kernel_rfl
/-- A slice of limbs that was read, and all that is weighed of it is within the reach. -/
theorem field_row {n : Nat} {v : Value} {y : DataW H × List MemPlace} (hf : DataW.trod enc Tryz.prog w 0 (fun _ => true) true n 23 [v] = some y) (hw : ∀ k ∈ y.1.weights Tryz.prog 23, k ≤ reachBytes) :
    ∃ a len cap zs, v = .slice a len cap ∧ IsRow .u64 8 w a len cap zs := by
  rcases open_ints Tryz.underlying23 Tryz.underlying38 (by kernel_rfl) hf with ⟨hcs, _⟩ | ⟨x, l, c, zs, hcs, _, hl, hm, hz, hx, hcell, hwz⟩
  · injection hcs with hv
    exact ⟨none, 0, 0, [], hv, .inl ⟨rfl, rfl, rfl, rfl⟩⟩
  · injection hcs with hv
    refine ⟨some x, l, c, zs, hv, .inr ⟨x, rfl, hl, ?_, by simpa using hz, hcell, hwz⟩⟩
    have h1 := hw ((zs.take l).length * 8 + (zs.drop l).length * 8) (by
      rw [hx]
      simp only [DataW.weights, Tryz.underlying23, nat8]
      refine List.mem_cons.2 (.inl ?_)
      simp only [lits, List.length_map]
      omega)
    simp only [List.length_take, List.length_drop, reachBytes] at h1
    simp at hz
    omega
theorem list3 {α : Type} {l : List α} (h : l.length = 3) : ∃ a b c, l = [a, b, c] := by
  match l, h with
  | [a, b, c], _ => exact ⟨a, b, c, rfl⟩
theorem three_same {a t : TypeId} {j : Nat} (h : [a, a, a][j]? = some t) : t = a := by
  match j, h with
  | 0, h => exact (Option.some.inj h).symm
  | 1, h => exact (Option.some.inj h).symm
  | 2, h => exact (Option.some.inj h).symm
  | j + 3, h => simp at h
/-- One step of the chain. -/
theorem step_row {n : Nat} {a : Addr} {fs : Array Field} {cs : List Value} {x : DataW H × List MemPlace} (he : Tryz.prog.underlying 61 = some (.struct fs)) (hone : oneCellFields Tryz.prog fs = true) (hmt : fs.toList.map (·.type) = [23, 23, 23])
    (hc : w.cells? 0 a 3 = some cs) (ht : DataW.trod enc Tryz.prog w 0 (fun _ => true) true n 61 cs = some x) (hw : ∀ k ∈ x.1.weights Tryz.prog 61, k ≤ reachBytes) :
    ∃ s : Stp, w.cell? (a.add 0) = some (.slice s.A1 s.n1 s.c1) ∧ w.cell? (a.add 1) = some (.slice s.A2 s.n2 s.c2) ∧ w.cell? (a.add 2) = some (.slice s.A3 s.n3 s.c3) ∧ s.At w := by
  obtain ⟨ys, n', -, hy, hlen, hyl, hf⟩ := DataW.trod_struct he ht
  obtain ⟨_, hcl, hat⟩ := World.cells?_some hc
  have hsz : fs.size = 3 := by have := congrArg List.length hmt; simpa using this
  have key : ∀ j, j < 3 → DataW.trod enc Tryz.prog w 0 (fun _ => true) true n' 23 ((cs.drop j).take 1) = ys[j]? := by
    intro j hj
    have hj' : j < fs.size := by omega
    have hfj : fs[j]? = some fs[j] := Array.getElem?_eq_getElem hj'
    obtain ⟨ho, hk⟩ := hone_of hone j _ hfj
    have hty : fs[j].type = 23 := by
      have h1 : (fs.toList.map (·.type))[j]? = some fs[j].type := by simp [hfj]
      rw [hmt] at h1
      exact three_same h1
    have h1 := hf j _ hfj
    rw [ho, hk, hty] at h1
    exact h1
  obtain ⟨v0, v1, v2, rfl⟩ := list3 hcl
  obtain ⟨y0, y1, y2, rfl⟩ := list3 (hyl.trans hsz)
  have e0 : DataW.trod enc Tryz.prog w 0 (fun _ => true) true n' 23 [v0] = some y0 := key 0 (by omega)
  have e1 : DataW.trod enc Tryz.prog w 0 (fun _ => true) true n' 23 [v1] = some y1 := key 1 (by omega)
  have e2 : DataW.trod enc Tryz.prog w 0 (fun _ => true) true n' 23 [v2] = some y2 := key 2 (by omega)
  have hw' : ∀ k ∈ DataW.weightsEach Tryz.prog [23, 23, 23] [y0.1, y1.1, y2.1], k ≤ reachBytes := by
    intro k hk
    refine hw k ?_
    rw [hy]
    simp only [DataW.weights, he, hmt]
    exact hk
  obtain ⟨a0, l0, k0, z0, rfl, r0⟩ := field_row e0 fun k hk => hw' k (DataW.weights_mem_each (j := 0) rfl rfl k hk)
  obtain ⟨a1, l1, k1, z1, rfl, r1⟩ := field_row e1 fun k hk => hw' k (DataW.weights_mem_each (j := 1) rfl rfl k hk)
  obtain ⟨a2, l2, k2, z2, rfl, r2⟩ := field_row e2 fun k hk => hw' k (DataW.weights_mem_each (j := 2) rfl rfl k hk)
  exact ⟨⟨a0, l0, k0, a1, l1, k1, a2, l2, k2, _, _, _⟩, hat 0 (by omega), hat 1 (by omega), hat 2 (by omega), r0.told.nm, r1.told.nm, r2.told.nm⟩
instance : Inhabited Stp := ⟨⟨none, 0, 0, none, 0, 0, none, 0, 0, 0, 0, 0⟩⟩
theorem cells3 : Tryz.prog.cellsOf 61 = 3 := by kernel_rfl
theorem bytes3 : Tryz.prog.bytesOf 61 = 72 := by kernel_rfl
theorem add_off (b off j : Nat) : (⟨b, off, none⟩ : Addr).add j = ⟨b, off + j, none⟩ := by
  unfold Addr.add; split
  · rename_i h0; subst h0; rfl
  · rfl
/-- A chain that came in. -/
theorem open_chain {fuel : Nat} {v : Value} {x : DataW H × List MemPlace} (h : DataW.trod enc Tryz.prog w 0 (fun _ => true) true fuel 24 [v] = some x) (hw : ∀ k ∈ x.1.weights Tryz.prog 24, k ≤ reachBytes) :
    ∃ a len cap S, v = .slice a len cap ∧ Ch w a len cap S := by
  rcases open_slice Tryz.underlying24 h with ⟨hcs, _⟩ | ⟨a, len, cap, m, n, D, Pl, hcs, _, hl, hm, hmm, hx, hi⟩
  · injection hcs with hv
    exact ⟨none, 0, 0, fun _ => default, hv, Nat.le_refl _, by omega, fun h => absurd h (by omega), fun i h => absurd h (by omega)⟩
  · injection hcs with hv
    rw [cells3] at hi
    obtain rfl : m = cap := by simpa using hmm
    rw [hx] at hw
    simp only [DataW.weights, Tryz.underlying24, bytes3] at hw
    have hcap : m * 72 ≤ reachBytes := by
      have := hw _ (List.mem_cons.2 (.inl rfl))
      simp only [List.length_map, List.length_range] at this
      omega
    have each : ∀ i, i < len → ∃ s : Stp, w.cell? ((a.add (i * 3)).add 0) = some (.slice s.A1 s.n1 s.c1) ∧ w.cell? ((a.add (i * 3)).add 1) = some (.slice s.A2 s.n2 s.c2) ∧ w.cell? ((a.add (i * 3)).add 2) = some (.slice s.A3 s.n3 s.c3) ∧ s.At w := by
      intro i hil
      obtain ⟨cs', h1, h2⟩ := hi i (by omega)
      refine step_row Tryz.underlying61 (by kernel_rfl) (by kernel_rfl) h1 h2 fun k hk => hw k (List.mem_cons.2 (.inr (List.mem_append.2 (.inl ?_))))
      exact all_mem (List.mem_map.2 ⟨i, List.mem_range.2 hil, rfl⟩) k hk
    obtain ⟨S, hS⟩ := choose_lt each
    refine ⟨some a, len, m, S, hv, hl, by simp only [reachBytes] at hcap; omega, fun hn => ?_, fun i hi => (hS i hi).2.2.2⟩
    obtain ⟨b, off, spot⟩ := a
    have hspot : spot = none := by simpa [Addr.add] using World.cell?_spot (hS 0 hn).1
    subst hspot
    simp only [add_off] at hS
    exact ⟨b, off, rfl, block_lt_of_cell (hS 0 hn).1, fun i hi => ⟨(hS i hi).1, (hS i hi).2.1, (hS i hi).2.2.1⟩⟩
end
end Go.Proofs.YtloajnaphenbjaaGreatDoor
/-
  A group's numbers that came in, by value: a slice that is a number, and a chain.
-/
namespace Go.Proofs.YtloajnaphenbjaaGreatDoor
open Go.RowKit Go.ChangeShapes Go.WideShapes Go.Deep Go.Joins
set_option linter.unusedVariables false
set_option maxRecDepth 100000 in
theorem open_group {H : Type} {enc : TypeId × Value → H} {w : World} {r : Reach} {b0 : Nat} {v : Value} {d : DataW H} {p : List MemPlace} (hv : Value.okWide Tryz.prog w r b0 26 v) (h : DataW.Trod enc Tryz.prog w 0 (fun _ => true) true 26 v d p) (hw : ∀ k ∈ d.weights Tryz.prog 26, k ≤ reachBytes) :
    ∃ A l c zs a n cap S, v = .agg #[.slice A l c, .slice a n cap] ∧ IsRow .u64 8 w A l c zs ∧ Ch w a n cap S := by
  obtain ⟨v0, v1, y0, y1, m, rfl, rfl, -, e0, e1⟩ := open_agg2 Tryz.underlying26 (by kernel_rfl) (by kernel_rfl) hv h
  have hw' : ∀ k ∈ DataW.weightsEach Tryz.prog [23, 24] [y0.1, y1.1], k ≤ reachBytes := fun k hk => hw k (by
    simp only [DataW.weights, Tryz.underlying26]
    exact hk)
  have e0' : DataW.trod enc Tryz.prog w 0 (fun _ => true) true m 23 [v0] = some y0 := e0
  have e1' : DataW.trod enc Tryz.prog w 0 (fun _ => true) true m 24 [v1] = some y1 := e1
  obtain ⟨A, l, c, zs, rfl, r0⟩ := field_row e0' fun k hk => hw' k (DataW.weights_mem_each (j := 0) rfl rfl k hk)
  obtain ⟨a, n, cap, S, rfl, r1⟩ := open_chain e1' fun k hk => hw' k (DataW.weights_mem_each (j := 1) rfl rfl k hk)
  exact ⟨A, l, c, zs, a, n, cap, S, rfl, r0, r1⟩
end Go.Proofs.YtloajnaphenbjaaGreatDoor
/-
  light, of a group's numbers: what it says of their lengths.
-/
namespace Go.Proofs.YtloajnaphenbjaaGreatDoor
open Go.RowKit
set_option linter.unusedVariables false
def Sh4 (s : Stp) : Prop := s.n1 ≤ 4 ∧ s.n2 ≤ 8 ∧ s.n3 ≤ 8
def Lt4R (S : Nat → Stp) (n : Nat) (w : World) (m i : Value) (wr : World) : Prop :=
  ∃ (k : Nat) (M : Int), m = .int .i64 M ∧ i = .int .i64 k ∧ k ≤ n ∧ 0 ≤ M ∧ M ≤ 4 * k ∧ (∀ j, j < k → Sh4 (S j)) ∧ w = wr
def Lt4P (S : Nat → Stp) (ng n : Nat) (w : World) (e : Ending) (w' : World) : Prop :=
  ∃ b, e = .returned (.bool b) ∧ (b = true → ng ≤ 300 ∧ n ≤ 70 ∧ ∀ i, i < n → Sh4 (S i)) ∧ Below w.heap.size w w'
set_option maxHeartbeats 4000000 in
theorem light4_any {w : World} {Ag : Option Addr} {ng cg : Nat} {a : Option Addr} {n c : Nat} {S : Nat → Stp} (h0 : Ch w a n c S) (g60 : ng ≤ 17592186044416) :
    Calls Tryz.prog 6 #[.agg #[.slice Ag ng cg, .slice a n c]] w (Lt4P S ng n w) := by
  have n60 := h0.c60
  have bx := Bx.new w Ag ng cg a n c
  have ba := below_al w (.cells #[.slice Ag ng cg, .slice a n c] 26)
  have h := h0.below ba
  have x0 := bx.c0
  have x1 := bx.c1_
  have BA := Lib.hid ba
  clear ba h0 bx
  rcases Nat.lt_or_ge 300 ng with l1 | l1
  · have t1 : decide ((300 : Int) < (ng : Int)) = true := by simp; omega
    go_enter Tryz.func6, Tryz.ntmps6
    go_wp2
    go_ret
    exact ⟨false, rfl, (fun h => by cases h), BA.out⟩
  · have t1 : decide ((300 : Int) < (ng : Int)) = false := by simp; omega
    rcases Nat.lt_or_ge 70 n with l2 | l2
    · have t2 : decide ((70 : Int) < (n : Int)) = true := by simp; omega
      go_enter Tryz.func6, Tryz.ntmps6
      go_wp2
      go_ret
      exact ⟨false, rfl, (fun h => by cases h), BA.out⟩
    · have t2 : decide ((70 : Int) < (n : Int)) = false := by simp; omega
      go_enter Tryz.func6, Tryz.ntmps6
      go_wp2_with fail
      go_loopw [3, 4] (fun m i wr => Lt4R S n (w.alloc (.cells #[.slice Ag ng cg, .slice a n c] 26)) m i wr) (fun _ i _ => n - (intOf i).toNat)
      case atStart => exact ⟨0, 0, rfl, rfl, Nat.zero_le _, by omega, by omega, fun j h => absurd h (by omega), rfl⟩
      case round =>
        obtain ⟨k, M, rfl, rfl, hk, m0, m1, hsh, rfl⟩ := hrel
        have HSH := Lib.hid hsh
        clear hsh
        rcases Nat.lt_or_ge k n with hlt | hge
        · have t0 : decide ((k : Int) < (n : Int)) = true := by simp; omega
          obtain ⟨b, off, rfl, hb1, hcl⟩ := h.ex (by omega)
          have q0 := (hcl k hlt).c0
          have q1 := (hcl k hlt).c1
          have q2 := (hcl k hlt).c2
          have sa := h.at_ k hlt
          have sp := sa.p.c60
          have sq := sa.q.c60
          have sr := sa.a.c60
          clear hcl sa h
          rcases Nat.lt_or_ge 4 (S k).n1 with g1 | g1
          · have y1 : decide ((4 : Int) < ((S k).n1 : Int)) = true := by simp; omega
            go_wp2
            go_ret
            exact ⟨false, rfl, (fun h => by cases h), BA.out⟩
          · have y1 : decide ((4 : Int) < ((S k).n1 : Int)) = false := by simp; omega
            rcases Nat.lt_or_ge 8 (S k).n2 with g2 | g2
            · have y2 : decide ((8 : Int) < ((S k).n2 : Int)) = true := by simp; omega
              go_wp2
              go_ret
              exact ⟨false, rfl, (fun h => by cases h), BA.out⟩
            · have y2 : decide ((8 : Int) < ((S k).n2 : Int)) = false := by simp; omega
              rcases Nat.lt_or_ge 8 (S k).n3 with g3 | g3
              · have y3 : decide ((8 : Int) < ((S k).n3 : Int)) = true := by simp; omega
                go_wp2
                go_ret
                exact ⟨false, rfl, (fun h => by cases h), BA.out⟩
              · have y3 : decide ((8 : Int) < ((S k).n3 : Int)) = false := by simp; omega
                have hw1 : IntKind.i64.wrap ((k : Int) + 1) = (k : Int) + 1 := IntWalk.i64_in _ (by omega)
                have hw2 : IntKind.i64.wrap (M + ((S k).n1 : Int)) = M + ((S k).n1 : Int) := IntWalk.i64_in _ (by omega)
                have NX : Hid (∀ j, j < k + 1 → Sh4 (S j)) := Lib.hid fun j hj => by
                  rcases Nat.lt_or_ge j k with g | g
                  · exact HSH.out j g
                  · obtain rfl : j = k := by omega
                    exact ⟨g1, g2, g3⟩
                go_wp2
                go_roundw
                case rel => exact ⟨k + 1, M + ((S k).n1 : Int), rfl, by go_num, by omega, by omega, by omega, NX.out, rfl⟩
                case measure => simp [intOf]; omega
        · obtain rfl : k = n := by omega
          have t0 : decide ((k : Int) < (k : Int)) = false := by simp
          by_cases hM : M ≤ 30
          · have t3 : decide (M ≤ 30) = true := by simpa using hM
            go_wp2
            go_ret
            exact ⟨true, rfl, (fun _ => ⟨l1, l2, HSH.out⟩), BA.out⟩
          · have t3 : decide (M ≤ 30) = false := by simpa using hM
            go_wp2
            go_ret
            exact ⟨false, rfl, (fun h => by cases h), BA.out⟩
end Go.Proofs.YtloajnaphenbjaaGreatDoor
/-
  The document's examples of layer 4 hold: one, up.
-/
namespace Go.Proofs.YtloajnaphenbjaaGreatDoor
open Go.RowKit
set_option linter.unusedVariables false
theorem one_is {A : Option Addr} {n c : Nat} {w : World} (h : Cn w A n c 1) :
    Calls Tryz.prog 28 #[.slice A n c] w fun e w' => e = .returned (.bool true) ∧ w = w' := by
  obtain ⟨rfl, b, off, rfl, hb, hc⟩ := cn_one h (by decide) (by decide)
  clear h
  go_enter Tryz.func28, Tryz.ntmps28
  go_wp2
  go_ret
  exact ⟨rfl, rfl⟩
theorem cn_head {w : World} {A : Option Addr} {n c : Nat} {N : Int} (h : Cn w A n c N) (hn : n = 1) : 1 ≤ N ∧ N < W := by
  have hl := h.len_
  have h0 := h.pos
  have := (dl_iff h0 1).1 (by omega)
  have h1 : dl N ≠ 0 := by omega
  have h2 : N ≠ 0 := fun e => h1 ((dl_zero h0).2 e)
  rw [Int.pow_succ, Int.pow_zero, Int.one_mul] at this
  exact ⟨by omega, this⟩
theorem one_not {A : Option Addr} {n c : Nat} {N : Int} {w : World} (h : Cn w A n c N) (h1 : N ≠ 1) :
    Calls Tryz.prog 28 #[.slice A n c] w fun e w' => e = .returned (.bool false) ∧ w = w' := by
  by_cases hn : n = 1
  · obtain ⟨a, b⟩ := cn_head h hn
    obtain ⟨rfl, b, off, rfl, hb, hc⟩ := cn_one h a b
    have t1 : ((N : Int) == 1) = false := by simpa using h1
    clear h h1
    go_enter Tryz.func28, Tryz.ntmps28
    go_wp2
    go_ret
    exact ⟨rfl, rfl⟩
  · have t1 : ((n : Int) == 1) = false := by simp; omega
    have t2 : (n == 1) = false := by simp; omega
    clear h h1 hn
    go_enter Tryz.func28, Tryz.ntmps28
    go_wp2
    go_ret
    exact ⟨rfl, rfl⟩
theorem safe_ex : Safe 100547 50273 := ⟨by decide, by decide, by decide, sm_50273.2⟩
theorem el_ex4 : El 100547 50273 4 := by
  refine ⟨by decide, by decide, ?_⟩
  rw [show (50273 : Int).toNat = 50273 by decide, ← pw3_eq 17 50273 (by decide)]; decide +kernel
theorem el_ex2 : ¬ El 100547 50273 2 := fun h => by
  have h2 := h.2.2
  rw [show (50273 : Int).toNat = 50273 by decide, ← pw3_eq 17 50273 (by decide)] at h2
  revert h2
  decide +kernel
theorem el_ex0 : ¬ El 100547 50273 0 := fun h => by have := h.1; omega
theorem nb_ex : nb 50273 = 16 := by
  have h1 := (nb_iff (N := 50273) (by decide) 16).2 (by decide)
  have h2 : ¬ nb 50273 ≤ 15 := fun g => by have := (nb_iff (N := 50273) (by decide) 15).1 g; revert this; decide
  omega
theorem sz_ex : sz 50273 = 1 := by unfold sz; rw [nb_ex]
theorem str7 : ((strOfNums [7]).toList == [7]) = true := by rw [Lib.toList_data, strOfNums_data]; decide
/-! ### What is encoded -/
theorem enc_el {P Q G x : Int} (h : Safe P Q) (hG : El P Q G) (hg : G ≠ 1) (x0 : 0 ≤ x) (xq : x + 1 ≤ Q) : El P Q (encN P Q x) := by
  have := h.pq
  unfold encN
  by_cases he : El P Q (x + 1)
  · rw [if_pos he]; exact he
  · rw [if_neg he]
    rcases el_halves h hG hg (show 1 ≤ x + 1 by omega) (show x + 1 < P by omega) with ⟨a, -⟩ | ⟨-, a⟩
    · exact absurd a he
    · exact a
theorem enc_low {P Q x : Int} (h : Safe P Q) (x0 : 0 ≤ x) (xq : x + 1 ≤ Q) : lowr P Q (encN P Q x) = x + 1 := by
  have := h.pq
  unfold encN lowr
  split
  · rw [if_neg (by omega)]
  · rw [if_pos (by omega)]; omega
/-- The example's group. -/
theorem gnew_ex (w : World) :
    Calls Tryz.prog 7 #[.agg #[.slice (some ⟨w.heap.size, 0, none⟩) 1 1, .slice (some ⟨w.heap.size + 1 + 1 + 1 + 1, 0, none⟩) 1 1]] (((((w.alloc (.cells #[.int .u64 4] 38)).alloc (.cells #[.int .u64 100547] 38)).alloc (.cells #[.int .u64 50273] 38)).alloc (.cells #[.int .u64 2] 38)).alloc (.cells #[.slice (some ⟨w.heap.size + 1, 0, none⟩) 1 1, .slice (some ⟨w.heap.size + 1 + 1, 0, none⟩) 1 1, .slice (some ⟨w.heap.size + 1 + 1 + 1, 0, none⟩) 1 1] 61))
      (NewP4 100547 50273 4 w) := by
  have hc := lit_chain (w.alloc (.cells #[.int .u64 4] 38)) 100547 50273 2 (by decide) (by decide) (by decide) (by decide) (by decide) (by decide)
  have s0 : (w.alloc (.cells #[.int .u64 4] 38)).heap.size = w.heap.size + 1 := by simp
  rw [s0] at hc
  have hg := ((((lit_one w 4 (by decide) (by decide)).alloc (.cells #[.int .u64 100547] 38)).alloc (.cells #[.int .u64 50273] 38)).alloc (.cells #[.int .u64 2] 38)).alloc (.cells #[.slice (some ⟨w.heap.size + 1, 0, none⟩) 1 1, .slice (some ⟨w.heap.size + 1 + 1, 0, none⟩) 1 1, .slice (some ⟨w.heap.size + 1 + 1 + 1, 0, none⟩) 1 1] 61)
  refine (gnew_any (S := one3 (some ⟨w.heap.size + 1, 0, none⟩) (some ⟨w.heap.size + 1 + 1, 0, none⟩) (some ⟨w.heap.size + 1 + 1 + 1, 0, none⟩) 100547 50273 2) hg hc (by omega) (by omega) (fun i hi => ?_) safe_ex el_ex4 (by decide) (by show 9 ≤ nb 50273; rw [nb_ex]; decide)).mono ?_
  · obtain rfl : i = 0 := by omega
    exact bds_one bd_ex1
  · rintro e w' ⟨b, d, he, gr, hP, hQ, hG, bb, hb, hn⟩
    refine ⟨b, d, he, gr, hP, hQ, hG, below_one (below_four bb), ?_, ?_⟩
    · simp at hb; omega
    · have : w.heap.size ≤ (((((w.alloc (.cells #[.int .u64 4] 38)).alloc (.cells #[.int .u64 100547] 38)).alloc (.cells #[.int .u64 50273] 38)).alloc (.cells #[.int .u64 2] 38)).alloc (.cells #[.slice (some ⟨w.heap.size + 1, 0, none⟩) 1 1, .slice (some ⟨w.heap.size + 1 + 1, 0, none⟩) 1 1, .slice (some ⟨w.heap.size + 1 + 1 + 1, 0, none⟩) 1 1] 61)).heap.size := by simp; omega
      exact ⟨Nat.le_trans this hn.bm, fun a ha => Nat.le_trans this (hn.A a ha), fun a ha => Nat.le_trans this (hn.B a ha), fun a ha => Nat.le_trans this (hn.S a ha), fun a ha => Nat.le_trans this (hn.q a ha), fun a ha => Nat.le_trans this (hn.g a ha)⟩
theorem conv_row {w : World} {g : Nat} {bs : List Int} {n : Nat} (h : Row w g 5 .u8 bs) (hl : bs.length = n) : (convert 51 9 (.slice (some ⟨g, 0, none⟩) n n)).run Tryz.prog w = .ok (.string (strOfNums bs)) w :=
  run_convert_bytes_arg w 51 5 Tryz.underlying51 Tryz.underlying5 g 0 n n bs hl (fun i hi => by rw [Nat.zero_add]; exact h.cell (by rw [List.getD_eq_getElem?_getD]; simp [List.getElem?_eq_getElem (show i < bs.length by omega)])) 9 Tryz.underlying9
theorem lit_byte (w : World) (x : Int) : Rd .u8 (w.alloc (.cells #[.int .u8 x] 5)) (some ⟨w.heap.size, 0, none⟩) 1 [x] :=
  (show Row _ _ _ _ [x] from Row.new w 5 .u8 [x]).rd rfl (fun j y hy => by rwa [Nat.zero_add])
theorem low_ex : low [7] 1 1 = 7 := by decide
theorem bytes_ex : bytesL 7 1 = [7] := by decide
set_option maxHeartbeats 8000000 in
set_option maxRecDepth 100000 in
theorem up_any (w : World) : Calls Tryz.prog 5 #[] w (AnsV (.bool true) w) := by
  go_enter Tryz.func5, Tryz.ntmps5
  go_wp2_with fail
  refine (gnew_ex w).mono ?_
  rintro e w1 ⟨b, d, rfl, gr, hP, hQ, hG, b1, -, -⟩
  have HG : Hid (d.P = 100547 ∧ d.Q = 50273 ∧ d.G = 4) := Lib.hid ⟨hP, hQ, hG⟩
  have EL4 : Hid (El d.P d.Q 4) := Lib.hid (by rw [hP, hQ]; exact el_ex4)
  have SZ : sz d.Q = 1 := by rw [hQ]; exact sz_ex
  have HSZ := Lib.hid SZ
  clear hP hQ hG SZ
  go_wp2_with fail
  refine (gscalars_any gr.toGr0).mono ?_
  rintro e w2 ⟨bs, As, cs, lows, Bs, cBs, Ss, cSs, rfl, -, b2, -⟩
  have g2 := b1.trans (b2.mono b1.size)
  have gr2 := gr.below b2
  clear b1 b2 gr
  have L1 := Lib.hid (lit_one w2 50273 (by decide) (by decide))
  have GR := Lib.hid (gr2.below (below_al w2 (.cells #[.int .u64 50273] 38)))
  go_wp2_with fail
  refine (gbase_any GR.out L1.out (dl_small (by decide) (by decide))).mono ?_
  rintro e w3 ⟨Ba, na, ca, rfl, ka, b3, -⟩
  have ka : Cn w3 Ba na ca 1 := by
    have e1 : d.G ^ (50273 : Int).toNat % d.P = 1 := by rw [HG.out.1, HG.out.2.2]; exact el_ex4.2.2
    rw [e1] at ka; exact ka
  have b23 := below_one b3
  have g3 := g2.trans (b23.mono g2.size)
  have gr3 := gr2.below b23
  clear b3 b23 g2 gr2 L1 GR
  obtain ⟨l1, l2⟩ := lit_two w3 4 4 (by decide) (by decide) (by decide) (by decide)
  have L1 := Lib.hid l1
  have L2 := Lib.hid l2
  have GR := Lib.hid ((gr3.below (below_al w3 (.cells #[.int .u64 4] 38))).below (below_al _ (.cells #[.int .u64 4] 38)))
  clear l1 l2
  go_wp2_with fail
  refine (gover_any GR.out.toGr0 L1.out L2.out EL4.out EL4.out).mono ?_
  rintro e w4 ⟨Bb, nb', cb, rfl, kb, b4, -⟩
  have kb : Cn w4 Bb nb' cb 1 := by
    have e1 : 4 * iv d.P d.Q 4 % d.P = 1 := (one_eqm gr3.safe.p2).2 (EL4.out.inv gr3.safe.p2 gr3.safe.q1)
    rw [e1] at kb; exact kb
  have b34 := below_two b4
  have g4 := g3.trans (b34.mono g3.size)
  have gr4 := gr3.below b34
  have ka := ka.below b34
  clear b4 b34 g3 gr3 L1 L2 GR
  have L7 := Lib.hid (lit_byte w4 7)
  have GR := Lib.hid (gr4.below (below_al w4 (.cells #[.int .u8 7] 5)))
  go_wp2_with fail
  refine (enc_any GR.out.toGr0 L7.out (fun x hx => by simp at hx; subst hx; decide) HSZ.out.symm).mono ?_
  rintro e w5 ⟨Bc, nc, cc, rfl, kc, b5, -⟩
  have kc : Cn w5 Bc nc cc (encN d.P d.Q 7) := kc
  have b45 := below_one b5
  have g5 := g4.trans (b45.mono g4.size)
  have gr5 := gr4.below b45
  have ka := ka.below b45
  have kb := kb.below b45
  have q7 : (7 : Int) + 1 ≤ d.Q := by rw [HG.out.2.1]; decide
  have ELC := Lib.hid (enc_el gr4.safe gr4.el gr4.g1 (show (0 : Int) ≤ 7 by decide) q7)
  have low7 := enc_low gr4.safe (show (0 : Int) ≤ 7 by decide) q7
  have LOW := Lib.hid low7
  clear b5 b45 g4 gr4 L7 GR q7 low7
  go_wp2_with fail
  refine (dec_any gr5.toGr0 kc.nm ELC.out (by rw [LOW.out, HSZ.out]; decide)).mono ?_
  rintro e w6 ⟨g, rfl, r6, b6, -⟩
  have r6 : Row w6 g 5 .u8 [7] := by
    rw [LOW.out, HSZ.out] at r6; exact r6
  have g6 := g5.trans (b6.mono g5.size)
  have gr6 := gr5.below b6
  have ka := ka.below b6
  have kb := kb.below b6
  clear b6 g5 gr5 kc
  go_wp2_with fail
  refine (enc_arg gr6.toGr0 (by rw [HSZ.out]; decide) (by decide)).mono ?_
  rintro e w7 ⟨rfl, b7⟩
  have g7 := g6.trans (b7.mono g6.size)
  have gr7 := gr6.below b7
  have ka := ka.below b7
  have kb := kb.below b7
  have r7 := r6.below b7 r6.lt
  clear b7 g6 gr6 r6
  have t1 : ((sz d.Q : Int) == 1) = true := by rw [HSZ.out]; rfl
  go_wp2_with fail
  refine (gsize_any gr7.toGr0).mono ?_
  rintro e w8 ⟨rfl, rfl⟩
  have L4 := Lib.hid (lit_one w7 4 (by decide) (by decide))
  have GR := Lib.hid (gr7.below (below_al w7 (.cells #[.int .u64 4] 38)))
  go_wp2_with fail
  refine (gis_yes GR.out.toGr0 L4.out EL4.out).mono ?_
  rintro e w8 ⟨rfl, b8⟩
  have b78 := below_one b8
  have g8 := g7.trans (b78.mono g7.size)
  have gr8 := gr7.below b78
  have ka := ka.below b78
  have kb := kb.below b78
  have r8 := r7.below b78 r7.lt
  clear b8 b78 g7 gr7 r7 GR L4
  have L2 := Lib.hid (lit_one w8 2 (by decide) (by decide))
  have GR := Lib.hid (gr8.below (below_al w8 (.cells #[.int .u64 2] 38)))
  go_wp2_with fail
  refine (gis_no GR.out.toGr0 L2.out (by rw [HG.out.1, HG.out.2.1]; exact el_ex2)).mono ?_
  rintro e w9 ⟨rfl, b9⟩
  have b89 := below_one b9
  have g9 := g8.trans (b89.mono g8.size)
  have gr9 := gr8.below b89
  have ka := ka.below b89
  have kb := kb.below b89
  have r9 := r8.below b89 r8.lt
  clear b9 b89 g8 gr8 r8 GR L2
  go_wp2_with fail
  refine (gis_zero gr9.toGr0 (Cn.nil _).nm).mono ?_
  rintro e w10 ⟨rfl, b10⟩
  have g10 := g9.trans (b10.mono g9.size)
  have ka := ka.below b10
  have kb := kb.below b10
  have r10 := r9.below b10 r9.lt
  clear b10 g9 gr9 r9
  go_wp2_with fail
  refine (one_is ka).mono ?_
  rintro e w11 ⟨rfl, rfl⟩
  go_wp2_with fail
  refine (one_is kb).mono ?_
  rintro e w11 ⟨rfl, rfl⟩
  have hcv := conv_row (n := sz d.Q) r10 (by rw [HSZ.out]; rfl)
  have s7 := str7
  have q1 := eql_code 1 1
  have G := Lib.hid g10
  clear ka kb g10 r10
  go_wp2
  go_ret
  exact ⟨rfl, G.out⟩
end Go.Proofs.YtloajnaphenbjaaGreatDoor
/-
  What P and Q answer.
-/
namespace Go.Proofs.YtloajnaphenbjaaGreatDoor
open Go.RowKit
set_option linter.unusedVariables false
section
variable {w w' : World} {b : Nat} {d : Gd}
theorem gp_any (h : Gr0 w b d) : Calls Tryz.prog 12 #[.pointer (some ⟨b, 0, none⟩)] w (Ans1 d.P w) := by
  have q0 := h.c0
  go_enter Tryz.func12, Tryz.ntmps12
  go_wp2_with fail
  refine (modulus_any h.md).mono ?_
  rintro e w1 ⟨B1, m1, d1, rfl, k1, b1, hn1⟩
  go_wp2
  go_ret
  exact ⟨_, _, _, rfl, k1, b1, hn1⟩
theorem gq_any (h : Gr0 w b d) : Calls Tryz.prog 14 #[.pointer (some ⟨b, 0, none⟩)] w (Ans1 d.Q w) := by
  have q0 := h.c1
  go_enter Tryz.func14, Tryz.ntmps14
  go_wp2_with fail
  refine (norm_any h.q.nm).mono ?_
  rintro e w1 ⟨B1, m1, d1, rfl, k1, b1, hn1⟩
  go_wp2
  go_ret
  exact ⟨_, _, _, rfl, k1, b1, hn1⟩
end
end Go.Proofs.YtloajnaphenbjaaGreatDoor
/-
  GroupNew: walked through.
-/
namespace Go.Proofs.YtloajnaphenbjaaGreatDoor
open Go.RowKit
set_option linter.unusedVariables false
theorem gg_any {w : World} {b : Nat} {d : Gd} (h : Gr0 w b d) : Calls Tryz.prog 15 #[.pointer (some ⟨b, 0, none⟩)] w (Ans1 d.G w) := by
  have q0 := h.c2
  go_enter Tryz.func15, Tryz.ntmps15
  go_wp2_with fail
  refine (norm_any h.g.nm).mono ?_
  rintro e w1 ⟨B1, m1, d1, rfl, k1, b1, hn1⟩
  go_wp2
  go_ret
  exact ⟨_, _, _, rfl, k1, b1, hn1⟩
/-- What light has said. -/
def Lit4 (S : Nat → Stp) (ng n : Nat) : Prop := ng ≤ 300 ∧ n ≤ 70 ∧ ∀ i, i < n → Sh4 (S i)
section
variable {w : World} {Ag : Option Addr} {ng cg : Nat} {zg : List Int} {a : Option Addr} {n c : Nat} {S : Nat → Stp}
set_option maxHeartbeats 8000000 in
set_option maxRecDepth 100000 in
theorem groupNew_code (hg : Told w Ag ng cg zg) (hch : Ch w a n c S) {cd : Int} (c1 : 1 ≤ cd) (c15 : cd ≤ 15)
    (HGN : Hid (∀ W, Nm W Ag ng cg (val Go.Proofs.YtloajnaphenbjaaGreatDoor.W zg) → Ch W a n c S → Calls Tryz.prog 7 #[.agg #[.slice Ag ng cg, .slice a n c]] W (NErr (.iface 39 (.int .i64 cd)) W)))
    (HRN : Hid (∀ W, Nm W Ag ng cg (val Go.Proofs.YtloajnaphenbjaaGreatDoor.W zg) → Ch W a n c S → Lit4 S ng n → Calls Tryz.prog 8 #[.agg #[.slice Ag ng cg, .slice a n c]] W (RNErr cd (-1) W))) :
    Calls Tryz.prog 3 #[.agg #[.slice Ag ng cg, .slice a n c]] w fun e w' => e = .returned (.bool true) ∧ Below w.heap.size w w' := by
  have bx := Bx.new w Ag ng cg a n c
  have ba := below_al w (.cells #[.slice Ag ng cg, .slice a n c] 26)
  have g60 := hg.c60
  have BX := Lib.hid bx
  have BA := Lib.hid ba
  clear bx ba
  go_enter Tryz.func3, Tryz.ntmps3
  go_wp2_with fail
  refine (up_any _).mono ?_
  rintro e w1 ⟨rfl, b1⟩
  have g1 := BA.out.trans (b1.mono BA.out.size)
  have bx1 := BX.out.below b1
  have x0 := bx1.c0
  have x1 := bx1.c1_
  clear b1 BX BA
  go_wp2_with fail
  refine (light4_any (hch.below g1) g60).mono ?_
  rintro e w2 ⟨lt, rfl, hlt, b2⟩
  have g2 := g1.trans (b2.mono g1.size)
  have bx2 := bx1.below b2
  clear g1 b2 bx1 x0 x1
  cases lt with
  | false =>
    clear hlt
    go_wp2
    go_ret
    exact ⟨rfl, g2⟩
  | true =>
    have HLT : Hid (Lit4 S ng n) := Lib.hid (hlt rfl)
    have x0 := bx2.c0
    have x1 := bx2.c1_
    clear hlt
    have t1 : ((cd : Int) != 0) = true := by simp; omega
    have t2 : ((cd : Int) == cd) = true := by simp
    go_wp2_with fail
    refine (HGN.out w2 (hg.below g2).nm (hch.below g2)).mono ?_
    rintro e w3 ⟨rfl, b3⟩
    have g3 := g2.trans (b3.mono g2.size)
    have bx3 := bx2.below b3
    clear g2 b3 bx2 x0 x1
    have x0 := bx3.c0
    have x1 := bx3.c1_
    go_wp2_with fail
    refine (HRN.out w3 (hg.below g3).nm (hch.below g3) HLT.out).mono ?_
    rintro e w4 ⟨rfl, b4⟩
    have G := Lib.hid (g3.trans (b4.mono g3.size))
    clear g3 b4 bx3 x0 x1
    go_wp2_with fail
    refine (code_any cd c1 c15 _).mono ?_
    rintro e w5 ⟨rfl, rfl⟩
    go_wp2
    go_ret
    exact ⟨rfl, G.out⟩
set_option maxHeartbeats 8000000 in
set_option maxRecDepth 100000 in
theorem groupNew_spot (hg : Told w Ag ng cg zg) {bc off : Nat} (hch : Ch w (some ⟨bc, off, none⟩) n c S) (et : Et w) (h1 : 1 ≤ n) (h64 : n ≤ 64) {k : Nat} {cd : Int} (hk : k < n) (HJ : Hid (∀ j, j < k → bdS S n j = 0)) (HBD : Hid (bdS S n k = cd)) (HC : Hid (cd ≠ 0)) :
    Calls Tryz.prog 3 #[.agg #[.slice Ag ng cg, .slice (some ⟨bc, off, none⟩) n c]] w fun e w' => e = .returned (.bool true) ∧ Below w.heap.size w w' := by
  have bx := Bx.new w Ag ng cg (some ⟨bc, off, none⟩) n c
  have ba := below_al w (.cells #[.slice Ag ng cg, .slice (some ⟨bc, off, none⟩) n c] 26)
  have g60 := hg.c60
  have BX := Lib.hid bx
  have BA := Lib.hid ba
  clear bx ba
  go_enter Tryz.func3, Tryz.ntmps3
  go_wp2_with fail
  refine (up_any _).mono ?_
  rintro e w1 ⟨rfl, b1⟩
  have g1 := BA.out.trans (b1.mono BA.out.size)
  have bx1 := BX.out.below b1
  have x0 := bx1.c0
  have x1 := bx1.c1_
  clear b1 BX BA
  go_wp2_with fail
  refine (light4_any (hch.below g1) g60).mono ?_
  rintro e w2 ⟨lt, rfl, hlt, b2⟩
  have g2 := g1.trans (b2.mono g1.size)
  have bx2 := bx1.below b2
  clear g1 b2 bx1 x0 x1
  cases lt with
  | false =>
    clear hlt
    go_wp2
    go_ret
    exact ⟨rfl, g2⟩
  | true =>
    have HLT : Hid (Lit4 S ng n) := Lib.hid (hlt rfl)
    have x0 := bx2.c0
    have x1 := bx2.c1_
    clear hlt
    have t1 : ((cd : Int) != 0) = true := by simpa using HC.out
    have t2 : decide ((0 : Int) ≤ (k : Int)) = true := by simp
    have hw : IntKind.u64.wrap (k : Int) = (k : Int) := IntWalk.u64_in _ (by omega)
    go_wp2_with fail
    refine (gnew_spot (hch.below g2) h1 h64 hk HJ.out HBD.out HC.out).mono ?_
    rintro e w3 ⟨bs, rfl, sp, b3⟩
    have g3 := g2.trans (b3.mono g2.size)
    have bx3 := bx2.below b3
    clear g2 b3 bx2 x0 x1
    have x0 := bx3.c0
    have x1 := bx3.c1_
    go_wp2_with fail
    refine (rnew_spot (hch.below g3) h1 h64 (fun i hi => by have := HLT.out.2.2 i hi; unfold Sh4 at this; omega) hk HJ.out HBD.out HC.out).mono ?_
    rintro e w4 ⟨rfl, b4⟩
    have g4 := g3.trans (b4.mono g3.size)
    have sp4 := sp.below b4
    have et4 := et.below g4
    clear g3 b4 bx3 x0 x1 sp
    go_wp2_with fail
    refine (isAt sp4 et4).mono ?_
    rintro e w5 ⟨rfl, b5⟩
    have G := Lib.hid (g4.trans (b5.mono g4.size))
    clear g4 b5 sp4 et4
    go_wp2
    go_ret
    exact ⟨rfl, G.out⟩
set_option maxHeartbeats 16000000 in
set_option maxRecDepth 100000 in
theorem groupNew_ok (hg : Told w Ag ng cg zg) {bc off : Nat} (hch : Ch w (some ⟨bc, off, none⟩) n c S) (h1 : 1 ≤ n) (h64 : n ≤ 64) (GOOD : Hid (∀ i, i < n → bdS S n i = 0)) (SAFE : Hid (Safe (S 0).P (S 0).Q)) (EL : Hid (El (S 0).P (S 0).Q (val W zg))) (G1 : Hid (val W zg ≠ 1)) (BIG : Hid (9 ≤ nb (S 0).Q)) :
    Calls Tryz.prog 3 #[.agg #[.slice Ag ng cg, .slice (some ⟨bc, off, none⟩) n c]] w fun e w' => e = .returned (.bool true) ∧ Below w.heap.size w w' := by
  have bx := Bx.new w Ag ng cg (some ⟨bc, off, none⟩) n c
  have ba := below_al w (.cells #[.slice Ag ng cg, .slice (some ⟨bc, off, none⟩) n c] 26)
  have g60 := hg.c60
  have BX := Lib.hid bx
  have BA := Lib.hid ba
  clear bx ba
  go_enter Tryz.func3, Tryz.ntmps3
  go_wp2_with fail
  refine (up_any _).mono ?_
  rintro e w1 ⟨rfl, b1⟩
  have g1 := BA.out.trans (b1.mono BA.out.size)
  have bx1 := BX.out.below b1
  have x0 := bx1.c0
  have x1 := bx1.c1_
  clear b1 BX BA
  go_wp2_with fail
  refine (light4_any (hch.below g1) g60).mono ?_
  rintro e w2 ⟨lt, rfl, hlt, b2⟩
  have g2 := g1.trans (b2.mono g1.size)
  have bx2 := bx1.below b2
  clear g1 b2 bx1 x0 x1
  cases lt with
  | false =>
    clear hlt
    go_wp2
    go_ret
    exact ⟨rfl, g2⟩
  | true =>
    have HLT : Hid (Lit4 S ng n) := Lib.hid (hlt rfl)
    have x0 := bx2.c0
    have x1 := bx2.c1_
    clear hlt
    have hl6 : Hid (∀ i, i < n → (S i).n1 ≤ 60 ∧ (S i).n2 ≤ 60 ∧ (S i).n3 ≤ 60) := Lib.hid fun i hi => by have := HLT.out.2.2 i hi; unfold Sh4 at this; omega
    go_wp2_with fail
    refine (gnew_any (hg.below g2).nm (hch.below g2) h1 h64 GOOD.out SAFE.out EL.out G1.out BIG.out).mono ?_
    rintro e w3 ⟨b, d, rfl, gr, hP, hQ, hG, b3, -, -⟩
    have g3 := g2.trans (b3.mono g2.size)
    have bx3 := bx2.below b3
    have HPQ := Lib.hid (And.intro hP (And.intro hQ hG))
    clear g2 b3 bx2 x0 x1 hP hQ hG
    have x0 := bx3.c0
    have x1 := bx3.c1_
    go_wp2_with fail
    refine (rnew_any (hg.below g3).nm HLT.out.1 (hch.below g3) h1 h64 hl6.out GOOD.out SAFE.out EL.out G1.out BIG.out).mono ?_
    rintro e w5 ⟨b', r, rfl, rg, hP', hQ', hG', b4⟩
    have eP : r.P = d.P := hP'.trans HPQ.out.1.symm
    have eQ : r.Q = d.Q := hQ'.trans HPQ.out.2.1.symm
    have eG : r.G = d.G := hG'.trans HPQ.out.2.2.symm
    have rg : Rg w5 b' r (sz d.Q) := by rw [HPQ.out.2.1]; exact rg
    have gr := gr.below b4
    have l1 : r.nP ≤ 300 := by
      have h1 := rg.p.len_
      have h2 := dr_le (N := d.P) (by have := gr.safe.p2; omega) gr.lp
      rw [eP] at h1; omega
    have l2 : r.nQ ≤ 300 := by
      have h1 := rg.q.len_
      have h2 := dr_le (N := d.Q) (by have := gr.safe.q3; omega) gr.lq
      rw [eQ] at h1; omega
    have l3 : r.nG ≤ 300 := by
      have h1 := rg.g.len_
      have h2 := dr_le (N := d.G) (by have := gr.el.1; omega) (gr.la (by have := gr.el.1; omega) gr.el.2.1)
      rw [eG] at h1; omega
    have GRW : Hid (Gr w5 b d ∧ Rg w5 b' r (sz d.Q) ∧ Below w.heap.size w w5) := Lib.hid ⟨gr, rg, g3.trans (b4.mono g3.size)⟩
    have EQS := Lib.hid (And.intro eP (And.intro eQ eG))
    clear hP' hQ' hG' g3 b4 bx3 x0 x1 gr rg HPQ eP eQ eG
    go_upto_region 13 with fail
    go_cut [10] (fun p wx => p = .bool true ∧ ∃ wv, wv = wx ∧ Gr wv b d ∧ Rg wv b' r (sz d.Q) ∧ Below w.heap.size w wv)
    case first =>
      have y0 := GRW.out.2.1.c0
      have LT := Lib.hid GRW.out.2.1.lt
      have BD := Lib.hid (below_dr w5)
      have GRD := Lib.hid (GRW.out.1.below (below_dr w5))
      have kd := GRW.out.2.1.p.below (below_dr w5)
      rw [EQS.out.1] at kd
      have KD := Lib.hid kd
      clear kd
      go_wp2_with fail
      go_region_held3 (fun w' => w'.cell? ⟨b', 0, none⟩ = some (.slice r.AP r.nP r.cP)) (first | exact y0 | exact z0 | exact v0 | exact x0 | go_keep | assumption)
        (first
        | (go_at_call 12; (refine (gp_any GRD.out.toGr0).mono ?_; rintro e w6 ⟨B6, n6, c6, rfl, k6, b6, -⟩; have KD6 := Lib.hid (KD.out.below b6); have z0 := (b6.cell (p := ⟨b', 0, none⟩) LT.out).trans y0))
        | (go_at_call 13; (refine (to_cn KD6.out (by omega)).mono ?_; rintro e w7 ⟨B7, n7, c7, rfl, k7, b7⟩; have k67 := k6.below b7; have b57 := b6.trans (b7.mono b6.size); have v0 := (b57.cell (p := ⟨b', 0, none⟩) LT.out).trans y0))
        | (go_at_call 11; (refine (same_cn k67 k7).mono ?_; rintro e w8 ⟨rfl, b8⟩; have b58 := b57.trans (b8.mono b57.size); have x0 := (b58.cell (p := ⟨b', 0, none⟩) LT.out).trans y0)))
      all_goals
        have b59 := BD.out.trans (b58.mono BD.out.size)
        have FIN := Lib.hid (And.intro (GRW.out.1.below b59) (And.intro (GRW.out.2.1.below b59) (GRW.out.2.2.trans (b59.mono GRW.out.2.2.size))))
        clear b59 b58 b57 b8 b7 b6 k67 k7 k6 x0 v0 z0
        go_wp2_with fail
        go_meet
        exact ⟨rfl, _, rfl, FIN.out⟩
    case rest =>
      obtain ⟨rfl, w5, rfl, hfin⟩ := hcut
      have GRW := Lib.hid hfin
      clear hfin
      go_upto_region 14 with fail
      go_cut [11] (fun p wx => p = .bool true ∧ ∃ wv, wv = wx ∧ Gr wv b d ∧ Rg wv b' r (sz d.Q) ∧ Below w.heap.size w wv)
      case first =>
        have y0 := GRW.out.2.1.c1
        have LT := Lib.hid GRW.out.2.1.lt
        have BD := Lib.hid (below_dr w5)
        have GRD := Lib.hid (GRW.out.1.below (below_dr w5))
        have kd := GRW.out.2.1.q.below (below_dr w5)
        rw [EQS.out.2.1] at kd
        have KD := Lib.hid kd
        clear kd
        go_wp2_with fail
        go_region_held3 (fun w' => w'.cell? ⟨b', 1, none⟩ = some (.slice r.AQ r.nQ r.cQ)) (first | exact y0 | exact z0 | exact v0 | exact x0 | go_keep | assumption)
          (first
          | (go_at_call 14; (refine (gq_any GRD.out.toGr0).mono ?_; rintro e w6 ⟨B6, n6, c6, rfl, k6, b6, -⟩; have KD6 := Lib.hid (KD.out.below b6); have z0 := (b6.cell (p := ⟨b', 1, none⟩) LT.out).trans y0))
          | (go_at_call 13; (refine (to_cn KD6.out (by omega)).mono ?_; rintro e w7 ⟨B7, n7, c7, rfl, k7, b7⟩; have k67 := k6.below b7; have b57 := b6.trans (b7.mono b6.size); have v0 := (b57.cell (p := ⟨b', 1, none⟩) LT.out).trans y0))
          | (go_at_call 11; (refine (same_cn k67 k7).mono ?_; rintro e w8 ⟨rfl, b8⟩; have b58 := b57.trans (b8.mono b57.size); have x0 := (b58.cell (p := ⟨b', 1, none⟩) LT.out).trans y0)))
        all_goals
          have b59 := BD.out.trans (b58.mono BD.out.size)
          have FIN := Lib.hid (And.intro (GRW.out.1.below b59) (And.intro (GRW.out.2.1.below b59) (GRW.out.2.2.trans (b59.mono GRW.out.2.2.size))))
          clear b59 b58 b57 b8 b7 b6 k67 k7 k6 x0 v0 z0
          go_wp2_with fail
          go_meet
          exact ⟨rfl, _, rfl, FIN.out⟩
      case rest =>
        obtain ⟨rfl, w5, rfl, hfin⟩ := hcut
        have GRW := Lib.hid hfin
        clear hfin
        go_upto_region 15 with fail
        go_cut [12] (fun p wx => p = .bool true ∧ ∃ wv, wv = wx ∧ Gr wv b d ∧ Rg wv b' r (sz d.Q) ∧ Below w.heap.size w wv)
        case first =>
          have y0 := GRW.out.2.1.c2
          have LT := Lib.hid GRW.out.2.1.lt
          have BD := Lib.hid (below_dr w5)
          have GRD := Lib.hid (GRW.out.1.below (below_dr w5))
          have kd := GRW.out.2.1.g.below (below_dr w5)
          rw [EQS.out.2.2] at kd
          have KD := Lib.hid kd
          clear kd
          go_wp2_with fail
          go_region_held3 (fun w' => w'.cell? ⟨b', 2, none⟩ = some (.slice r.AG r.nG r.cG)) (first | exact y0 | exact z0 | exact v0 | exact x0 | go_keep | assumption)
            (first
            | (go_at_call 15; (refine (gg_any GRD.out.toGr0).mono ?_; rintro e w6 ⟨B6, n6, c6, rfl, k6, b6, -⟩; have KD6 := Lib.hid (KD.out.below b6); have z0 := (b6.cell (p := ⟨b', 2, none⟩) LT.out).trans y0))
            | (go_at_call 13; (refine (to_cn KD6.out (by omega)).mono ?_; rintro e w7 ⟨B7, n7, c7, rfl, k7, b7⟩; have k67 := k6.below b7; have b57 := b6.trans (b7.mono b6.size); have v0 := (b57.cell (p := ⟨b', 2, none⟩) LT.out).trans y0))
            | (go_at_call 11; (refine (same_cn k67 k7).mono ?_; rintro e w8 ⟨rfl, b8⟩; have b58 := b57.trans (b8.mono b57.size); have x0 := (b58.cell (p := ⟨b', 2, none⟩) LT.out).trans y0)))
          all_goals
            have b59 := BD.out.trans (b58.mono BD.out.size)
            have FIN := Lib.hid (And.intro (GRW.out.1.below b59) (And.intro (GRW.out.2.1.below b59) (GRW.out.2.2.trans (b59.mono GRW.out.2.2.size))))
            clear b59 b58 b57 b8 b7 b6 k67 k7 k6 x0 v0 z0
            go_wp2_with fail
            go_meet
            exact ⟨rfl, _, rfl, FIN.out⟩
        case rest =>
          obtain ⟨rfl, w5, rfl, hfin⟩ := hcut
          have GRW := Lib.hid hfin
          clear hfin
          have y3 := GRW.out.2.1.c3
          have y1 := GRW.out.2.1.c1
          go_wp2_with fail
          refine (gscalars_any GRW.out.1.toGr0).mono ?_
          rintro e w6 ⟨bs, As, cs, lows, Bs, cBs, Ss, cSs, rfl, md, b6, -⟩
          have LT := Lib.hid (GRW.out.2.1.below b6).lt
          have q3 := (GRW.out.2.1.below b6).c3
          have q1 := (GRW.out.2.1.below b6).c1
          have BD := Lib.hid (below_dr w6)
          have GRD := Lib.hid ((GRW.out.1.below b6).below (below_dr w6))
          have MD := Lib.hid (md.below (below_dr w6))
          have kd := (GRW.out.2.1.below b6).q.below (below_dr w6)
          rw [EQS.out.2.1] at kd
          have KD := Lib.hid kd
          have B6 := Lib.hid (GRW.out.2.2.trans (b6.mono GRW.out.2.2.size))
          have ss : ((sz d.Q : Int) == (sz d.Q : Int)) = true := by simp
          have ss' : (sz d.Q == sz d.Q) = true := by simp
          clear kd b6 md y3 y1
          go_wp2_with fail
          go_region_held3 (fun w' => w'.cell? ⟨b', 3, none⟩ = some (.int .i64 (sz d.Q : Nat)) ∧ w'.cell? ⟨b', 1, none⟩ = some (.slice r.AQ r.nQ r.cQ)) (first | exact ⟨q3, q1⟩ | exact ⟨z3, z1⟩ | exact ⟨v3, v1⟩ | exact ⟨x3, x1⟩ | go_keep | assumption)
            (first
            | (go_at_call 17; (refine (gsize_any GRD.out.toGr0).mono ?_; rintro e w6b ⟨rfl, rfl⟩))
            | (go_at_call 18; (refine (modulus_any MD.out).mono ?_; rintro e w7 ⟨B7, n7, c7, rfl, k7, b7, -⟩; have KD7 := Lib.hid (KD.out.below b7); have z3 := (b7.cell (p := ⟨b', 3, none⟩) LT.out).trans q3; have z1 := (b7.cell (p := ⟨b', 1, none⟩) LT.out).trans q1))
            | (go_at_call 13; (refine (to_cn KD7.out (by omega)).mono ?_; rintro e w8 ⟨B8, n8, c8, rfl, k8, b8⟩; have k78 := k7.below b8; have b68 := b7.trans (b8.mono b7.size); have v3 := (b68.cell (p := ⟨b', 3, none⟩) LT.out).trans q3; have v1 := (b68.cell (p := ⟨b', 1, none⟩) LT.out).trans q1))
            | (go_at_call 11; (refine (same_cn k78 k8).mono ?_; rintro e w9 ⟨rfl, b9⟩; have b69 := b68.trans (b9.mono b68.size); have x3 := (b69.cell (p := ⟨b', 3, none⟩) LT.out).trans q3; have x1 := (b69.cell (p := ⟨b', 1, none⟩) LT.out).trans q1)))
          all_goals
            have GG := Lib.hid (B6.out.trans ((BD.out.trans (b69.mono BD.out.size)).mono B6.out.size))
            clear b69 b68 b9 b8 b7 k78 k8 k7
            go_wp2
            go_ret
            exact ⟨by first | rfl | (simp; done), GG.out⟩
theorem lit6 {S : Nat → Stp} {ng n : Nat} (h : Lit4 S ng n) : ∀ i, i < n → (S i).n1 ≤ 60 ∧ (S i).n2 ≤ 60 ∧ (S i).n3 ≤ 60 := fun i hi => by have := h.2.2 i hi; unfold Sh4 at this; omega
theorem groupNew_walk (hg : Told w Ag ng cg zg) (hch : Ch w a n c S) (et : Et w) :
    Calls Tryz.prog 3 #[.agg #[.slice Ag ng cg, .slice a n c]] w fun e w' => e = .returned (.bool true) ∧ Below w.heap.size w w' := by
  have n60 := hch.c60
  by_cases hn : n = 0 ∨ 64 < n
  · exact groupNew_code hg hch (cd := 1) (by decide) (by decide) (Lib.hid fun W _ _ => gnew_arg hn (by omega)) (Lib.hid fun W _ _ _ => rnew_arg hn (by omega))
  · have h1 : 1 ≤ n := by omega
    have h64 : n ≤ 64 := by omega
    obtain ⟨bc, off, rfl, -, -⟩ := hch.ex (by omega)
    rcases good_or (fun j => (S j).P) (fun j => (S j).Q) (fun j => (S j).A) n with good | ⟨k, cd, hk, hj, hbd, hc⟩
    · have good : ∀ i, i < n → bdS S n i = 0 := good
      by_cases hq : (S 0).P / 2 = (S 0).Q ∧ 3 ≤ (S 0).Q
      · have safe := safe_of good h1 hq.1 hq.2
        by_cases el : El (S 0).P (S 0).Q (val W zg)
        · by_cases g1 : val W zg = 1
          · rw [g1] at el
            exact groupNew_code hg hch (cd := 8) (by decide) (by decide)
              (Lib.hid fun W h h' => by rw [g1] at h; exact gnew_one h h' h1 h64 good safe el)
              (Lib.hid fun W h h' l => rnew_amiss h l.1 h' h1 h64 (lit6 l) good (.inr ⟨hq.1, hq.2, .inr g1, rfl⟩))
          · rcases Nat.lt_or_ge (nb (S 0).Q) 9 with big | big
            · exact groupNew_code hg hch (cd := 14) (by decide) (by decide)
                (Lib.hid fun W h h' => gnew_small h h' h1 h64 good safe el g1 big)
                (Lib.hid fun W h h' l => (rnew_gen h l.1 h' h1 h64 (lit6 l) good safe el g1).mono fun e w' q => q.elim (fun q => absurd q.1 (by omega)) (fun q => q.2))
            · exact groupNew_ok hg hch h1 h64 (Lib.hid good) (Lib.hid safe) (Lib.hid el) (Lib.hid g1) (Lib.hid big)
        · exact groupNew_code hg hch (cd := 8) (by decide) (by decide)
            (Lib.hid fun W h h' => gnew_no h h' h1 h64 good safe el)
            (Lib.hid fun W h h' l => rnew_amiss h l.1 h' h1 h64 (lit6 l) good (.inr ⟨hq.1, hq.2, .inl el, rfl⟩))
      · exact groupNew_code hg hch (cd := 14) (by decide) (by decide)
          (Lib.hid fun W h h' => gnew_conf h' h1 h64 good hq)
          (Lib.hid fun W h h' l => rnew_amiss h l.1 h' h1 h64 (lit6 l) good (.inl ⟨hq, rfl⟩))
    · exact groupNew_spot hg hch et h1 h64 hk (Lib.hid hj) (Lib.hid hbd) (Lib.hid hc)
end
end Go.Proofs.YtloajnaphenbjaaGreatDoor
