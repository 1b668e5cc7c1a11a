/-
  The two tables, as the rows' condition lays them.
-/
import Derived.Test.YtjalncdllegfoaaDoorHsb
import Derived.Test.YtjalncdllegfoaaDoorRows
import Derived.ProofKit
import Derived.LaidMore
import Derived.OpenShut
import Derived.Stop.Joined
namespace Go.Proofs.YtjalncdllegfoaaDoor
open Go.ChangeShapes Go.WideShapes Go.ChangeAt Go.RowKit
set_option linter.unusedVariables false
def laidT : List (String × DataW Unit) := [("treenail/hash.startWords", Rows.laid_treenail_hash_startWords), ("treenail/hash.roundWords", Rows.laid_treenail_hash_roundWords)]
theorem gStart : Tryd.prog.globalNamed "treenail/hash.startWords" = some 0 := by kernel_rfl
theorem gRound : Tryd.prog.globalNamed "treenail/hash.roundWords" = some 1 := by kernel_rfl
theorem tStart : (Tryd.prog.globals[0]?).map (·.type) = some 107 := by kernel_rfl
theorem tRound : (Tryd.prog.globals[1]?).map (·.type) = some 120 := by kernel_rfl
theorem cells48 : Tryd.prog.cellsOf 107 = 8 := by kernel_rfl
theorem cellsR : Tryd.prog.cellsOf 120 = 64 := by kernel_rfl
theorem cells32 : Tryd.prog.cellsOf 105 = 1 := by kernel_rfl
/-- An array that reads as these integers. -/
theorem trod_ints {P : Program} {W : World} {t e : TypeId} {n : Nat} {k : IntKind} {l : List Int} {cs : List Value} {p : List MemPlace} {fuel : Nat} (ht : P.underlying t = some (.array n e)) (he : P.underlying e = some (.int k)) (hc : P.cellsOf e = 1) (hct : P.cellsOf t = n)
    (h : DataW.trod (fun _ => ()) P W 0 (fun _ => true) false fuel t cs = some (.agg (l.map fun x => .lit (.int k x)), p)) : cs = l.map (Value.int k) := by
  obtain ⟨xs, m, rfl, hx, hlen, hn, hel⟩ := DataW.trod_array ht h
  simp only [Prod.mk.injEq, DataW.agg.injEq] at hx
  have hl : cs.length = n := hlen.trans hct
  have hll : l.length = n := by
    have := congrArg List.length hx.1
    simpa [hn] using this
  apply List.ext_getElem?
  intro i
  rcases Nat.lt_or_ge i n with hi | hi
  · have h1 := hel i hi
    rw [hc, Nat.mul_one] at h1
    have hxi : xs[i]? = some (xs[i]'(by omega)) := List.getElem?_eq_getElem (by omega)
    rw [hxi] at h1
    obtain ⟨y, e1, e2, -⟩ := DataW.trod_int he h1
    have hli : l[i]? = some (l[i]'(by omega)) := List.getElem?_eq_getElem (by omega)
    have h2 := congrArg (fun q : List (DataW Unit) => q[i]?) hx.1
    simp only [List.getElem?_map, hxi, hli, Option.map_some] at h2
    rw [e2] at h2
    have hy : l[i]'(by omega) = y := by
      injection h2 with h2
      injection h2 with h2
      injection h2
    have h3 : ((cs.drop i).take 1)[0]? = some (.int k y) := by rw [e1]; rfl
    rw [List.getElem?_take_of_lt (by omega), List.getElem?_drop, Nat.add_zero] at h3
    rw [h3, List.getElem?_map, hli, hy]; rfl
  · rw [List.getElem?_eq_none (by omega), List.getElem?_eq_none (by rw [List.length_map]; omega)]
theorem laid_start : Rows.laid_treenail_hash_startWords (H := Unit) = .agg (H0.l.map fun x => .lit (.int .u32 x)) := rfl
theorem laid_round : Rows.laid_treenail_hash_roundWords (H := Unit) = .agg (KT.map fun x => .lit (.int .u32 x)) := rfl
theorem var_heap {P : Program} {W : World} {n : String} {g : Nat} {cs : Array Value} (hg : P.globalNamed n = some g) (h : W.var? P n = some cs) (hz : ∃ c t, W.heap[g]? = some (.cells c t (0, 0))) : ∃ t, W.heap[g]? = some (.cells cs t (0, 0)) := by
  obtain ⟨c, t, e⟩ := hz
  unfold World.var? at h
  rw [hg] at h
  simp only [Option.bind_some, e, Option.some.injEq] at h
  subst h
  exact ⟨t, e⟩
/-- WHAT THE CONDITION GIVES THE WALKS. -/
theorem tabs_of_laid {W : World} (h : laidMetH Tryd.prog laidT W) : Tabs W := by
  rw [MakeChecks.laidMetH_plain _ _ _ (by kernel_rfl)] at h
  obtain ⟨ps, ⟨g0, t0, cs0, f0, p0, q0, hg0, ht0, hv0, hd0, ⟨g1, t1, cs1, f1, p1, q1, hg1, ht1, hv1, hd1, hq1, hq0⟩, hps⟩, -, hfr⟩ := h
  obtain rfl := Option.some.inj (gStart.symm.trans hg0)
  obtain rfl := Option.some.inj (gRound.symm.trans hg1)
  obtain rfl := Option.some.inj (tStart.symm.trans ht0)
  obtain rfl := Option.some.inj (tRound.symm.trans ht1)
  rw [laid_start] at hd0
  rw [laid_round] at hd1
  have c0 := trod_ints Tryd.underlying107 Tryd.underlying105 cells32 cells48 hd0
  have c1 := trod_ints Tryd.underlying120 Tryd.underlying105 cells32 cellsR hd1
  have z0 : 0 < cs0.size := by rw [← Array.length_toList, c0]; decide
  have z1 : 0 < cs1.size := by rw [← Array.length_toList, c1]; decide
  refine ⟨?_, ?_⟩
  · obtain ⟨t, e⟩ := var_heap gStart hv0 (hfr _ 0 (by rw [hps]; exact List.mem_append_left _ (List.mem_append_left _ (List.mem_map.2 ⟨0, List.mem_range.2 z0, rfl⟩)))).1
    refine ⟨t, ?_⟩
    rw [e]
    have : cs0 = H0.v := by apply Array.ext'; rw [c0]; rfl
    rw [this]
  · obtain ⟨t, e⟩ := var_heap gRound hv1 (hfr _ 0 (by rw [hps, hq0]; exact List.mem_append_right _ (List.mem_append_left _ (List.mem_append_left _ (List.mem_map.2 ⟨0, List.mem_range.2 z1, rfl⟩))))).1
    refine ⟨t, ?_⟩
    rw [e]
    have : cs1 = arrV .u32 KT := by apply Array.ext'; rw [c1]; rfl
    rw [this]
/-- The heap that the program's own laying leaves meets the condition. -/
theorem door_met (os : Os) (args : Array Value) : laidMetH Tryd.prog laidT ((World.doorLaid Tryd.prog 4000 os).forCall (fun _ _ => 0) ⟨#[], args, []⟩).memory :=
  laidMetH_of_parts3 (fuel := 8) (laidMet_of_run' 8 (by kernel_rfl) (by kernel_rfl)) (by kernel_rfl) (by kernel_rfl)
end Go.Proofs.YtjalncdllegfoaaDoor
