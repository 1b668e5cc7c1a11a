/-
  An array of integers by value: its cell at an index.
-/
import Derived.Test.YtbffcgnefkkhoaaDoorPka
import Derived.Laws.PanicsMore
namespace Go
theorem run_index_arr {P : Program} {t e : TypeId} {n : Nat} {kk : IntKind} (h : P.underlying t = some (.array n e)) (he : P.underlying e = some (.int kk)) (hs : (P.info? e).map (·.size) = some 1)
    (k : IntKind) {cs : Array Value} {i : Nat} {v : Value} (hi : i < n) (hv : cs[i]? = some v) (w : World) : (Instr.index t (.agg cs) (.int k i)).run P w = .ok v w := by
  have hn : (0 : Int) ≤ (i : Int) ∧ (i : Int) < (n : Int) := by omega
  cases hq : P.info? e with
  | none => rw [hq] at hs; cases hs
  | some r =>
    rw [hq] at hs
    have hr : r.size = 1 := by simpa using hs
    simp [Instr.index, run_underlying h, asIntOf, hn, go_sem, part, isAgg, run_underlying he, sizeOf, typeInfo, hq, hr, hv]
    intro hg; omega
end Go
