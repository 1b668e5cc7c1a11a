/-
  Bytes as a string; strings that are the same; two codes compared by '!='; what bytes are as a number, and back.
-/
import Derived.Test.YtbffcgnefkkhoaaDoorPkb
import Derived.Test.YtbffcgnefkkhoaaDoorPkf
import Derived.Test.YtbffcgnefkkhoaaDoorCnv
namespace Go
section
variable {P : Program} (w : World)
theorem run_neq_iface_int {ti tn : TypeId} {ms : Array (String × TypeId)} {i : TypeInfo} {k : IntKind} (a b : Int)
    (hi : P.underlying ti = some (.interface ms)) (hn : P.underlying tn = some (.int k)) (hinfo : P.info? tn = some i) (hcomp : i.comparable = true) :
    (binOp .neq ti (.iface tn (.int k a)) (.iface tn (.int k b))).run P w = .ok (.bool (!(a == b))) w := by
  simp only [binOp]
  simp [Op.equal, Op.maxDepth, run_equalIn_iface_int w 9998 a b hi hn hinfo hcomp]
end
end Go
namespace Go.Proofs.YtbffcgnefkkhoaaDoor
open Go.RowKit
set_option linter.unusedVariables false
theorem neq_code (a b : Int) (w : World) : (binOp .neq 44 (.iface 59 (.int .i64 a)) (.iface 59 (.int .i64 b))).run Tryd.prog w = .ok (.bool (!(a == b))) w := by
  have h := comp32
  cases hi : Tryd.prog.info? 59 with
  | none => rw [hi] at h; cases h
  | some i =>
    rw [hi] at h
    exact run_neq_iface_int w a b Tryd.underlying44 Tryd.underlying59 hi (by simpa using h)
theorem low_lt {bs : List Int} (hd : Dig 256 bs) (n k : Nat) : 0 ≤ low bs n k ∧ low bs n k < 256 ^ k := vf_bd (by decide) (fun j => dig_bd (by decide) hd _) k
theorem bytes_back {bs : List Int} {n : Nat} (hd : Dig 256 bs) (hl : bs.length = n) : bytesL (low bs n n) n = bs := by
  refine ext_dig (by rw [bytesL_len, hl]) (fun j hj => ?_)
  rw [bytesL_len] at hj
  rw [bytesL_dig hj]
  -- byte n - 1 - j of the number
  have h1 : low bs n n = low bs n (n - 1 - j) + 256 ^ (n - 1 - j) * (dig bs j + 256 * vf 256 (fun i => dig bs (n - 1 - (n - 1 - j + 1 + i))) j) := by
    have a := vf_split 256 (fun i => dig bs (n - 1 - i)) (n - 1 - j + 1) j
    rw [show n - 1 - j + 1 + j = n by omega] at a
    have b : vf 256 (fun i => dig bs (n - 1 - i)) (n - 1 - j + 1) = low bs n (n - 1 - j) + dig bs j * 256 ^ (n - 1 - j) := by
      show low bs n (n - 1 - j) + dig bs (n - 1 - (n - 1 - j)) * 256 ^ (n - 1 - j) = _
      rw [show n - 1 - (n - 1 - j) = j by omega]
    rw [b, Int.pow_succ] at a
    show vf 256 (fun i => dig bs (n - 1 - i)) n = _
    rw [a]
    generalize (256 : Int) ^ (n - 1 - j) = p
    grind
  have h2 := low_lt hd n (n - 1 - j)
  have hp : (0 : Int) < 256 ^ (n - 1 - j) := Int.pow_pos (by decide)
  have d := dig_bd (b := 256) (by decide) hd j
  rw [h1, Int.add_mul_ediv_left _ _ (Int.ne_of_gt hp), Int.ediv_eq_zero_of_lt h2.1 h2.2, Int.zero_add, Int.add_mul_emod_self_left, Int.emod_eq_of_lt d.1 d.2]
theorem nb_bytes {bs : List Int} {n : Nat} (hd : Dig 256 bs) : nb (low bs n n) ≤ 8 * n := by
  refine dg_len_le (by decide) (low_lt hd n n).1 ?_
  have h := (low_lt hd n n).2
  have e : (256 : Int) ^ n = 2 ^ (8 * n) := by
    have : (256 : Int) = 2 ^ 8 := by decide
    rw [this, ← Int.pow_mul]
  rw [← e]; exact h
theorem dr_bytes {bs : List Int} {n : Nat} (hd : Dig 256 bs) (hn : n ≤ 512) : dr (low bs n n) ≤ 256 := dr_pow (low_lt hd n n).1 (low_lt hd n n).2 hn

end Go.Proofs.YtbffcgnefkkhoaaDoor
