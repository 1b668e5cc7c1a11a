/-
  The library's calls of math/bits at this program, by the shelf's contracts: Add64, Sub64, Mul64, Len64, LeadingZeros64, over the integers.
-/
import Derived.Test.YtloajnaphenbjaaProg
import Derived.WalkKit
import Derived.Shelf.Small.Bits
import Derived.Shelf.Strconv.Itoa0
import Derived.Shelf.Bits.Mul64
import Derived.Shelf.Spec.BitsCarry
namespace Go.Proofs.Ytloajnaphenbjaa
open Go.Shelf Go.RowKit
def renA : Ren := ⟨fun | 25 => 59 | 26 => 76 | n => n, fun | 22 => 49 | n => n, fun | n => n⟩
theorem lays25 : Lays7.n25 Try.prog renA := {
  mixed := by kernel_rfl
  f25 := Try.func59.trans (congrArg some (by kernel_rfl))
  t22 := Try.underlying49
  a22 := Try.isAgg49
  z22 := Try.sizeOf49
  v22 := Try.zeroValue49
  i22 := by kernel_rfl }
theorem lays26 : Lays7.n26 Try.prog renA := {
  mixed := by kernel_rfl
  f26 := Try.func76.trans (congrArg some (by kernel_rfl))
  t22 := Try.underlying49
  a22 := Try.isAgg49
  z22 := Try.sizeOf49
  v22 := Try.zeroValue49
  i22 := by kernel_rfl }
def renB : Ren := ⟨fun | 134 => 89 | 129 => 63 | 264 => 94 | n => n, fun | 53 => 49 | 3 => 3 | 4 => 4 | 46 => 110 | 5 => 5 | 9 => 9 | n => n, fun | n => n⟩
theorem lays134 : Lays.n134 Try.prog renB := {
  mixed := by kernel_rfl
  f129 := Try.func63.trans (congrArg some (by kernel_rfl))
  f134 := Try.func89.trans (congrArg some (by kernel_rfl))
  t3 := Try.underlying3, a3 := Try.isAgg3, z3 := Try.sizeOf3, v3 := Try.zeroValue3
  t4 := Try.underlying4, a4 := Try.isAgg4, z4 := Try.sizeOf4, v4 := Try.zeroValue4
  t5 := Try.underlying5, a5 := Try.isAgg5, z5 := Try.sizeOf5, v5 := Try.zeroValue5
  t9 := Try.underlying9, a9 := Try.isAgg9, z9 := Try.sizeOf9, v9 := Try.zeroValue9
  t46 := Try.underlying110, a46 := Try.isAgg110, z46 := Try.sizeOf110, v46 := Try.zeroValue110
  t53 := Try.underlying49, a53 := Try.isAgg49, z53 := Try.sizeOf49, v53 := Try.zeroValue49 }
theorem lays129 : Lays.n129 Try.prog renB := { lays134 with }
theorem lays264 : Lays.n264 Try.prog renB := { lays134 with
  f264 := Try.func94.trans (congrArg some (by kernel_rfl)) }

/-- bits.LeadingZeros64. -/
theorem lz64 (x : Int) (w : World) (h0 : 0 ≤ x) (h1 : x < 18446744073709551616) :
    Calls Try.prog 89 #[.int .u64 x] w fun e w' => e = .returned (.int .i64 (64 - (Lib.bitLen x.toNat : Int))) ∧ w = w' :=
  (Any.bits_LeadingZeros64 lays134 x w h0 (by omega)).mono fun _ _ h => ⟨h.1, h.2.symm⟩
/-- bits.Len64. -/
theorem len64 (x : Int) (w : World) (h0 : 0 ≤ x) (h1 : x < 18446744073709551616) :
    Calls Try.prog 63 #[.int .u64 x] w fun e w' => e = .returned (.int .i64 (Lib.bitLen x.toNat)) ∧ w = w' :=
  (Any.bits_Len64 lays129 x w h0 (by omega)).mono fun _ _ h => ⟨h.1, h.2.symm⟩
/-- The two halves of a product. -/
def mhi (x y : Int) : Int := x * y / 18446744073709551616
def mlo (x y : Int) : Int := x * y % 18446744073709551616
/-- bits.Mul64. -/
theorem mul64 (x y : Int) (w : World) (h0 : 0 ≤ x) (h1 : x < 18446744073709551616) (k0 : 0 ≤ y) (k1 : y < 18446744073709551616) :
    Calls Try.prog 94 #[.int .u64 x, .int .u64 y] w fun e w' => e = .returned (.tuple #[.int .u64 (mhi x y), .int .u64 (mlo x y)]) ∧ w = w' := by
  obtain ⟨x, rfl⟩ := Int.eq_ofNat_of_zero_le h0
  obtain ⟨y, rfl⟩ := Int.eq_ofNat_of_zero_le k0
  refine (Any.bits_Mul64 lays264 x y (by omega) (by omega) w).mono fun _ _ h => ⟨h.1.trans ?_, h.2.symm⟩
  unfold mhi mlo
  rw [Int.natCast_ediv, Int.natCast_emod, Int.natCast_mul]
  rfl
/-- The sum and its carry, the difference and its borrow. -/
def alo (x y c : Int) : Int := (x + y + c) % 18446744073709551616
def ahi (x y c : Int) : Int := (x + y + c) / 18446744073709551616
def slo (x y b : Int) : Int := (x - y - b) % 18446744073709551616
def shi (x y b : Int) : Int := if x < y + b then 1 else 0
theorem add64 (x y c : Int) (hx : 0 ≤ x) (hy : 0 ≤ y) (hc0 : 0 ≤ c) (hc : c ≤ 1) (w : World) : (callFunc 59 #[.int .u64 x, .int .u64 y, .int .u64 c]).run Try.prog w =
    .ok (.value (.tuple #[.int .u64 (alo x y c), .int .u64 (ahi x y c)])) w := by
  obtain ⟨x, rfl⟩ := Int.eq_ofNat_of_zero_le hx
  obtain ⟨y, rfl⟩ := Int.eq_ofNat_of_zero_le hy
  obtain ⟨c, rfl⟩ := Int.eq_ofNat_of_zero_le hc0
  unfold alo ahi
  refine (Any7.bits_Add64 lays25 x y c (by omega) w).trans ?_
  congr 5 <;> omega
theorem sub64 (x y b : Int) (hx : 0 ≤ x) (hy : 0 ≤ y) (hy' : y < 18446744073709551616) (hb0 : 0 ≤ b) (hb : b ≤ 1) (w : World) : (callFunc 76 #[.int .u64 x, .int .u64 y, .int .u64 b]).run Try.prog w =
    .ok (.value (.tuple #[.int .u64 (slo x y b), .int .u64 (shi x y b)])) w := by
  obtain ⟨x, rfl⟩ := Int.eq_ofNat_of_zero_le hx
  obtain ⟨y, rfl⟩ := Int.eq_ofNat_of_zero_le hy
  obtain ⟨b, rfl⟩ := Int.eq_ofNat_of_zero_le hb0
  unfold slo shi
  have e1 : (((x + 18446744073709551616 - y - b) % 18446744073709551616 : Nat) : Int) = ((x : Int) - y - b) % 18446744073709551616 := by omega
  have e2 : ((if x < y + b then 1 else 0 : Nat) : Int) = if (x : Int) < y + b then 1 else 0 := by split <;> split <;> omega
  rw [← e1, ← e2]
  exact Any7.bits_Sub64 lays26 x y b (by omega) w
theorem add64_bd {x y c : Int} (hx : 0 ≤ x) (hx' : x < 18446744073709551616) (hy : 0 ≤ y) (hy' : y < 18446744073709551616) (hc0 : 0 ≤ c) (hc : c ≤ 1) :
    0 ≤ alo x y c ∧ alo x y c < 18446744073709551616 ∧ 0 ≤ ahi x y c ∧ ahi x y c ≤ 1 ∧ alo x y c + 18446744073709551616 * ahi x y c = x + y + c := by unfold alo ahi; omega
theorem sub64_bd {x y c : Int} (hx : 0 ≤ x) (hx' : x < 18446744073709551616) (hy : 0 ≤ y) (hy' : y < 18446744073709551616) (hc0 : 0 ≤ c) (hc : c ≤ 1) :
    0 ≤ slo x y c ∧ slo x y c < 18446744073709551616 ∧ 0 ≤ shi x y c ∧ shi x y c ≤ 1 ∧ slo x y c - 18446744073709551616 * shi x y c = x - y - c := by unfold slo shi; split <;> omega
theorem mul64_bd {x y : Int} (hx : 0 ≤ x) (hx' : x < 18446744073709551616) (hy : 0 ≤ y) (hy' : y < 18446744073709551616) :
    0 ≤ mlo x y ∧ mlo x y < 18446744073709551616 ∧ 0 ≤ mhi x y ∧ mhi x y ≤ 18446744073709551614 ∧ mlo x y + 18446744073709551616 * mhi x y = x * y := by
  have h1 : 0 ≤ x * y := Int.mul_nonneg hx hy
  have h2 : x * y ≤ 18446744073709551615 * 18446744073709551615 := Int.mul_le_mul (by omega) (by omega) hy (by decide)
  unfold mlo mhi; omega
end Go.Proofs.Ytloajnaphenbjaa
