/-
  The library's calls of math/bits at this program, by the shelf's contracts: Add64, Sub64, Mul64, Len64, LeadingZeros64, over the integers.
-/
import Derived.Test.YtloajnaphenbjaaGreatDoorProg
import Derived.WalkKit
import Derived.Shelf.Small.Bits
import Derived.Shelf.Strconv.Itoa0
import Derived.Shelf.Bits.Mul64
import Derived.Shelf.Spec.BitsCarry
namespace Go.Proofs.YtloajnaphenbjaaGreatDoor
open Go.Shelf Go.RowKit
def renA : Ren := ⟨fun | 25 => 83 | 26 => 87 | n => n, fun | 22 => 38 | n => n, fun | n => n⟩
theorem lays25 : Lays7.n25 Tryz.prog renA := {
  mixed := by kernel_rfl
  f25 := Tryz.func83.trans (congrArg some (by kernel_rfl))
  t22 := Tryz.underlying38
  a22 := Tryz.isAgg38
  z22 := Tryz.sizeOf38
  v22 := Tryz.zeroValue38
  i22 := by kernel_rfl }
theorem lays26 : Lays7.n26 Tryz.prog renA := {
  mixed := by kernel_rfl
  f26 := Tryz.func87.trans (congrArg some (by kernel_rfl))
  t22 := Tryz.underlying38
  a22 := Tryz.isAgg38
  z22 := Tryz.sizeOf38
  v22 := Tryz.zeroValue38
  i22 := by kernel_rfl }
def renB : Ren := ⟨fun | 134 => 113 | 129 => 88 | 264 => 117 | n => n, fun | 53 => 38 | 3 => 3 | 4 => 4 | 46 => 158 | 5 => 5 | 9 => 9 | n => n, fun | n => n⟩
theorem lays134 : Lays.n134 Tryz.prog renB := {
  mixed := by kernel_rfl
  f129 := Tryz.func88.trans (congrArg some (by kernel_rfl))
  f134 := Tryz.func113.trans (congrArg some (by kernel_rfl))
  t3 := Tryz.underlying3, a3 := Tryz.isAgg3, z3 := Tryz.sizeOf3, v3 := Tryz.zeroValue3
  t4 := Tryz.underlying4, a4 := Tryz.isAgg4, z4 := Tryz.sizeOf4, v4 := Tryz.zeroValue4
  t5 := Tryz.underlying5, a5 := Tryz.isAgg5, z5 := Tryz.sizeOf5, v5 := Tryz.zeroValue5
  t9 := Tryz.underlying9, a9 := Tryz.isAgg9, z9 := Tryz.sizeOf9, v9 := Tryz.zeroValue9
  t46 := Tryz.underlying158, a46 := Tryz.isAgg158, z46 := Tryz.sizeOf158, v46 := Tryz.zeroValue158
  t53 := Tryz.underlying38, a53 := Tryz.isAgg38, z53 := Tryz.sizeOf38, v53 := Tryz.zeroValue38 }
theorem lays129 : Lays.n129 Tryz.prog renB := { lays134 with }
theorem lays264 : Lays.n264 Tryz.prog renB := { lays134 with
  f264 := Tryz.func117.trans (congrArg some (by kernel_rfl)) }

/-- bits.LeadingZeros64. -/
theorem lz64 (x : Int) (w : World) (h0 : 0 ≤ x) (h1 : x < 18446744073709551616) :
    Calls Tryz.prog 113 #[.int .u64 x] w fun e w' => e = .returned (.int .i64 (64 - (Lib.bitLen x.toNat : Int))) ∧ w = w' :=
  (Any.bits_LeadingZeros64 lays134 x w h0 (by omega)).mono fun _ _ h => ⟨h.1, h.2.symm⟩
/-- bits.Len64. -/
theorem len64 (x : Int) (w : World) (h0 : 0 ≤ x) (h1 : x < 18446744073709551616) :
    Calls Tryz.prog 88 #[.int .u64 x] w fun e w' => e = .returned (.int .i64 (Lib.bitLen x.toNat)) ∧ w = w' :=
  (Any.bits_Len64 lays129 x w h0 (by omega)).mono fun _ _ h => ⟨h.1, h.2.symm⟩
/-- The two halves of a product. -/
def mhi (x y : Int) : Int := x * y / 18446744073709551616
def mlo (x y : Int) : Int := x * y % 18446744073709551616
/-- bits.Mul64. -/
theorem mul64 (x y : Int) (w : World) (h0 : 0 ≤ x) (h1 : x < 18446744073709551616) (k0 : 0 ≤ y) (k1 : y < 18446744073709551616) :
    Calls Tryz.prog 117 #[.int .u64 x, .int .u64 y] w fun e w' => e = .returned (.tuple #[.int .u64 (mhi x y), .int .u64 (mlo x y)]) ∧ w = w' := by
  obtain ⟨x, rfl⟩ := Int.eq_ofNat_of_zero_le h0
  obtain ⟨y, rfl⟩ := Int.eq_ofNat_of_zero_le k0
  refine (Any.bits_Mul64 lays264 x y (by omega) (by omega) w).mono fun _ _ h => ⟨h.1.trans ?_, h.2.symm⟩
  unfold mhi mlo
  rw [Int.natCast_ediv, Int.natCast_emod, Int.natCast_mul]
  rfl
/-- The sum and its carry, the difference and its borrow. -/
def alo (x y c : Int) : Int := (x + y + c) % 18446744073709551616
def ahi (x y c : Int) : Int := (x + y + c) / 18446744073709551616
def slo (x y b : Int) : Int := (x - y - b) % 18446744073709551616
def shi (x y b : Int) : Int := if x < y + b then 1 else 0
theorem add64 (x y c : Int) (hx : 0 ≤ x) (hy : 0 ≤ y) (hc0 : 0 ≤ c) (hc : c ≤ 1) (w : World) : (callFunc 83 #[.int .u64 x, .int .u64 y, .int .u64 c]).run Tryz.prog w =
    .ok (.value (.tuple #[.int .u64 (alo x y c), .int .u64 (ahi x y c)])) w := by
  obtain ⟨x, rfl⟩ := Int.eq_ofNat_of_zero_le hx
  obtain ⟨y, rfl⟩ := Int.eq_ofNat_of_zero_le hy
  obtain ⟨c, rfl⟩ := Int.eq_ofNat_of_zero_le hc0
  unfold alo ahi
  refine (Any7.bits_Add64 lays25 x y c (by omega) w).trans ?_
  congr 5 <;> omega
theorem sub64 (x y b : Int) (hx : 0 ≤ x) (hy : 0 ≤ y) (hy' : y < 18446744073709551616) (hb0 : 0 ≤ b) (hb : b ≤ 1) (w : World) : (callFunc 87 #[.int .u64 x, .int .u64 y, .int .u64 b]).run Tryz.prog w =
    .ok (.value (.tuple #[.int .u64 (slo x y b), .int .u64 (shi x y b)])) w := by
  obtain ⟨x, rfl⟩ := Int.eq_ofNat_of_zero_le hx
  obtain ⟨y, rfl⟩ := Int.eq_ofNat_of_zero_le hy
  obtain ⟨b, rfl⟩ := Int.eq_ofNat_of_zero_le hb0
  unfold slo shi
  have e1 : (((x + 18446744073709551616 - y - b) % 18446744073709551616 : Nat) : Int) = ((x : Int) - y - b) % 18446744073709551616 := by omega
  have e2 : ((if x < y + b then 1 else 0 : Nat) : Int) = if (x : Int) < y + b then 1 else 0 := by split <;> split <;> omega
  rw [← e1, ← e2]
  exact Any7.bits_Sub64 lays26 x y b (by omega) w
theorem add64_bd {x y c : Int} (hx : 0 ≤ x) (hx' : x < 18446744073709551616) (hy : 0 ≤ y) (hy' : y < 18446744073709551616) (hc0 : 0 ≤ c) (hc : c ≤ 1) :
    0 ≤ alo x y c ∧ alo x y c < 18446744073709551616 ∧ 0 ≤ ahi x y c ∧ ahi x y c ≤ 1 ∧ alo x y c + 18446744073709551616 * ahi x y c = x + y + c := by unfold alo ahi; omega
theorem sub64_bd {x y c : Int} (hx : 0 ≤ x) (hx' : x < 18446744073709551616) (hy : 0 ≤ y) (hy' : y < 18446744073709551616) (hc0 : 0 ≤ c) (hc : c ≤ 1) :
    0 ≤ slo x y c ∧ slo x y c < 18446744073709551616 ∧ 0 ≤ shi x y c ∧ shi x y c ≤ 1 ∧ slo x y c - 18446744073709551616 * shi x y c = x - y - c := by unfold slo shi; split <;> omega
theorem mul64_bd {x y : Int} (hx : 0 ≤ x) (hx' : x < 18446744073709551616) (hy : 0 ≤ y) (hy' : y < 18446744073709551616) :
    0 ≤ mlo x y ∧ mlo x y < 18446744073709551616 ∧ 0 ≤ mhi x y ∧ mhi x y ≤ 18446744073709551614 ∧ mlo x y + 18446744073709551616 * mhi x y = x * y := by
  have h1 : 0 ≤ x * y := Int.mul_nonneg hx hy
  have h2 : x * y ≤ 18446744073709551615 * 18446744073709551615 := Int.mul_le_mul (by omega) (by omega) hy (by decide)
  unfold mlo mhi; omega
end Go.Proofs.YtloajnaphenbjaaGreatDoor
