/-
  What draws are: bytes out of a seed and a count; numbers below another one; permutations.
-/
import Derived.Test.YtbffcgnefkkhoaaDoorShn
import Derived.Test.YtbffcgnefkkhoaaDoorPkb
import Derived.Test.YtbffcgnefkkhoaaDoorPkg
namespace Go.Proofs.YtbffcgnefkkhoaaDoor
open Go.RowKit
set_option linter.unusedVariables false
/-- The word 'draw'. -/
def drwB : List Int := [100, 114, 97, 119]
/-- The draw of n bytes that is number k of a seed. -/
def drw (seed : List Int) (k n : Nat) : List Int := stream (parts [drwB, seed, be8 (k : Int)]) n
theorem drw_len (seed : List Int) (k n : Nat) : (drw seed k n).length = n := stream_len _ _
theorem drw_dig (seed : List Int) (k n : Nat) : Dig 256 (drw seed k n) := fun x hx => strm_dig _ _ x (List.mem_of_mem_take hx)
/-- How many bits M - 1 has, and how many bytes are drawn for it. -/
def mb (M : Int) : Nat := nb (M - 1)
def ms (M : Int) : Nat := if (mb M + 7) / 8 = 0 then 1 else (mb M + 7) / 8
/-- The number that draw k is, cut to the bits of M - 1. -/
def dx (seed : List Int) (M : Int) (k : Nat) : Int := pv (drw seed k (ms M)) (ms M) % 2 ^ mb M
/-- The highest bit of M - 1 (1 where there is none). -/
def hf (M : Int) : Int := 2 ^ (mb M - 1)
/-- A number below M, by at most t draws more, from number k on; and the count behind it. -/
def blw (seed : List Int) (M : Int) : Nat → Nat → Int × Nat
  | 0, k => (dx seed M (k - 1) % hf M, k)
  | t + 1, k => if dx seed M k < M then (dx seed M k, k + 1) else blw seed M t (k + 1)
theorem two_pos (k : Nat) : (0 : Int) < 2 ^ k := Int.pow_pos (by decide)
theorem dx_bd (seed : List Int) (M : Int) (k : Nat) : 0 ≤ dx seed M k ∧ dx seed M k < 2 ^ mb M := by
  have h := two_pos (mb M)
  unfold dx
  exact ⟨Int.emod_nonneg _ (by omega), Int.emod_lt_of_pos _ h⟩
theorem hf_pos (M : Int) : 0 < hf M := two_pos _
theorem hf_lt {M : Int} (h : 1 < M) : hf M < M := by
  have h1 := (nb_ge (N := M - 1) (by omega)).2
  unfold hf mb
  omega
theorem mb_one : mb 1 = 0 := by unfold mb nb; rw [show (1 : Int) - 1 = 0 by decide, dg_zero]; rfl
theorem blw_bd (seed : List Int) {M : Int} (h : 0 < M) : ∀ t k, 0 ≤ (blw seed M t k).1 ∧ (blw seed M t k).1 < M
  | 0, k => by
    have h0 := hf_pos M
    have h1 := Int.emod_nonneg (dx seed M (k - 1)) (show hf M ≠ 0 by omega)
    have h2 := Int.emod_lt_of_pos (dx seed M (k - 1)) h0
    refine ⟨h1, ?_⟩
    show dx seed M (k - 1) % hf M < M
    rcases Int.lt_or_le 1 M with g | g
    · have := hf_lt g; omega
    · obtain rfl : M = 1 := by omega
      have : hf 1 = 1 := by unfold hf; rw [mb_one]; rfl
      omega
  | t + 1, k => by
    have hd := dx_bd seed M k
    rw [blw]
    split
    · exact ⟨hd.1, by assumption⟩
    · exact blw_bd seed h t (k + 1)
theorem blw_count (seed : List Int) (M : Int) : ∀ t k, k ≤ (blw seed M t k).2 ∧ (blw seed M t k).2 ≤ k + t
  | 0, k => ⟨Nat.le_refl _, Nat.le_refl _⟩
  | t + 1, k => by
    have h := blw_count seed M t (k + 1)
    rw [blw]
    split
    · exact ⟨by show k ≤ k + 1; omega, by show k + 1 ≤ k + (t + 1); omega⟩
    · exact ⟨by omega, by omega⟩
/-- Two elements change places. -/
def swp (l : List Int) (i j : Nat) : List Int := (l.set i (dig l j)).set j (dig l i)
/-- Shuffled from i down. -/
def shf (seed : List Int) : Nat → List Int × Nat → List Int × Nat
  | 0, s => s
  | i + 1, s => shf seed i (swp s.1 (i + 1) (blw seed ((i : Int) + 2) 256 s.2).1.toNat, (blw seed ((i : Int) + 2) 256 s.2).2)
/-- 0 to n - 1. -/
def ups (n : Nat) : List Int := (List.range n).map fun i : Nat => (i : Int)
theorem ups_len (n : Nat) : (ups n).length = n := by simp [ups]
theorem ups_succ (n : Nat) : ups (n + 1) = ups n ++ [(n : Int)] := by simp [ups, List.range_succ]
/-- A permutation of n things, from count k on; and the count behind it. -/
def prm (seed : List Int) (n k : Nat) : List Int × Nat := shf seed (n - 1) (ups n, k)
theorem swp_len (l : List Int) (i j : Nat) : (swp l i j).length = l.length := by simp [swp]
theorem shf_len (seed : List Int) : ∀ i s, (shf seed i s).1.length = s.1.length
  | 0, _ => rfl
  | i + 1, s => by rw [shf, shf_len seed i]; exact swp_len _ _ _
theorem prm_len (seed : List Int) (n k : Nat) : (prm seed n k).1.length = n := by unfold prm; rw [shf_len]; exact ups_len n
theorem shf_count (seed : List Int) : ∀ i s, s.2 ≤ (shf seed i s).2 ∧ (shf seed i s).2 ≤ s.2 + 256 * i
  | 0, _ => ⟨Nat.le_refl _, Nat.le_refl _⟩
  | i + 1, s => by
    have h1 := blw_count seed ((i : Int) + 2) 256 s.2
    have h2 := shf_count seed i (swp s.1 (i + 1) (blw seed ((i : Int) + 2) 256 s.2).1.toNat, (blw seed ((i : Int) + 2) 256 s.2).2)
    rw [shf]
    exact ⟨Nat.le_trans h1.1 h2.1, by have := h2.2; simp only at this ⊢; omega⟩
theorem prm_count (seed : List Int) (n k : Nat) : k ≤ (prm seed n k).2 ∧ (prm seed n k).2 ≤ k + 256 * n := by
  have h := shf_count seed (n - 1) (ups n, k)
  unfold prm
  simp only at h
  exact ⟨h.1, by omega⟩
end Go.Proofs.YtbffcgnefkkhoaaDoor
