/-
  What the document's primes and Made answer.
-/
import Derived.Test.YtnfncaaclpddkaaDoorRtc
import Derived.Test.YtnfncaaclpddkaaDoorCat
import Derived.OwnWalk
import Derived.Deep.CutBlock
import Derived.Deep.DeepCutAuto
namespace Go.Proofs.YtnfncaaclpddkaaDoor
open Go.RowKit
set_option linter.unusedVariables false
/-- The first 64 primes. -/
def PL : List Int := [2, 3, 5, 7, 11, 13, 17, 19, 23, 29, 31, 37, 41, 43, 47, 53, 59, 61, 67, 71, 73, 79, 83, 89, 97, 101, 103, 107, 109, 113, 127, 131, 137, 139, 149, 151, 157, 163, 167, 173, 179, 181, 191, 193, 197, 199, 211, 223, 227, 229, 233, 239, 241, 251, 257, 263, 269, 271, 277, 281, 283, 293, 307, 311]
/-- Those below k. -/
def PLi (k : Nat) : List Int := PL.filter fun p => decide (p < (k : Int))
def nod (k : Nat) (l : List Int) : Bool := l.all fun p => !((k : Int) % p == 0)
theorem PLi_two : PLi 2 = [] := by decide
theorem PLi_end : PLi 312 = PL := by decide +kernel
theorem PLi_len : ∀ k, k < 313 → ((PLi k).length < 64 ↔ k < 312) := by decide +kernel
theorem PLi_next : ∀ k, k < 312 → 2 ≤ k → PLi (k + 1) = if nod k (PLi k) then PLi k ++ [(k : Int)] else PLi k := by decide +kernel
theorem PLi_bd {k : Nat} {x : Int} (h : x ∈ PLi k) : 2 ≤ x ∧ x ≤ 311 := by
  have h1 : x ∈ PL := (List.mem_filter.1 h).1
  have h2 : ∀ y ∈ PL, 2 ≤ y ∧ y ≤ 311 := by decide
  exact h2 x h1
theorem PLi_len_le (k : Nat) : (PLi k).length ≤ 64 := List.length_filter_le _ PL
def PrR (w : World) (v k : Value) (wr : World) : Prop :=
  ∃ m : Nat, 2 ≤ m ∧ m ≤ 312 ∧ k = .int .i64 m ∧ wr.ownsRow w.heap.size 3 1 v (PLi m).length ((PLi m).map (Value.int .i64)) ∧ Below w.heap.size w wr
def PrI (m : Nat) (w : World) (ok i : Value) (wr : World) : Prop :=
  ∃ j : Nat, j ≤ (PLi m).length ∧ i = .int .i64 j ∧ ok = .bool (nod m ((PLi m).take j)) ∧ w = wr
theorem nod_snoc (m : Nat) (l : List Int) (x : Int) : nod m (l ++ [x]) = (nod m l && !((m : Int) % x == 0)) := by simp [nod]
theorem own_alloc1 {w : World} {base : Nat} {e : TypeId} {v : Value} {n : Nat} {xs : List Value} (h : w.ownsRow base e 1 v n xs) (o : Obj) : (w.alloc o).ownsRow base e 1 v n xs := by
  refine ⟨h.1, ?_⟩
  rcases h.2 with g | ⟨g, cap, cur, h1, h2, h3, h4⟩
  · exact .inl g
  · exact .inr ⟨g, cap, cur, h1, h2, (Below.heap_alloc w o g (Array.getElem?_eq_some_iff.1 h3).1).trans h3, h4⟩
theorem info_int : (Tryd.prog.info? 3).map (fun i => (i.zero, i.size, i.bytes)) = some (some (.int .i64 0), 1, 8) := by kernel_rfl
set_option maxHeartbeats 4000000 in
set_option maxRecDepth 100000 in
theorem primes_any (w : World) :
    Calls Tryd.prog 21 #[.int .i64 64] w fun e w' => ∃ v, e = .returned v ∧ w'.ownsRow w.heap.size 3 1 v PL.length (PL.map (Value.int .i64)) ∧ Below w.heap.size w w' := by
  go_enter Tryd.func21, Tryd.ntmps21
  go_wp2_with fail
  go_loopw [3, 4] (fun v k wr => PrR w v k wr) (fun _ k _ => 312 - (intOf k).toNat)
  case atStart => exact ⟨2, by omega, by omega, rfl, by rw [PLi_two]; exact ⟨rfl, .inl ⟨rfl, rfl⟩⟩, Below.refl _ _⟩
  case round =>
    obtain ⟨m, hm2, hm, rfl, ho, hb⟩ := hrel
    have hle := PLi_len_le m
    have hli := PLi_len m (by omega)
    have hnx := PLi_next m
    obtain ⟨L, hL⟩ : ∃ L, PLi m = L := ⟨_, rfl⟩
    have hbd : ∀ x ∈ L, 2 ≤ x ∧ x ≤ 311 := fun x hx => PLi_bd (by rw [hL]; exact hx)
    obtain ⟨A, c, hv, hrd, hc, hA⟩ := own_rd ho
    rw [hL] at hle hli ho hv hrd hc hnx
    obtain ⟨n, hn⟩ : ∃ n, L.length = n := ⟨_, rfl⟩
    rw [hn] at hle hli ho hv hrd hc
    subst hv
    have HL := Lib.hid hL
    have HN := Lib.hid hn
    have HBD := Lib.hid hbd
    have HO := Lib.hid ho
    have HRD := Lib.hid hrd
    have HNX := Lib.hid hnx
    rcases Nat.lt_or_ge m 312 with hlt | hge
    · have hn64 : (n : Int) < 64 := by omega
      clear hL hn hbd ho hrd hnx hli
      go_wp2_with fail
      go_loopw [5, 6] (fun ok i wr' => PrI m wr ok i wr') (fun _ i _ => n - (intOf i).toNat)
      case atStart => exact ⟨0, Nat.zero_le _, rfl, by simp [nod], rfl⟩
      case round =>
        obtain ⟨j, hj, rfl, rfl, rfl⟩ := hrel
        rw [HL.out] at hj ⊢
        rw [HN.out] at hj
        rcases Nat.lt_or_ge j n with hjl | hjg
        · obtain ⟨b, off, x, rfl, hbl, hx, hcell⟩ := HRD.out.at_ hjl
          have hxb := HBD.out x (List.mem_of_getElem? hx)
          have x2 := hxb.1
          have x3 := hxb.2
          have hsn : nod m (L.take (j + 1)) = (nod m (L.take j) && !((m : Int) % x == 0)) := by
            have hlt2 : j < L.length := by have := HN.out; omega
            rw [List.take_succ_eq_append_getElem hlt2, nod_snoc]
            have : L[j] = x := by rw [List.getElem?_eq_getElem hlt2] at hx; exact Option.some.inj hx
            rw [this]
          have HSN := Lib.hid hsn
          obtain ⟨d, hd⟩ : ∃ d, nod m (L.take j) = d := ⟨_, rfl⟩
          rw [hd]
          have HD := Lib.hid hd
          have hmi : (m : Int) ≤ 312 := by omega
          have hji : (j : Int) < (n : Int) := by omega
          have hjj : (j : Int) ≤ 64 := by omega
          clear hsn hxb hx hd
          rcases Int.lt_or_le 0 ((m : Int) % x) with hz | hz
          · have e : ((m : Int) % x == 0) = false := by simp; omega
            go_wp2_with fail
            go_roundw
            case rel => exact ⟨j + 1, by rw [HL.out, HN.out]; omega, by go_num, by rw [HL.out, HSN.out, HD.out, e]; simp, rfl⟩
            case measure => simp [intOf]; omega
          · have hz2 := Int.emod_nonneg (m : Int) (show x ≠ 0 by omega)
            have e : ((m : Int) % x == 0) = true := by simp; omega
            clear hz hz2
            go_wp2_with fail
            go_roundw
            case rel => exact ⟨j + 1, by rw [HL.out, HN.out]; omega, by go_num, by rw [HL.out, HSN.out, e]; simp, rfl⟩
            case measure => simp [intOf]; omega
        · have hjn : j = n := by omega
          have ht : L.take n = L := by rw [← HN.out, List.take_length]
          rw [hjn, ht]
          clear ht
          have hmi : (m : Int) ≤ 312 := by omega
          have s1 := hb.size
          cases hd : nod m L with
          | true =>
            have hnx := HNX.out hlt hm2
            rw [hd, if_pos rfl] at hnx
            have HNX2 := Lib.hid hnx
            have hoa := own_alloc1 HO.out (.cells #[.int .i64 (m : Int)] 3)
            have HOA := Lib.hid hoa
            have hcl : (wr.alloc (.cells #[.int .i64 (m : Int)] 3)).cell? ⟨wr.heap.size, 0, none⟩ = some (.int .i64 m) := by simp [World.cell?_alloc_at]
            have ba := hb.alloc s1 (.cells #[.int .i64 (m : Int)] 3)
            have BA := Lib.hid ba
            have sa : w.heap.size ≤ (wr.alloc (.cells #[.int .i64 (m : Int)] 3)).heap.size := ba.size
            clear hd hnx hoa hjn ba
            go_wp2_with (at_builtin; refine wpList_app _ rfl _ _ 49 rfl w.heap.size 3 .i64 Tryd.underlying49 info_int _ _ L rfl HOA.out wr.heap.size (m : Int) rfl hcl (by omega) sa ?_)
            rintro v2 w2 h2 hg2
            have b2 := own_below BA.out HOA.out hg2 sa (Nat.le_refl _)
            have H2 := Lib.hid h2
            clear h2
            go_wp2_with fail
            go_roundw
            case rel =>
              refine ⟨m + 1, by omega, by omega, by go_num, ?_, b2⟩
              rw [HNX2.out, List.length_append, HN.out]
              simpa using H2.out
            case measure => simp [intOf]; omega
          | false =>
            have hnx := HNX.out hlt hm2
            rw [hd] at hnx
            have HNX2 := Lib.hid hnx
            clear hd hnx hjn
            go_wp2_with fail
            go_roundw
            case rel => exact ⟨m + 1, by omega, by omega, by go_num, by rw [HNX2.out]; simp; rw [HN.out]; exact HO.out, hb⟩
            case measure => simp [intOf]; omega
    · obtain rfl : m = 312 := by omega
      have hn64 : n = 64 := by
        have h := HN.out
        rw [← HL.out, PLi_end] at h
        rw [← h]; rfl
      have hL312 : L = PL := by rw [← HL.out, PLi_end]
      subst hn64 hL312
      clear hL hn hbd hrd hnx hli hle
      go_wp2_with fail
      go_ret
      exact ⟨_, rfl, ho, hb⟩
end Go.Proofs.YtnfncaaclpddkaaDoor
