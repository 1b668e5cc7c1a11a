/-
  Contracts for the laws of layer 5, in one form: what is answered lies in new memory, and nothing that was there has turned.
-/
import Derived.Test.YtbffcgnefkkhoaaDoorUp5
import Derived.Test.YtbffcgnefkkhoaaDoorPkf
import Derived.Deep.RegionWith
namespace Go.Proofs.YtbffcgnefkkhoaaDoor
open Go.RowKit
set_option linter.unusedVariables false
/-- Nothing that was there has turned. -/
def Bw (W W' : World) : Prop := Below W.heap.size W W'
theorem Bw.refl (W : World) : Bw W W := Below.refl _ _
theorem Bw.drew (W : World) : Bw W W.drew := (Below.refl _ _).drew
theorem Bw.trans {a b c : World} (h : Bw a b) (k : Bw b c) : Bw a c := Below.trans h (Below.mono k h.size)
theorem Bw.alloc (W : World) (o : Obj) : Bw W (W.alloc o) := (Below.refl _ _).alloc (Nat.le_refl _) _
theorem Bs.bw {w w' : World} {A : Option Addr} {n c : Nat} {xs : List Int} (h : Bs w A n c xs) (hb : Bw w w') : Bs w' A n c xs := h.below hb
theorem Tabs.bw {w w' : World} (h : Tabs w) (hb : Bw w w') : Tabs w' := h.below hb
/-- A slice that came in has a plain address. -/
theorem spot_of_ok {P : Program} {W : World} {r : Reach} {base : Nat} {t e : TypeId} {A : Option Addr} {l c : Nat} (ht : P.underlying t = some (.slice e)) (h : Value.okWide P W r base t (.slice A l c)) : ∀ a, A = some a → a.spot = none := by
  rintro a rfl
  simp only [Value.okWide, ht, Cell.okWide, Cell.ok] at h
  exact h.2.2.2.1
theorem IsRow.bs_cut {w : World} {a : Option Addr} {len cap : Nat} {zs : List Int} (h : IsRow .u8 1 w a len cap zs) (hs : ∀ x, a = some x → x.spot = none) {m : Nat} (hm : m ≤ 1000000) : Bs w a (min len m) cap ((zs.take len).take (min len m)) := by
  have hnc := h.nc
  refine ⟨h.rd.take (Nat.min_le_left _ _), fun x hx => ?_, by omega, by omega, fun ha => ?_, fun x hx => ?_⟩
  · have := bounds_u8 (h.wf x (List.mem_of_mem_take hx)); omega
  · rcases h with ⟨-, -, h3, -⟩ | ⟨x, h1, -⟩
    · exact h3
    · rw [ha] at h1; cases h1
  · have := hs x hx
    obtain ⟨b, off, sp⟩ := x
    have e : sp = none := this
    subst e
    exact ⟨b, off, rfl⟩
/-- What a call of bytes answers. -/
def AnsBy (bs : List Int) (n : Nat) (W : World) (e : Ending) (W' : World) : Prop := ∃ A c, e = .returned (.slice A n c) ∧ Bs W' A n c bs ∧ Own8 W' W.heap.size (.slice A n c) bs ∧ Bw W W'
theorem AnsOb.b {bs : List Int} {n : Nat} {W W' : World} {e : Ending} (hl : bs.length = n) (hd : Dig 256 bs) (hn : n ≤ 1099511627776) (h : AnsOb bs W e W') : AnsBy bs n W e W' := by
  obtain ⟨v, rfl, ho, hb⟩ := h
  obtain ⟨A, c, rfl, hbs⟩ := ho.bs hd (by omega)
  subst hl
  exact ⟨A, c, rfl, hbs, ho, hb⟩
theorem mac_len (k b : List Int) : (mac k b).length = 32 := sha_len _
theorem mac_dig (k b : List Int) : Dig 256 (mac k b) := sha_dig _
theorem parts_len (L : List (List Int)) : (parts L).length = 32 := sha_len _
theorem parts_dig (L : List (List Int)) : Dig 256 (parts L) := sha_dig _
section
variable {W : World} {A A2 : Option Addr} {n c n2 c2 : Nat} {l k : List Int}
theorem sha_b (hT : Tabs W) (h : Bs W A n c l) : Calls Tryd.prog 70 #[.slice A n c] W (AnsBy (sha l) 32 W) :=
  (sha_any hT h).mono fun _ _ hh => hh.b (sha_len l) (sha_dig l) (by omega)
theorem sha_b0 (hT : Tabs W) : Calls Tryd.prog 70 #[.slice none 0 0] W (AnsBy (sha []) 32 W) :=
  sha_b (l := []) hT ⟨Rd.nil _ _ _, dig_nil _, Nat.le_refl _, Nat.zero_le _, fun _ => rfl, fun a ha => by cases ha⟩
theorem pts_none (W : World) : Pts W none 0 0 [] := ⟨rfl, Nat.le_refl _, fun h => absurd h (Nat.lt_irrefl 0)⟩
theorem parts_b0 (hT : Tabs W) : Calls Tryd.prog 49 #[.slice none 0 0] W (AnsBy (sha []) 32 W) :=
  (parts_any hT (pts_none W) (by decide) (by decide) (fun _ h => by cases h)).mono fun _ _ hh => AnsOb.b (sha_len []) (sha_dig []) (by omega) hh
theorem conv_b (h : Bs W A n c l) : (convert 22 9 (.slice A n c)).run Tryd.prog W = .ok (.string (strOfNums l)) W := conv_any h.rd
/-- Bytes as a string, in any later world. -/
theorem conv_l (h : Bs W A n c l) : ∀ W', Bw W W' → (convert 22 9 (.slice A n c)).run Tryd.prog W' = .ok (.string (strOfNums l)) W' := fun _ hb => conv_b (h.bw hb)
theorem parts_b2 (hT : Tabs W) (h : Bs W A n c k) (h2 : Bs W A2 n2 c2 l) (hn : n ≤ 1000000) (hn2 : n2 ≤ 1000000) {g : Nat} (hg : W.heap.size = g) :
    Calls Tryd.prog 49 #[.slice (some ⟨g, 0, none⟩) 2 2] (W.alloc (.cells #[.slice A n c, .slice A2 n2 c2] 22)) (AnsBy (parts [k, l]) 32 W) := by
  subst hg
  have hlen : (fr [k, l]).length ≤ 1099511627776 := by
    rw [show ([k, l] : List (List Int)) = [k] ++ [l] from rfl, fr_append, fr_one, fr_one]
    simp only [List.length_append, be8_len, h.rd.len, h2.rd.len]
    omega
  have hdig : ∀ xs ∈ [k, l], Dig 256 xs := fun xs hx => by
    rcases List.mem_cons.1 hx with rfl | hx
    · exact h.dig_
    · obtain rfl := List.mem_singleton.1 hx
      exact h2.dig_
  refine (parts_any (hT.alloc _) (pts_two h h2.bz) hlen (by omega) hdig).mono fun e W' hh => ?_
  obtain ⟨A, c, e, hb, ho, hw⟩ := hh.b (parts_len _) (parts_dig _) (by omega)
  exact ⟨A, c, e, hb, ho.base (by simp), (Bw.alloc W _).trans hw⟩
end
end Go.Proofs.YtbffcgnefkkhoaaDoor
