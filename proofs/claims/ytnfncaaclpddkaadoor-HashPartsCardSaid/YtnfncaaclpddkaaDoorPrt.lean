/-
  Parts that came in, cut; and the slice of them that the law makes.
-/
import Derived.Test.YtnfncaaclpddkaaDoorFit1
import Derived.Deep.Slices
import Derived.Deep.AppendLies
import Derived.SizedLaws
namespace Go.Proofs.YtnfncaaclpddkaaDoor
open Go.RowKit Go.ChangeShapes Go.WideShapes Go.Deep
set_option linter.unusedVariables false
/-- A slice of slices of bytes that came in. -/
structure Pin (w : World) (A : Option Addr) (n c : Nat) : Prop where
  nc : n ≤ c
  small : n ≤ 140737488351232
  none_ : A = none → n = 0
  cells : 0 < n → ∃ b off, A = some ⟨b, off, none⟩ ∧ b < w.heap.size ∧ ∀ j, j < n → ∃ Aj nj cj zs, w.cell? ⟨b, off + j, none⟩ = some (.slice Aj nj cj) ∧ IsRow .u8 1 w Aj nj cj zs
/-- The same, and what each is when it is cut. -/
structure Pcu (w : World) (A : Option Addr) (n c : Nat) (L : List (List Int)) : Prop where
  len : L.length = n
  small : ∀ xs ∈ L, Dig 256 xs ∧ xs.length ≤ 300
  cells : 0 < n → ∃ b off, A = some ⟨b, off, none⟩ ∧ b < w.heap.size ∧ ∀ j, j < n → ∃ Aj nj cj xs, L[j]? = some xs ∧ w.cell? ⟨b, off + j, none⟩ = some (.slice Aj nj cj) ∧ nj ≤ 140737488351232 ∧ nj ≤ cj ∧ (Aj = none → nj = 0) ∧ min nj 300 = xs.length ∧ Bz w Aj xs.length xs
theorem IsRow.bz_in {w : World} {a : Option Addr} {len cap : Nat} {zs : List Int} (h : IsRow .u8 1 w a len cap zs) (m : Nat) : Bz w a (min len m) ((zs.take len).take (min len m)) := by
  have hnc := h.nc
  refine ⟨h.rd.take (Nat.min_le_left _ _), fun x hx => ?_⟩
  have := bounds_u8 (h.wf x (List.mem_of_mem_take hx)); omega
theorem Bz.bw {w w' : World} {A : Option Addr} {n : Nat} {xs : List Int} (h : Bz w A n xs) (hb : Bw w w') : Bz w' A n xs := h.below hb
theorem Pin.cut {w : World} {A : Option Addr} {n c k : Nat} (h : Pin w A n c) (hk : k ≤ n) : ∃ L, Pcu w A k c L := by
  rcases Nat.eq_zero_or_pos n with h0 | h0
  · exact ⟨[], by simp; omega, fun xs hx => (nomatch hx), fun g => by omega⟩
  · obtain ⟨b, off, rfl, hb, hc⟩ := h.cells h0
    have each : ∀ j, j < n → ∃ xs : List Int, ∃ Aj nj cj, w.cell? ⟨b, off + j, none⟩ = some (.slice Aj nj cj) ∧ nj ≤ 140737488351232 ∧ nj ≤ cj ∧ (Aj = none → nj = 0) ∧ min nj 300 = xs.length ∧ Bz w Aj xs.length xs := fun j hj => by
      obtain ⟨Aj, nj, cj, zs, h1, h2⟩ := hc j hj
      have hnc := h2.nc
      have hbs := h2.bz_in 300
      have hl := hbs.rd.len
      refine ⟨_, Aj, nj, cj, h1, by omega, hnc.1, h2.none_len, hl.symm, ?_⟩
      rw [hl]; exact hbs
    obtain ⟨F, hF⟩ := choose_lt each
    refine ⟨(List.range k).map F, by simp, fun xs hx => ?_, fun g => ⟨b, off, rfl, hb, fun j hj => ?_⟩⟩
    · obtain ⟨j, hj, rfl⟩ := List.mem_map.1 hx
      have hj := List.mem_range.1 hj
      obtain ⟨Aj, nj, cj, -, -, -, -, h5, h6⟩ := hF j (by omega)
      exact ⟨h6.dig_, by omega⟩
    · obtain ⟨Aj, nj, cj, h1, h2, h3, h4, h5, h6⟩ := hF j (by omega)
      exact ⟨Aj, nj, cj, F j, by simp [hj], h1, h2, h3, h4, h5, h6⟩
theorem Pcu.below {w w' : World} {A : Option Addr} {n c : Nat} {L : List (List Int)} (h : Pcu w A n c L) (hb : Bw w w') : Pcu w' A n c L :=
  ⟨h.len, h.small, fun hn => by
    obtain ⟨b, off, e, hlt, hc⟩ := h.cells hn
    refine ⟨b, off, e, Nat.lt_of_lt_of_le hlt hb.size, fun j hj => ?_⟩
    obtain ⟨Aj, nj, cj, xs, h1, h2, h3, h4, h5, h6, h7⟩ := hc j hj
    exact ⟨Aj, nj, cj, xs, h1, (Below.cell hb (p := ⟨b, off + j, none⟩) hlt).trans h2, h3, h4, h5, h6, h7.bw hb⟩⟩
/-! ### The law's own slice of them -/
theorem info24 : (Tryd.prog.info? 22).map (fun i => (i.zero, i.size, i.bytes)) = some (some (.slice none 0 0), 1, 24) := by kernel_rfl
/-- Slices of bytes that lay there at W0, in a block made since. -/
def OwP (W0 w : World) (v : Value) (L : List (List Int)) (n : Nat) : Prop :=
  L.length = n ∧ Bw W0 w ∧ ∃ Vs : List Value, w.ownsRow W0.heap.size 22 1 v n Vs ∧ ∀ j, j < n → ∃ Aj cj xs, L[j]? = some xs ∧ Vs[j]? = some (.slice Aj xs.length cj) ∧ Bz W0 Aj xs.length xs
theorem OwP.nil (w : World) : OwP w w (.slice none 0 0) [] 0 := ⟨rfl, Bw.refl w, [], ⟨rfl, .inl ⟨rfl, rfl⟩⟩, fun j hj => absurd hj (Nat.not_lt_zero _)⟩
theorem OwP.pts {W0 w : World} {v : Value} {L : List (List Int)} {n : Nat} (h : OwP W0 w v L n) : ∃ A c, v = .slice A n c ∧ Pts w A n c L := by
  obtain ⟨hl, hW, Vs, ho, hc⟩ := h
  rcases ho.2 with ⟨rfl, hn⟩ | ⟨g, cap, cur, rfl, hb, hg, hnc, hm, hs, ht⟩
  · subst hn
    obtain rfl : L = [] := List.eq_nil_of_length_eq_zero hl
    exact ⟨none, 0, rfl, pts_none w⟩
  · refine ⟨_, cap, rfl, hl, hnc, fun hp => ⟨g, 0, rfl, (Array.getElem?_eq_some_iff.1 hg).1, fun j hj => ?_⟩⟩
    obtain ⟨Aj, cj, xs, h1, h2, h3⟩ := hc j hj
    refine ⟨Aj, cj, xs, h1, ?_, h3.bw hW⟩
    have hcc := ho.cells (g := g) rfl j _ h2
    have e : (⟨g, 0, none⟩ : Addr).add j = ⟨g, 0 + j, none⟩ := by
      unfold Addr.add; split
      · rename_i h0; subst h0; rfl
      · rfl
    rw [e] at hcc
    exact hcc
theorem below_own24 {w w' : World} (hb : Bw w w') {base : Nat} {v : Value} {n : Nat} {xs : List Value} (h : w.ownsRow base 22 1 v n xs) : w'.ownsRow base 22 1 v n xs := by
  refine ⟨h.1, ?_⟩
  rcases h.2 with g | ⟨g, cap, cur, h1, h2, h3, h4⟩
  · exact .inl g
  · exact .inr ⟨g, cap, cur, h1, h2, (Below.block hb g (Array.getElem?_eq_some_iff.1 h3).1).trans h3, h4⟩
theorem OwP.bw {W0 w w' : World} {v : Value} {L : List (List Int)} {n : Nat} (h : OwP W0 w v L n) (hb : Bw w w') : OwP W0 w' v L n := by
  obtain ⟨hl, hW, Vs, ho, hc⟩ := h
  exact ⟨hl, hW.trans hb, Vs, below_own24 hb ho, hc⟩
section
variable {w : World}
/-- One slice of bytes more. -/
theorem wpList_prt {ops : Array Oper} {rest : List Oper} {o : Oper} {a : Act} {Q : Exit → Act → World → Prop} (hgd : o.guard = none) (s x : Operand)
    (ho : o.op = .call { callee := .builtin .append, args := #[s, x], argTypes := #[31, 31] })
    (W0 : World) (v : Value) (n : Nat) (L : List (List Int)) (hs : a.eval s = v) (hown : OwP W0 w v L n)
    (g : Nat) (Aj : Option Addr) (m cj : Nat) (xs : List Int) (hx : a.eval x = .slice (some ⟨g, 0, none⟩) 1 1) (hc : w.cell? ⟨g, 0, none⟩ = some (.slice Aj m cj)) (hbs : Bz W0 Aj m xs) (hm : xs.length = m) (hn : n ≤ 1000)
    (h : ∀ v' w', OwP W0 w' v' (L ++ [xs]) (n + 1) → wpList Tryd.prog ops Q rest (a.put o.dst v') w') : wpList Tryd.prog ops Q (o :: rest) a w := by
  subst hm
  obtain ⟨hl, hW, Vs, ho', hc'⟩ := hown
  obtain ⟨i0, h1, h2, h3, h4⟩ := info_parts info24
  have hVl : Vs.length = n := by have := ho'.1; omega
  refine wpList_append_lies w hgd s x 31 ho W0.heap.size 22 i0 (.slice none 0 0) 1 24 Tryd.underlying31 h1 h2 h3 h4 rfl (by decide) v n Vs hs ho' ⟨g, 0, none⟩ 1 1 [.slice Aj xs.length cj] hx rfl ?_ ?_ (by omega) (by unfold maxLen; omega) (by omega) hW.size w.heap.size rfl (fun g' cap w' a b c d => h _ w' ⟨by simp [hl], own_below hW ho' b hW.size (Nat.le_refl _), _, a, fun j hj => ?_⟩)
  · intro j u hj
    match j, hj with
    | 0, hj => simp at hj; subst hj; simpa [Addr.add] using hc
  · intro u hu; simp at hu; subst hu; rfl
  · rcases Nat.lt_or_ge j n with g1 | g1
    · obtain ⟨Aj2, cj2, ys, k1, k2, k3⟩ := hc' j g1
      exact ⟨Aj2, cj2, ys, by rw [List.getElem?_append_left (by omega)]; exact k1, by rw [List.getElem?_append_left (by omega)]; exact k2, k3⟩
    · obtain rfl : j = n := by omega
      exact ⟨Aj, cj, xs, by rw [List.getElem?_append_right (by omega), hl]; simp, by rw [List.getElem?_append_right (by omega), hVl]; simp, hbs⟩
end
/-! ### Contracts in one form -/
theorem fr_bound {L : List (List Int)} (h : ∀ xs ∈ L, xs.length ≤ 300) : (fr L).length ≤ 308 * L.length := by
  induction L with
  | nil => simp [fr]
  | cons x l ih =>
    have h1 := ih fun xs hx => h xs (List.mem_cons_of_mem _ hx)
    have h2 := h x List.mem_cons_self
    rw [show x :: l = [x] ++ l from rfl, fr_append, fr_one]
    simp only [List.length_append, be8_len, List.length_cons, List.length_nil]
    omega
section
variable {W : World} {A A2 AK AH : Option Addr} {n c n2 c2 cK cH : Nat} {l k R : List Int} {L : List (List Int)}
theorem parts_p (hR : parts L = R) (hT : Tabs W) (hp : Pts W A n c L) (hl : (fr L).length ≤ 1000000) (hn : n ≤ 1000) (hd : ∀ xs ∈ L, Dig 256 xs) : Calls Tryd.prog 12 #[.slice A n c] W (AnsB R 32 W) := by
  subst hR
  exact (parts_any hT hp (by omega) (by omega) hd).mono fun _ _ h => AnsO.b (parts_len L) (parts_dig L) (by omega) h
theorem mac_z (hR : mac k l = R) (hT : Tabs W) (hk : Bs W A n c k) (h : Bz W A2 n2 l) (hn : n2 ≤ 1000000) : Calls Tryd.prog 14 #[.slice A n c, .slice A2 n2 c2] W (AnsB R 32 W) := by
  subst hR
  exact (mac_any hT hk h (by omega)).mono fun _ _ hh => hh.b (mac_len k l) (mac_dig k l) (by omega)
end
/-! ### A slice of slices of bytes that came in -/
section
variable {H : Type} {enc : TypeId × Value → H} {w : World}
theorem all_mem {P : Program} {e : TypeId} {d : DataW H} {l : List (DataW H)} (hd : d ∈ l) : ∀ n ∈ d.weights P e, n ∈ DataW.weightsAll P e l := by
  induction l with
  | nil => cases hd
  | cons x r ih =>
    intro n hn
    rw [DataW.weightsAll, List.mem_append]
    rcases List.mem_cons.1 hd with rfl | hd
    · exact .inl hn
    · exact .inr (ih hd n hn)
theorem by1 : Tryd.prog.bytesOf 5 = 1 := by kernel_rfl
theorem by24 : Tryd.prog.bytesOf 22 = 24 := by kernel_rfl
theorem ce24 : Tryd.prog.cellsOf 22 = 1 := by kernel_rfl
/-- A slice of bytes that was read, and all that is weighed of it is within the reach. -/
theorem bytes_row {n : Nat} {v : Value} {y : DataW H × List MemPlace} (hf : DataW.trod enc Tryd.prog w 0 (fun _ => true) true n 22 [v] = some y) (hw : ∀ k ∈ y.1.weights Tryd.prog 22, k ≤ reachBytes) :
    ∃ a len cap zs, v = .slice a len cap ∧ IsRow .u8 1 w a len cap zs := by
  rcases open_ints Tryd.underlying22 Tryd.underlying5 (by kernel_rfl) hf with ⟨hcs, _⟩ | ⟨x, l, c, zs, hcs, _, hl, hm, hz, hx, hcell, hwz⟩
  · injection hcs with hv
    exact ⟨none, 0, 0, [], hv, .inl ⟨rfl, rfl, rfl, rfl⟩⟩
  · injection hcs with hv
    refine ⟨some x, l, c, zs, hv, .inr ⟨x, rfl, hl, ?_, by simpa using hz, hcell, hwz⟩⟩
    have h1 := hw ((zs.take l).length * 1 + (zs.drop l).length * 1) (by
      rw [hx]
      simp only [DataW.weights, Tryd.underlying22, by1]
      refine List.mem_cons.2 (.inl ?_)
      simp only [lits, List.length_map]
      omega)
    simp only [List.length_take, List.length_drop, reachBytes] at h1
    simp at hz
    omega
theorem add_off (b off j : Nat) : (⟨b, off, none⟩ : Addr).add j = ⟨b, off + j, none⟩ := by
  unfold Addr.add; split
  · rename_i h0; subst h0; rfl
  · rfl
theorem open_parts {fuel : Nat} {v : Value} {x : DataW H × List MemPlace} (h : DataW.trod enc Tryd.prog w 0 (fun _ => true) true fuel 31 [v] = some x) (hw : ∀ k ∈ x.1.weights Tryd.prog 31, k ≤ reachBytes) :
    ∃ a len cap, v = .slice a len cap ∧ Pin w a len cap := by
  rcases open_slice1 Tryd.underlying31 ce24 h with ⟨hcs, _⟩ | ⟨a, len, cap, m, n, V, D, Pl, hcs, _, hl, hm, hmm, hx, hi⟩
  · injection hcs with hv
    exact ⟨none, 0, 0, hv, Nat.le_refl _, by omega, fun _ => rfl, fun h => absurd h (by omega)⟩
  · injection hcs with hv
    obtain rfl : m = cap := by simpa using hmm
    rw [hx] at hw
    simp only [DataW.weights, Tryd.underlying31, by24] at hw
    have hcap : m * 24 ≤ reachBytes := by
      have := hw _ (List.mem_cons.2 (.inl rfl))
      simp only [List.length_map, List.length_range] at this
      omega
    have each : ∀ i, i < len → ∃ Ai ni ci zs, w.cell? (a.add i) = some (.slice Ai ni ci) ∧ IsRow .u8 1 w Ai ni ci zs := by
      intro i hil
      obtain ⟨h1, h2⟩ := hi i (by omega)
      obtain ⟨Ai, ni, ci, zs, hV, hr⟩ := bytes_row h2 fun k hk => hw k (List.mem_cons.2 (.inr (List.mem_append.2 (.inl (all_mem (List.mem_map.2 ⟨i, List.mem_range.2 hil, rfl⟩) k hk)))))
      exact ⟨Ai, ni, ci, zs, by rw [h1, hV], hr⟩
    refine ⟨some a, len, m, hv, hl, by simp only [reachBytes] at hcap; omega, fun h => (nomatch h), fun hn => ?_⟩
    obtain ⟨b, off, spot⟩ := a
    have hspot : spot = none := by
      obtain ⟨_, _, _, _, h1, _⟩ := each 0 hn
      simpa [Addr.add] using World.cell?_spot h1
    subst hspot
    simp only [add_off] at each
    refine ⟨b, off, rfl, ?_, fun j hj => ?_⟩
    · obtain ⟨_, _, _, _, h1, _⟩ := each 0 hn
      exact block_lt_of_cell h1
    · exact each j hj
end
end Go.Proofs.YtnfncaaclpddkaaDoor
