/-
  A list of the call's own, that grows by append, whose elements have several cells each; shares.
-/
import Derived.Test.YtkecfdeepmhggaaMxx
namespace Go.Proofs.Ytkecfdeepmhggaa
open Go.RowKit
set_option linter.unusedVariables false
/-- A kind of thing of k cells: its cells, that it lies in memory, and in which blocks what it points at lies. -/
structure Kk (κ : Type) (k : Nat) where
  v : κ → List Value
  At : World → κ → Prop
  Bl : κ → Nat → Prop
  len : ∀ s, (v s).length = k
  one : ∀ s, ∀ u ∈ v s, u.oneCell' = true
  lt : ∀ {w : World} {s : κ} {b : Nat}, At w s → Bl s b → b < w.heap.size
  stay : ∀ {w w' : World} {s : κ}, At w s → w.heap.size ≤ w'.heap.size → (∀ b, Bl s b → w'.heap[b]? = w.heap[b]?) → At w' s
section
variable {κ : Type} {k : Nat}
def owkC (K : Kk κ k) (S : Nat → κ) : Nat → List Value
  | 0 => []
  | n + 1 => owkC K S n ++ K.v (S n)
theorem owkC_len {K : Kk κ k} {S : Nat → κ} : ∀ n, (owkC K S n).length = n * k
  | 0 => by simp [owkC]
  | n + 1 => by rw [owkC, List.length_append, owkC_len n, K.len, Nat.add_mul, Nat.one_mul]
theorem owkC_congr {K : Kk κ k} {S T : Nat → κ} : ∀ n, (∀ i, i < n → S i = T i) → owkC K S n = owkC K T n
  | 0, _ => rfl
  | n + 1, h => by rw [owkC, owkC, owkC_congr n fun i hi => h i (by omega), h n (by omega)]
theorem owkC_snoc {K : Kk κ k} {S : Nat → κ} {n : Nat} {s : κ} : owkC K (snocG S n s) (n + 1) = owkC K S n ++ K.v s := by
  rw [owkC, snocG_at, owkC_congr n fun i hi => snocG_lt hi]
theorem owkC_at {K : Kk κ k} {S : Nat → κ} {i j : Nat} (hj : j < k) : ∀ n, i < n → (owkC K S n)[i * k + j]? = (K.v (S i))[j]?
  | 0, h => absurd h (by omega)
  | n + 1, h => by
    rw [owkC]
    rcases Nat.lt_or_ge i n with g | g
    · have : i * k + j < n * k := by
        have h1 : (i + 1) * k ≤ n * k := Nat.mul_le_mul_right _ g
        rw [Nat.add_mul, Nat.one_mul] at h1
        omega
      rw [List.getElem?_append_left (by rw [owkC_len]; exact this)]
      exact owkC_at hj n g
    · obtain rfl : i = n := by omega
      rw [List.getElem?_append_right (by rw [owkC_len]; omega), owkC_len, Nat.add_sub_cancel_left]
/-- A list of the call's own. -/
structure Owk (K : Kk κ k) (e : TypeId) (w : World) (base : Nat) (v : Value) (n : Nat) (S : Nat → κ) : Prop where
  own : w.ownsRow base e k v n (owkC K S n)
  at_ : ∀ i, i < n → K.At w (S i)
  els : ∀ i, i < n → ∀ b, K.Bl (S i) b → v.ownBlock ≠ some b
variable {K : Kk κ k} {e : TypeId} {w w' : World} {base : Nat} {v : Value} {n : Nat} {S : Nat → κ}
theorem Owk.nil (K : Kk κ k) (e : TypeId) (w : World) (base : Nat) (S : Nat → κ) : Owk K e w base (.slice none 0 0) 0 S :=
  ⟨⟨by simp [owkC], .inl ⟨rfl, rfl⟩⟩, fun i h => absurd h (by omega), fun i h => absurd h (by omega)⟩
theorem Owk.below (h : Owk K e w base v n S) (hb : Below w.heap.size w w') : Owk K e w' base v n S :=
  ⟨own_belowV hb h.own, fun i hi => K.stay (h.at_ i hi) hb.size fun b g => hb.block b (K.lt (h.at_ i hi) g), h.els⟩
theorem Owk.lt (h : Owk K e w base v n S) {g : Nat} (hg : v.ownBlock = some g) : base ≤ g ∧ g < w.heap.size := by
  rcases h.own.2 with ⟨rfl, -⟩ | ⟨g', cap, cur, rfl, h2, h3, -⟩
  · cases hg
  · injection hg with hg; subst hg; exact ⟨h2, (Array.getElem?_eq_some_iff.1 h3).1⟩
theorem Owk.far (h : Owk K e w base v n S) {b : Nat} (hb : w.heap.size ≤ b) : v.ownBlock ≠ some b := fun e => by have := (h.lt e).2; omega
theorem Owk.old (h : Owk K e w base v n S) {b : Nat} (hb : b < base) : v.ownBlock ≠ some b := fun e => by have := (h.lt e).1; omega
/-- It stays where another block is turned, that none of its things lie in. -/
theorem Owk.grown (h : Owk K e w base v n S) {row : Option Nat} (hg : w.grownBy w' row) (hv : v.ownBlock = none ∨ v.ownBlock ≠ row) (hne : ∀ i, i < n → ∀ b, K.Bl (S i) b → row ≠ some b) : Owk K e w' base v n S :=
  ⟨h.own.kept hg hv, fun i hi => K.stay (h.at_ i hi) hg.size fun b g => hg.block b (K.lt (h.at_ i hi) g) (fun e => hne i hi b g e.symm), h.els⟩
theorem Owk.form (h : Owk K e w base v n S) : ∃ A c, v = .slice A n c ∧ n ≤ c ∧ (∀ a, A = some a → base ≤ a.block) ∧ (0 < n → ∃ g, A = some ⟨g, 0, none⟩ ∧ g < w.heap.size ∧ ∀ i j u, i < n → (K.v (S i))[j]? = some u → w.cell? ⟨g, i * k + j, none⟩ = some u) := by
  rcases h.own.2 with ⟨rfl, rfl⟩ | ⟨g, cap, cur, rfl, h2, h3, h4, h5, h6, h7⟩
  · exact ⟨none, 0, rfl, Nat.le_refl _, fun a ha => (by cases ha), fun h => absurd h (by omega)⟩
  · refine ⟨_, cap, rfl, h4, fun a ha => by injection ha with ha; subst ha; exact h2, fun hn => ⟨g, rfl, (Array.getElem?_eq_some_iff.1 h3).1, fun i j u hi hu => ?_⟩⟩
    have hj : j < k := by
      have := (List.getElem?_eq_some_iff.1 hu).1
      rwa [K.len] at this
    have hc := h.own.cells (g := g) rfl (i * k + j) u (by rw [owkC_at hj n hi]; exact hu)
    have ea : (⟨g, 0, none⟩ : Addr).add (i * k + j) = ⟨g, i * k + j, none⟩ := by
      unfold Addr.add; split
      · rename_i h0; rw [h0]
      · rw [Nat.zero_add]
    rw [ea] at hc
    exact hc
theorem owk_next {s : κ} (hown : Owk K e w base v n S) (hU : K.At w s) (hf : ∀ b, K.Bl s b → v.ownBlock ≠ some b)
    {g' cap : Nat} {w' : World} (a1 : w'.ownsRow base e k (.slice (some ⟨g', 0, none⟩) (n + 1) cap) (n + 1) (owkC K S n ++ K.v s)) (a2 : w.grownBy w' v.ownBlock) (a3 : v.ownBlock = some g' ∨ g' = w.heap.size) :
    Owk K e w' base (.slice (some ⟨g', 0, none⟩) (n + 1) cap) (n + 1) (snocG S n s) := by
  have key : ∀ i, i < n + 1 → K.At w (snocG S n s i) ∧ ∀ b, K.Bl (snocG S n s i) b → v.ownBlock ≠ some b := by
    intro i hi
    rcases Nat.lt_or_ge i n with g | g
    · rw [snocG_lt g]; exact ⟨hown.at_ i g, hown.els i g⟩
    · obtain rfl : i = n := by omega
      rw [snocG_at]; exact ⟨hU, hf⟩
  refine ⟨by rw [owkC_snoc]; exact a1, fun i hi => K.stay (key i hi).1 a2.size fun b hb => a2.block b (K.lt (key i hi).1 hb) (fun e => (key i hi).2 b hb e.symm), fun i hi b hb e2 => ?_⟩
  have e3 : g' = b := by injection e2
  rcases a3 with q | q
  · exact (key i hi).2 b hb (by rw [q, e3])
  · have := K.lt (key i hi).1 hb; omega
end
section
variable {κ : Type} {k : Nat} {K : Kk κ k} {P : Program} {w : World}
/-- One element more. -/
theorem wpList_owk {ops : Array Oper} {rest : List Oper} {o : Oper} {a : Act} {Q : Exit → Act → World → Prop} (hgd : o.guard = none) (s0 x : Operand) (t : TypeId)
    (ho : o.op = .call { callee := .builtin .append, args := #[s0, x], argTypes := #[t, t] })
    (base : Nat) (e : TypeId) (by' : Nat) (z : Value) (ht : P.underlying t = some (.slice e)) (hi : (P.info? e).map (fun i => (i.zero, i.size, i.bytes)) = some (some z, k, by')) (hz : z.cells.size = k) (hk : 0 < k)
    (v : Value) (n cm : Nat) (S : Nat → κ) (s : κ) (hs : a.eval s0 = v) (hown : Owk K e w base v n S)
    (g : Nat) (hx : a.eval x = .slice (some ⟨g, 0, none⟩) 1 cm) (hc : ∀ j u, (K.v s)[j]? = some u → w.cell? ⟨g, j, none⟩ = some u) (hU : K.At w s)
    (hf : ∀ b, K.Bl s b → v.ownBlock ≠ some b) (h63 : n + 1 ≤ maxLen) (hbytes : (n + 1) * by' ≤ 140737488355328) (hbase : base ≤ w.heap.size)
    (h : ∀ v' w', Owk K e w' base v' (n + 1) (snocG S n s) → w.grownBy w' v.ownBlock → wpList P ops Q rest (a.put o.dst v') w') : wpList P ops Q (o :: rest) a w := by
  obtain ⟨i0, h1, h2, h3, h4⟩ := info_parts hi
  exact wpList_append_lies w hgd s0 x t ho base e i0 z k by' ht h1 h2 h3 h4 hz hk v n (owkC K S n) hs hown.own ⟨g, 0, none⟩ 1 cm (K.v s) hx (by rw [K.len, Nat.one_mul])
    (fun j u hj => by
      have ea : (⟨g, 0, none⟩ : Addr).add j = ⟨g, j, none⟩ := by
        unfold Addr.add; split
        · rename_i h0; rw [h0]
        · rw [Nat.zero_add]
      rw [ea]; exact hc j u hj) (K.one s) (by decide) h63 hbytes hbase w.heap.size rfl
    (fun g' cap w' a1 a2 a3 a4 => h _ w' (owk_next hown hU hf a1 a2 a3) a2)
/-- The same, at a step of a region that draws its order. -/
theorem step_owk {ops : Array Oper} {o : Oper} {a : Act} {K' : Act → World → Prop} {Q : Exit → Act → World → Prop} {E : Prop} (hgd : o.guard = none) (s0 x : Operand) (t : TypeId)
    (ho : o.op = .call { callee := .builtin .append, args := #[s0, x], argTypes := #[t, t] })
    (base : Nat) (e : TypeId) (by' : Nat) (z : Value) (ht : P.underlying t = some (.slice e)) (hi : (P.info? e).map (fun i => (i.zero, i.size, i.bytes)) = some (some z, k, by')) (hz : z.cells.size = k) (hk : 0 < k)
    (v : Value) (n cm : Nat) (S : Nat → κ) (s : κ) (hs : a.eval s0 = v) (hown : Owk K e w base v n S)
    (g : Nat) (hx : a.eval x = .slice (some ⟨g, 0, none⟩) 1 cm) (hc : ∀ j u, (K.v s)[j]? = some u → w.cell? ⟨g, j, none⟩ = some u) (hU : K.At w s)
    (hf : ∀ b, K.Bl s b → v.ownBlock ≠ some b) (h63 : n + 1 ≤ maxLen) (hbytes : (n + 1) * by' ≤ 140737488355328) (hbase : base ≤ w.heap.size)
    (h : ∀ v' w', Owk K e w' base v' (n + 1) (snocG S n s) → w.grownBy w' v.ownBlock → K' (a.put o.dst v') w') : if Region.wanted o (yielded ops a.tmps) = true then Oper.wp P o a w K' Q else E := by
  obtain ⟨i0, h1, h2, h3, h4⟩ := info_parts hi
  exact step_append_lies w hgd s0 x t ho base e i0 z k by' ht h1 h2 h3 h4 hz hk v n (owkC K S n) hs hown.own ⟨g, 0, none⟩ 1 cm (K.v s) hx (by rw [K.len, Nat.one_mul])
    (fun j u hj => by
      have ea : (⟨g, 0, none⟩ : Addr).add j = ⟨g, j, none⟩ := by
        unfold Addr.add; split
        · rename_i h0; rw [h0]
        · rw [Nat.zero_add]
      rw [ea]; exact hc j u hj) (K.one s) (by decide) h63 hbytes hbase w.heap.size rfl
    (fun g' cap w' a1 a2 a3 a4 => h _ w' (owk_next hown hU hf a1 a2 a3) a2)
end
/-- Numbers, a slice each. -/
def kNm : Kd Nsl := ⟨Nsl.v, fun w s => Nm w s.A s.n s.c s.N, fun s b => BlN s.A s.n b, fun _ => rfl, fun h g => Nm.blt h g, fun h hs g => Nm.stay h hs g⟩
theorem Owg.nsl {e : TypeId} {w : World} {base : Nat} {v : Value} {n : Nat} {S : Nat → Nsl} (h : Owg kNm e w base v n S) (h60 : n ≤ 17592186044416) : ∃ A c, v = .slice A n c ∧ (∀ a, A = some a → base ≤ a.block) ∧ Ns w A n c S := by
  obtain ⟨A, c, rfl, hnc, hb, hc⟩ := h.form
  refine ⟨A, c, rfl, hb, hnc, h60, fun hn => ?_, fun i hi => h.at_ i hi⟩
  obtain ⟨g, eg, hl, hx⟩ := hc hn
  refine ⟨g, 0, eg, hl, fun i hi => ?_⟩
  rw [Nat.zero_add]; exact hx i hi
/-! ### Shares -/
structure Shr where
  I : Int
  A : Option Addr
  n : Nat
  c : Nat
  N : Int
/-- A share lies in memory: its place is an int's, its value a number's slice. -/
def Shr.At (w : World) (s : Shr) : Prop := (-9223372036854775808 ≤ s.I ∧ s.I ≤ 9223372036854775807) ∧ Nm w s.A s.n s.c s.N
theorem Shr.At.below {w w' : World} {s : Shr} (h : s.At w) (hb : Below w.heap.size w w') : s.At w' := ⟨h.1, h.2.below hb⟩
/-- A share: its index, its value. -/
def kSh : Kk Shr 2 := ⟨fun s => [.int .i64 s.I, .slice s.A s.n s.c], fun w s => s.At w, fun s b => BlN s.A s.n b, fun _ => rfl, fun s u hu => by
    rcases List.mem_cons.1 hu with rfl | hu
    · rfl
    · rw [List.mem_singleton] at hu; subst hu; rfl, fun h g => Nm.blt h.2 g, fun h hs g => ⟨h.1, Nm.stay h.2 hs g⟩⟩
/-- A list of shares in memory. -/
structure Shs (w : World) (a : Option Addr) (n c : Nat) (S : Nat → Shr) : Prop where
  nc : n ≤ c
  c60 : n ≤ 17592186044416
  ex : 0 < n → ∃ b off, a = some ⟨b, off, none⟩ ∧ b < w.heap.size ∧ ∀ i, i < n → w.cell? ⟨b, off + i * 2, none⟩ = some (.int .i64 (S i).I) ∧ w.cell? ⟨b, off + i * 2 + 1, none⟩ = some (.slice (S i).A (S i).n (S i).c)
  at_ : ∀ i, i < n → (S i).At w
theorem Shs.below {w w' : World} {a : Option Addr} {n c : Nat} {S : Nat → Shr} (h : Shs w a n c S) (hb : Below w.heap.size w w') : Shs w' a n c S :=
  ⟨h.nc, h.c60, fun hn => by
    obtain ⟨b, off, e, hl, hc⟩ := h.ex hn
    exact ⟨b, off, e, Nat.lt_of_lt_of_le hl hb.size, fun i hi => ⟨(hb.cell (p := ⟨b, _, none⟩) hl).trans (hc i hi).1, (hb.cell (p := ⟨b, _, none⟩) hl).trans (hc i hi).2⟩⟩, fun i hi => (h.at_ i hi).below hb⟩
theorem Shs.nil (w : World) (S : Nat → Shr) : Shs w none 0 0 S := ⟨Nat.le_refl _, by omega, fun h => absurd h (by omega), fun i h => absurd h (by omega)⟩
theorem Owk.shs {e : TypeId} {w : World} {base : Nat} {v : Value} {n : Nat} {S : Nat → Shr} (h : Owk kSh e w base v n S) (h60 : n ≤ 17592186044416) : ∃ A c, v = .slice A n c ∧ (∀ a, A = some a → base ≤ a.block) ∧ Shs w A n c S := by
  obtain ⟨A, c, rfl, hnc, hb, hc⟩ := h.form
  refine ⟨A, c, rfl, hb, hnc, h60, fun hn => ?_, fun i hi => h.at_ i hi⟩
  obtain ⟨g, eg, hl, hx⟩ := hc hn
  refine ⟨g, 0, eg, hl, fun i hi => ⟨?_, ?_⟩⟩
  · rw [Nat.zero_add]; exact hx i 0 _ hi rfl
  · rw [Nat.zero_add]; exact hx i 1 _ hi rfl
end Go.Proofs.Ytkecfdeepmhggaa
