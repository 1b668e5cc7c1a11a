/-
  Several texts in one: Pr4, Pr5.
-/
import Derived.Test.YtcnekfpgoceblaaPcd
import Derived.Test.YtcnekfpgoceblaaMxx
import Derived.Test.YtcnekfpgoceblaaRef
/-
  Lists that are read: in numbers, and the kinds of things that are read.
-/
namespace Go.Proofs.Ytcnekfpgoceblaa
open Go.RowKit
set_option linter.unusedVariables false
namespace Cdc
variable {α β : Type}
/-- One more behind so many. -/
theorem decN_snoc (c : Cdc α) : ∀ (j : Nat) (l : List Int) (vs : List α) (r : List Int) (v : α) (r' : List Int), c.decN j l = some (vs, r) → c.dec r = some (v, r') → c.decN (j + 1) l = some (vs ++ [v], r') := fun j => by
  induction j with
  | zero =>
    intro l vs r v r' h h2
    simp only [decN] at h ⊢
    injection h with h
    injection h with h3 h4
    subst h3 h4
    rw [h2]; rfl
  | succ j ih =>
    intro l vs r v r' h h2
    rw [decN] at h ⊢
    cases hc : c.dec l with
    | none => rw [hc] at h; cases h
    | some x =>
      obtain ⟨a, r1⟩ := x
      rw [hc] at h
      simp only at h ⊢
      cases hn : c.decN j r1 with
      | none => rw [hn] at h; cases h
      | some y =>
        obtain ⟨us, r2⟩ := y
        rw [hn] at h
        injection h with h
        injection h with h3 h4
        subst h3 h4
        rw [ih r1 us r2 v r' hn h2]; rfl
/-- Where one is none, so many and more are none. -/
theorem decN_none (c : Cdc α) : ∀ (j : Nat) (l : List Int) (vs : List α) (r : List Int) (u : Nat), c.decN j l = some (vs, r) → c.dec r = none → j < u → c.decN u l = none := fun j => by
  induction j with
  | zero =>
    intro l vs r u h h2 hu
    obtain ⟨u, rfl⟩ : ∃ k, u = k + 1 := ⟨u - 1, by omega⟩
    simp only [decN] at h ⊢
    injection h with h
    injection h with h3 h4
    subst h4
    rw [h2]
  | succ j ih =>
    intro l vs r u h h2 hu
    obtain ⟨u, rfl⟩ : ∃ k, u = k + 1 := ⟨u - 1, by omega⟩
    rw [decN] at h ⊢
    cases hc : c.dec l with
    | none => rfl
    | some x =>
      obtain ⟨a, r1⟩ := x
      rw [hc] at h
      simp only at h ⊢
      cases hn : c.decN j r1 with
      | none => rw [hn] at h; cases h
      | some y =>
        obtain ⟨us, r2⟩ := y
        rw [hn] at h
        injection h with h
        injection h with h3 h4
        subst h4
        rw [ih r1 us r2 u hn h2 (by omega)]
theorem list_none {c : Cdc α} {l : List Int} (h : cntC.dec l = none) : (listC c).dec l = none := by
  unfold listC
  simp only [h]
theorem list_at {c : Cdc α} {l r : List Int} {n : Nat} (h : cntC.dec l = some (n, r)) : (listC c).dec l = c.decN n r := by
  unfold listC
  simp only [h]
/-- Some bytes are taken. -/
def Takes (c : Cdc α) : Prop := ∀ l v r, Dig 256 l → c.dec l = some (v, r) → r.length < l.length
theorem cntE_pos (n : Nat) : 0 < (cntE n).length := by
  rcases Nat.lt_or_ge n 128 with h | h
  · rw [cntE_lt h]; simp
  · rw [cntE_ge h]; simp
theorem takes_of {c : Cdc α} (h : ∀ v, 0 < (c.enc v).length) : c.Takes := fun l v r hd e => by
  have h2 := (c.bwd l v r hd e).2
  rw [h2, List.length_append]
  have := h v
  omega
theorem takes_list (c : Cdc α) : (listC c).Takes := takes_of fun v => by
  show 0 < (cntE _ ++ _).length
  rw [List.length_append]
  have := cntE_pos v.length
  omega
theorem takes_num : numC.Takes := takes_of fun v => by
  rw [numC_enc, List.length_append]
  have := cntE_pos v.length
  omega
theorem takes_pair {c : Cdc α} {d : Cdc β} (h : ∀ v, 0 < (c.enc v).length) : ∀ v, 0 < ((c.pair d).enc v).length := fun v => by
  show 0 < (c.enc v.1 ++ d.enc v.2).length
  rw [List.length_append]
  have := h v.1
  omega
end Cdc
theorem num_pos (v : List Int) : 0 < (numC.enc v).length := by
  rw [numC_enc, List.length_append]
  have := Cdc.cntE_pos v.length
  omega
theorem takes_pr : prC.Takes := Cdc.takes_of (Cdc.takes_pair num_pos)
theorem takes_pf : pfC.Takes := Cdc.takes_of (Cdc.takes_pair num_pos)
/-- One behind the other. -/
theorem Rx.pair {α β : Type} {c : Cdc α} {d : Cdc β} {L L1 L2 : List Int} {q q1 q2 : Bool} {u : α} {v : β} (h : Rx c L q u L1 q1) (k : Rx d L1 q1 v L2 q2) : Rx (c.pair d) L q (u, v) L2 q2 := by
  rcases h with ⟨h1, h2, h3⟩ | ⟨h1, h2⟩
  · rcases k with ⟨k1, k2, k3⟩ | ⟨k1, k2⟩
    · refine .inl ⟨h1, ?_, k3⟩
      show (match c.dec L with | none => none | some (v, r) => match d.dec r with | none => none | some (u, r') => some ((v, u), r')) = _
      rw [h2]
      simp only
      rw [k2]
    · refine .inr ⟨.inr ?_, k2⟩
      rcases k1 with k1 | k1
      · rw [h3] at k1; cases k1
      · show (match c.dec L with | none => none | some (v, r) => match d.dec r with | none => none | some (u, r') => some ((v, u), r')) = _
        rw [h2]
        simp only
        rw [k1]
  · have hc : q = true ∨ (c.pair d).dec L = none := h1.imp_right fun h1 => by
      show (match c.dec L with | none => none | some (v, r) => match d.dec r with | none => none | some (u, r') => some ((v, u), r')) = _
      rw [h1]
    rcases k with ⟨k1, k2, k3⟩ | ⟨k1, k2⟩
    · rw [h2] at k1; cases k1
    · exact .inr ⟨hc, k2⟩
/-- What is amiss stays so. -/
theorem Rx.bad {α : Type} {c : Cdc α} {L L' : List Int} {q q' : Bool} {u : α} (h : Rx c L q u L' q') (hq : q = true) : q' = true := by
  rcases h with ⟨h1, -, -⟩ | ⟨-, h2⟩
  · rw [hq] at h1; cases h1
  · exact h2
/-! ### Numbers that were read -/
theorem dg_can {xs : List Int} (hd : Dig W xs) (hl : xs.getLast? ≠ some 0) : dg W (val W xs) = xs := by
  have h := (strip (b := W) (xs := xs) (n := xs.length) W_two hd (Nat.le_refl _) (fun j h1 h2 => absurd h1 (by omega)) (fun h0 => fun e => hl (by
    rw [List.getLast?_eq_getElem?]
    rw [List.getD_eq_getElem?_getD, List.getElem?_eq_getElem (by omega)] at e
    rw [List.getElem?_eq_getElem (by omega)]
    exact congrArg some e))).2
  rw [strip_ex W_two hd, ← h, List.take_length]
theorem Rx.num {L L' : List Int} {q q' : Bool} {xs : List Int} (hL : Dig 256 L) (h : Rx numC L q xs L' q') : Rx numC L q (dg W (val W xs)) L' q' := by
  rcases h with ⟨h1, h2, h3⟩ | h
  · have ok := numC_ok.1 (numC.bwd L xs L' hL h2).1
    exact .inl ⟨h1, by rw [dg_can ok.1 ok.2.2]; exact h2, h3⟩
  · exact .inr h
/-- A number that was read: it lies in new memory. -/
def RnQ (r : Nat) (L : List Int) (q : Bool) (w : World) (e : Ending) (w' : World) : Prop :=
  ∃ (A : Option Addr) (n c : Nat) (N : Int) (L' : List Int) (q' : Bool), e = .returned (.slice A n c) ∧ Nm w' A n c N ∧ (∀ b, BlN A n b → w.heap.size ≤ b) ∧ Rw w' r L' q' ∧ Ti r w w' ∧ Rx numC L q (dg W N) L' q'
theorem rnumq_any {w : World} {r : Nat} {L : List Int} {q : Bool} (h : Rw w r L q) : Calls Try.prog 56 #[.pointer (some ⟨r, 0, none⟩)] w (RnQ r L q w) := by
  refine (rnum_any h).mono ?_
  rintro e w' ⟨A, n, c, xs, L', q', rfl, h1, h2, h3, h4, h5, h6, h7, h8⟩
  exact ⟨A, n, c, val W xs, L', q', rfl, ⟨⟨xs, h1, h2, rfl⟩, h3, by omega, val_nonneg (by decide) h2⟩, fun b ⟨a, ha, _, hb⟩ => by rw [← hb]; exact h5 a ha, h6, h7, Rx.num h.dig_ h8⟩
/-! ### Kinds -/
theorem Nm.ti {r : Nat} {w w' : World} {A : Option Addr} {n c : Nat} {N : Int} (h : Nm w A n c N) (ht : Ti r w w') (hA : ∀ b, BlN A n b → b ≠ r) : Nm w' A n c N := h.stay ht.size fun b hb => ht.block b (h.blt hb) (hA b hb)
def BlP (s : Stp) (b : Nat) : Prop := BlN s.A1 s.n1 b ∨ BlN s.A2 s.n2 b ∨ BlN s.A3 s.n3 b
def BlF (s : Pf2) (b : Nat) : Prop := BlN s.A1 s.n1 b ∨ BlN s.A2 s.n2 b
abbrev sl (A : Option Addr) (n c : Nat) : Value := .slice A n c
theorem sl_one {A : Option Addr} {n c : Nat} {u : Value} (hu : u ∈ [Value.slice A n c]) : u.oneCell' = true := by
  rw [List.mem_singleton] at hu; subst hu; rfl
/-- A pair of a letter: three numbers. -/
def kPr : Kk Stp 3 := ⟨fun s => [.slice s.A1 s.n1 s.c1, .slice s.A2 s.n2 s.c2, .slice s.A3 s.n3 s.c3], fun w s => s.At w, BlP, fun _ => rfl, fun s u hu => by
    rcases List.mem_cons.1 hu with rfl | hu
    · rfl
    · rcases List.mem_cons.1 hu with rfl | hu
      · rfl
      · exact sl_one hu, fun h g => by
    rcases g with g | g | g
    · exact h.p.blt g
    · exact h.q.blt g
    · exact h.a.blt g, fun h hs g => ⟨h.p.stay hs fun b k => g b (.inl k), h.q.stay hs fun b k => g b (.inr (.inl k)), h.a.stay hs fun b k => g b (.inr (.inr k))⟩⟩
/-- A proof: two numbers. -/
def kPf : Kk Pf2 2 := ⟨fun s => [.slice s.A1 s.n1 s.c1, .slice s.A2 s.n2 s.c2], fun w s => Nm w s.A1 s.n1 s.c1 s.E ∧ Nm w s.A2 s.n2 s.c2 s.Z, BlF, fun _ => rfl, fun s u hu => by
    rcases List.mem_cons.1 hu with rfl | hu
    · rfl
    · exact sl_one hu, fun h g => by
    rcases g with g | g
    · exact h.1.blt g
    · exact h.2.blt g, fun h hs g => ⟨h.1.stay hs fun b k => g b (.inl k), h.2.stay hs fun b k => g b (.inr k)⟩⟩
/-- A letter. -/
def kLs : Kk Lsl 1 := ⟨fun s => [.slice s.A s.n s.c], fun w s => Ch w s.A s.n s.c s.S, BlL, fun _ => rfl, fun s u hu => sl_one hu, fun h g => Ch.blt h g, fun h hs g => Ch.stay h hs g⟩
def BlQ (s : Psl) (b : Nat) : Prop := BlN s.A s.n b ∨ ∃ i, i < s.n ∧ BlF (s.S i) b
theorem Pfs.stay {w w' : World} {A : Option Addr} {n c : Nat} {S : Nat → Pf2} (h : Pfs w A n c S) (hs : w.heap.size ≤ w'.heap.size) (hb : ∀ b, BlQ ⟨A, n, c, S⟩ b → w'.heap[b]? = w.heap[b]?) : Pfs w' A n c S := by
  refine ⟨h.nc, h.c60, fun hn => ?_, fun i hi => ⟨(h.at_ i hi).1.stay hs fun b g => hb b (.inr ⟨i, hi, .inl g⟩), (h.at_ i hi).2.stay hs fun b g => hb b (.inr ⟨i, hi, .inr g⟩)⟩⟩
  obtain ⟨b, off, e, hl, hc⟩ := h.ex hn
  have hk : ∀ o, w'.cell? ⟨b, o, none⟩ = w.cell? ⟨b, o, none⟩ := fun o => World.cell?_of_block (a := ⟨b, o, none⟩) (hb b (.inl ⟨_, e, hn, rfl⟩))
  exact ⟨b, off, e, Nat.lt_of_lt_of_le hl hs, fun i hi => ⟨(hk _).trans (hc i hi).1, (hk _).trans (hc i hi).2⟩⟩
theorem Pfs.blt {w : World} {A : Option Addr} {n c : Nat} {S : Nat → Pf2} (h : Pfs w A n c S) {b : Nat} (hb : BlQ ⟨A, n, c, S⟩ b) : b < w.heap.size := by
  rcases hb with ⟨a, e, hn, rfl⟩ | ⟨i, hi, g⟩
  · obtain ⟨b, off, e2, hl, -⟩ := h.ex hn
    simp only at e
    rw [e2] at e
    injection e with e
    rw [← e]
    exact hl
  · rcases g with g | g
    · exact (h.at_ i hi).1.blt g
    · exact (h.at_ i hi).2.blt g
/-- A list of proofs. -/
def kPs : Kk Psl 1 := ⟨fun s => [.slice s.A s.n s.c], fun w s => Pfs w s.A s.n s.c s.S, BlQ, fun _ => rfl, fun s u hu => sl_one hu, fun h g => Pfs.blt h g, fun h hs g => Pfs.stay h hs g⟩
theorem Rd.stayK {k : IntKind} {w w' : World} {A : Option Addr} {n : Nat} {xs : List Int} (h : Rd k w A n xs) (hs : w.heap.size ≤ w'.heap.size) (hb : ∀ b, BlN A n b → w'.heap[b]? = w.heap[b]?) : Rd k w' A n xs :=
  ⟨h.len, fun hn => by
    obtain ⟨b, off, e, hl, hc⟩ := h.cells hn
    exact ⟨b, off, e, Nat.lt_of_lt_of_le hl hs, fun j x hj => (World.cell?_of_block (a := ⟨b, off + j, none⟩) (hb b ⟨_, e, hn, rfl⟩)).trans (hc j x hj)⟩⟩
theorem Rd.bltK {k : IntKind} {w : World} {A : Option Addr} {n : Nat} {xs : List Int} (h : Rd k w A n xs) {b : Nat} (hb : BlN A n b) : b < w.heap.size := by
  obtain ⟨a, e, hn, rfl⟩ := hb
  obtain ⟨b, off, e2, hl, -⟩ := h.cells hn
  rw [e2] at e
  injection e with e
  rw [← e]
  exact hl
/-- A text. -/
def kTx : Kk Txt 1 := ⟨fun s => [.slice s.A s.xs.length s.c], fun w s => Rd .u8 w s.A s.xs.length s.xs ∧ Dig 256 s.xs, fun s b => BlN s.A s.xs.length b, fun _ => rfl, fun s u hu => sl_one hu, fun h g => h.1.bltK g, fun h hs g => ⟨h.1.stayK hs g, h.2⟩⟩
/-! ### What they tell -/
def dvP (s : Stp) : Lim × (Lim × Lim) := (dg W s.P, (dg W s.Q, dg W s.A))
def dvF (s : Pf2) : Lim × Lim := (dg W s.E, dg W s.Z)
def dvL (s : Lsl) : List (Lim × (Lim × Lim)) := (List.range s.n).map fun i => dvP (s.S i)
def dvQ (s : Psl) : List (Lim × Lim) := (List.range s.n).map fun i => dvF (s.S i)
/-! ### The loop, in numbers -/
/-- What has been read of a list: j things. -/
def Lrd {α : Type} (cd : Cdc α) (L : List Int) (q : Bool) (u j : Nat) (vs : List α) (L' : List Int) (q' : Bool) : Prop :=
  vs.length = j ∧ ((q = false ∧ q' = false ∧ j ≤ u ∧ ∃ L1, cntC.dec L = some (u, L1) ∧ cd.decN j L1 = some (vs, L') ∧ j + L'.length ≤ L.length) ∨ (q' = true ∧ (q = true ∨ (listC cd).dec L = none) ∧ j ≤ L.length + 1))
theorem Lrd.start {α : Type} {cd : Cdc α} {L L1 : List Int} {q q1 : Bool} {u : Nat} (hd : Dig 256 L) (h : Rx cntC L q u L1 q1) : Lrd cd L q u 0 [] L1 q1 := by
  refine ⟨rfl, ?_⟩
  rcases h with ⟨h1, h2, h3⟩ | ⟨h1, h2⟩
  · refine .inl ⟨h1, h3, Nat.zero_le _, L1, h2, rfl, ?_⟩
    have h4 := (cntC.bwd L u L1 hd h2).2
    rw [h4, List.length_append]
    omega
  · exact .inr ⟨h2, h1.imp_right Cdc.list_none, Nat.zero_le _⟩
theorem Lrd.bd {α : Type} {cd : Cdc α} {L L' : List Int} {q q' : Bool} {u j : Nat} {vs : List α} (h : Lrd cd L q u j vs L' q') : j ≤ L.length + 1 := by
  rcases h.2 with ⟨-, -, -, L1, -, -, h⟩ | ⟨-, -, h⟩ <;> omega
theorem Lrd.next {α : Type} {cd : Cdc α} {L L' L2 : List Int} {q q2 : Bool} {u j : Nat} {vs : List α} {v : α} (ht : cd.Takes) (hd : Dig 256 L') (h : Lrd cd L q u j vs L' false) (hj : j < u) (k : Rx cd L' false v L2 q2) : Lrd cd L q u (j + 1) (vs ++ [v]) L2 q2 := by
  refine ⟨by rw [List.length_append, h.1]; rfl, ?_⟩
  rcases h.2 with ⟨h1, h2, h3, L1, h4, h5, h6⟩ | ⟨h1, -⟩
  · rcases k with ⟨-, k2, k3⟩ | ⟨k1, k2⟩
    · have := ht L' v L2 hd k2
      exact .inl ⟨h1, k3, hj, L1, h4, cd.decN_snoc j L1 vs L' v L2 h5 k2, by omega⟩
    · rcases k1 with k1 | k1
      · cases k1
      · exact .inr ⟨k2, .inr (by rw [Cdc.list_at h4]; exact cd.decN_none j L1 vs L' u h5 k1 hj), by omega⟩
  · cases h1
theorem Lrd.done {α : Type} {cd : Cdc α} {L L' : List Int} {q : Bool} {u : Nat} {vs : List α} (h : Lrd cd L q u u vs L' false) : Rx (listC cd) L q vs L' false := by
  rcases h.2 with ⟨h1, h2, h3, L1, h4, h5, h6⟩ | ⟨h1, -⟩
  · exact .inl ⟨h1, by rw [Cdc.list_at h4]; exact h5, rfl⟩
  · cases h1
theorem Lrd.bad {α : Type} {cd : Cdc α} {L L' : List Int} {q : Bool} {u j : Nat} {vs us : List α} (h : Lrd cd L q u j vs L' true) : Rx (listC cd) L q us L' true := by
  rcases h.2 with ⟨h1, h2, -⟩ | ⟨h1, h2, -⟩
  · cases h2
  · exact .inr ⟨h2, rfl⟩
end Go.Proofs.Ytcnekfpgoceblaa
/-
  The program's reader: what readList answers. By program: genpr5.py.
-/
namespace Go.Proofs.Ytcnekfpgoceblaa
open Go.RowKit
set_option linter.unusedVariables false
section
variable {κ : Type} {k : Nat} {KD : Kk κ k} {e : TypeId} {w w' : World} {base : Nat} {v : Value} {n r : Nat} {S : Nat → κ}
theorem ownsRow_block {e : TypeId} {size : Nat} {v : Value} {n : Nat} {xs : List Value} (h : w.ownsRow base e size v n xs) (hb : ∀ g, v.ownBlock = some g → w'.heap[g]? = w.heap[g]?) : w'.ownsRow base e size v n xs := by
  refine ⟨h.1, ?_⟩
  rcases h.2 with g | ⟨g, cap, cur, rfl, h2, h3, h4⟩
  · exact .inl g
  · exact .inr ⟨g, cap, cur, rfl, h2, (hb g rfl).trans h3, h4⟩
/-- The call's own list stays where the reader turns. -/
theorem Owk.ti (h : Owk KD e w base v n S) (ht : Ti r w w') (hr : r < base) (hb : ∀ i, i < n → ∀ b, KD.Bl (S i) b → base ≤ b) : Owk KD e w' base v n S :=
  ⟨ownsRow_block h.own fun g eg => ht.block g (h.lt eg).2 (by have := (h.lt eg).1; omega), fun i hi => KD.stay (h.at_ i hi) ht.size fun b g => ht.block b (KD.lt (h.at_ i hi) g) (by have := hb i hi b g; omega), h.els⟩
theorem map_snocG {α : Type} (f : κ → α) (S : Nat → κ) (n : Nat) (s : κ) : (List.range (n + 1)).map (fun i => f (snocG S n s i)) = (List.range n).map (fun i => f (S i)) ++ [f s] := by
  rw [List.range_succ, List.map_append]
  congr 1
  · exact List.map_congr_left fun i hi => by rw [snocG_lt (List.mem_range.1 hi)]
  · simp only [List.map_cons, List.map_nil, snocG_at]
end
/-- What a reader of a list answers. -/
def RlP {κ α : Type} {kk : Nat} (KD : Kk κ kk) (e : TypeId) (cd : Cdc α) (dv : κ → α) (r : Nat) (L : List Int) (q : Bool) (w : World) (en : Ending) (w' : World) : Prop :=
  ∃ (v : Value) (n : Nat) (S : Nat → κ) (L' : List Int) (q' : Bool), en = .returned v ∧ Owk KD e w' w.heap.size v n S ∧ n ≤ 2097153 ∧ (∀ i, i < n → ∀ b, KD.Bl (S i) b → w.heap.size ≤ b) ∧ Rw w' r L' q' ∧ Ti r w w' ∧ Rx (listC cd) L q ((List.range n).map fun i => dv (S i)) L' q'
/-- What a reader of a thing answers. -/
def ReP {κ α : Type} {kk : Nat} (KD : Kk κ kk) (ev : κ → Value) (cd : Cdc α) (dv : κ → α) (r : Nat) (L : List Int) (q : Bool) (w : World) (en : Ending) (w' : World) : Prop :=
  ∃ (s : κ) (L' : List Int) (q' : Bool), en = .returned (ev s) ∧ KD.At w' s ∧ (∀ b, KD.Bl s b → w.heap.size ≤ b) ∧ Rw w' r L' q' ∧ Ti r w w' ∧ Rx cd L q (dv s) L' q'
def RlR {κ α : Type} {kk : Nat} (KD : Kk κ kk) (e : TypeId) (cd : Cdc α) (dv : κ → α) (r : Nat) (L : List Int) (q : Bool) (u : Nat) (w : World) (l i : Value) (wr : World) : Prop :=
  ∃ (j m : Nat) (S : Nat → κ) (L' : List Int) (q' : Bool), i = .int .u64 m ∧ m + j = u ∧ Owk KD e wr w.heap.size l j S ∧ (∀ i, i < j → ∀ b, KD.Bl (S i) b → w.heap.size ≤ b) ∧ Rw wr r L' q' ∧ Ti r w wr ∧ Lrd cd L q u j ((List.range j).map fun i => dv (S i)) L' q'
/-! ### treenail/api.Pair -/
theorem info_pr : (Try.prog.info? 74).map (fun i => (i.zero, i.size, i.bytes)) = some (some (.agg #[.slice none 0 0, .slice none 0 0, .slice none 0 0]), 3, 72) := by kernel_rfl
def ev_pr (s : Stp) : Value := .agg #[.slice s.A1 s.n1 s.c1, .slice s.A2 s.n2 s.c2, .slice s.A3 s.n3 s.c3]
set_option maxHeartbeats 8000000 in
set_option maxRecDepth 100000 in
theorem rl_pr {w : World} {r : Nat} {L : List Int} {q : Bool} {K : World → Prop} (hK : ∀ W W', K W → Ti r W W' → K W') {k : Nat} {c1 : Value} (hent : ∀ (xs : Array Value) (W : World), (callFunc k xs).run Try.prog W = .ok (.enter k xs) W)
    (hF : ∀ (W : World) (L : List Int) (q : Bool), Rw W r L q → K W → Calls Try.prog k #[c1] W (ReP kPr ev_pr prC dvP r L q W))
    (h : Rw w r L q) (hk : K w) :
    Calls Try.prog 74 #[.pointer (some ⟨r, 0, none⟩), .func (.func k) #[] #[c1]] w (RlP kPr 74 prC dvP r L q w) := by
  have H := Lib.hid h
  have HF := Lib.hid hF
  have HK := Lib.hid hK
  have HK0 := Lib.hid hk
  have HD := Lib.hid h.dig_
  have lt := h.lt
  clear h hF hK hk
  go_enter Try.func74, Try.ntmps74
  go_wp2_with fail
  refine (rcntT_any H.out).mono ?_
  rintro e w1 ⟨u, L1, q1, rfl, hu, h1, b1, x1, x2⟩
  have H1 := Lib.hid h1
  have B1 := Lib.hid b1
  have X1 := Lib.hid x1
  have u63 : u ≤ 4611686018427387904 := hu
  clear h1 b1 x1 x2 hu
  go_wp2_with fail
  go_loopw [5, 6] (fun l i wr => RlR kPr 74 prC dvP r L q u w l i wr) (fun _ i _ => (intOf i).toNat)
  case atStart => exact ⟨0, u, fun _ => ⟨none, 0, 0, none, 0, 0, none, 0, 0, 0, 0, 0⟩, L1, q1, rfl, rfl, Owk.nil _ _ _ _ _, fun i hi => absurd hi (Nat.not_lt_zero i), H1.out, B1.out, Lrd.start HD.out X1.out⟩
  case round =>
    obtain ⟨j, m, S, L2, q2, rfl, hmj, hl, hbl, hr2, ht2, hx2⟩ := hrel
    have HL := Lib.hid hl
    have HBL := Lib.hid hbl
    have H2 := Lib.hid hr2
    have B2 := Lib.hid ht2
    have X2 := Lib.hid hx2
    have J2 := Lib.hid (show j ≤ 2097153 by have h8 := hx2.bd; have h9 := H.out.len; omega)
    have HMJ := Lib.hid hmj
    have m64 : m < 18446744073709551616 := by omega
    obtain ⟨A2, n2, c2, hrr⟩ := hr2
    have c1 := hrr.c1
    obtain ⟨Al, cl, rfl, -⟩ := hl.form
    clear hl hbl ht2 hx2 hmj hrr
    rcases Nat.eq_zero_or_pos m with m0 | m0
    · have e0 : decide (0 < m) = false := by simp; omega
      have RES := Lib.hid (show Rx (listC prC) L q ((List.range j).map fun i => dvP (S i)) L2 q2 by
        cases q2 with
        | true => exact X2.out.bad
        | false =>
          have h9 := X2.out
          have h8 : j = u := by have := HMJ.out; omega
          rw [← h8] at h9
          exact h9.done)
      clear m0
      go_wp2_with fail
      go_ret
      exact ⟨_, j, S, L2, q2, rfl, HL.out, J2.out, HBL.out, H2.out, B2.out, RES.out⟩
    · have e0 : decide (0 < m) = true := by simp; omega
      cases q2 with
      | true =>
        have M0 := Lib.hid m0
        clear m0
        go_wp2_with fail
        go_ret
        exact ⟨_, j, S, L2, true, rfl, HL.out, J2.out, HBL.out, H2.out, B2.out, X2.out.bad⟩
      | false =>
        have M0 := Lib.hid m0
        clear m0
        go_wp2_with fail
        refine (HF.out wr L2 false H2.out (HK.out _ _ HK0.out B2.out)).mono ?_
        rintro e w3 ⟨s, L3, q3, rfl, hs, hsb, hr3, ht3, hx3⟩
        have HS := Lib.hid hs
        have HSB := Lib.hid hsb
        have H3 := Lib.hid hr3
        have B3 := Lib.hid ht3
        have X3 := Lib.hid hx3
        have O3 := Lib.hid (HL.out.ti ht3 lt HBL.out)
        obtain ⟨W4, hW4⟩ : ∃ W4, w3.alloc (.cells #[.slice s.A1 s.n1 s.c1, .slice s.A2 s.n2 s.c2, .slice s.A3 s.n3 s.c3] 74) = W4 := ⟨_, rfl⟩
        have B4 := Lib.hid (show Below w3.heap.size w3 W4 by rw [← hW4]; exact (Below.refl _ _).alloc (Nat.le_refl _) _)
        have R4 := Lib.hid (show W4.heap[w3.heap.size]? = some (.cells #[.slice s.A1 s.n1 s.c1, .slice s.A2 s.n2 s.c2, .slice s.A3 s.n3 s.c3] 74 (0, 0)) by rw [← hW4]; exact heap_alloc_new w3 _)
        have O4 := Lib.hid (O3.out.below B4.out)
        have S4 := Lib.hid ((kPr).stay HS.out B4.out.size fun b hb => B4.out.block b ((kPr).lt HS.out hb))
        have H4 := Lib.hid (H3.out.below B4.out)
        have T4 := Lib.hid ((B2.out.trans B3.out).trans (Ti.of B4.out (Nat.le_refl _)))
        have F4 := Lib.hid (show ∀ b, (kPr).Bl s b → (Value.slice Al j cl).ownBlock ≠ some b from fun b hb => HL.out.far (HSB.out b hb))
        have C4 := Lib.hid (show ∀ (i : Nat) (x : Value), ((kPr).v s)[i]? = some x → W4.cell? ⟨w3.heap.size, i, none⟩ = some x from fun i x hx => by rw [cell_of_row W4 w3.heap.size i _ _ _ R4.out, List.getElem?_toArray]; exact hx)
        have hbase : w.heap.size ≤ W4.heap.size := T4.out.size
        have j21 := J2.out
        have wm : IntKind.u64.wrap ((m : Int) - 1) = ((m - 1 : Nat) : Int) := by have := M0.out; rw [IntKind.wrap_u64]; omega
        clear hs hsb hr3 ht3 hx3 c1
        unfold ev_pr
        go_wp2_with (at_builtin; (first | rw [hW4] | skip); refine wpList_owk rfl (.tmp 20) (.tmp 23) 59 rfl w.heap.size 74 72 (.agg #[.slice none 0 0, .slice none 0 0, .slice none 0 0]) Try.underlying59 info_pr rfl (by decide) _ j 1 S s rfl O4.out w3.heap.size rfl C4.out S4.out F4.out (by unfold maxLen; omega) (by omega) hbase ?_)
        intro v5 w5 ho5 hg5
        have HO5 := Lib.hid ho5
        have H5 := Lib.hid (H4.out.grown hg5 fun b hb => by have := (O4.out.lt hb).1; omega)
        have T5 := Lib.hid (T4.out.grown hg5 fun b hb => (O4.out.lt hb).1)
        obtain ⟨A5, c5, rfl, -⟩ := ho5.form
        clear ho5 hg5 hW4
        go_wp2_with fail
        go_roundw
        case rel =>
          refine ⟨j + 1, m - 1, snocG S j s, L3, q3, by go_num, by have := HMJ.out; have := M0.out; omega, HO5.out, fun i hi b hb => ?_, H5.out, T5.out, ?_⟩
          · rcases Nat.lt_or_ge i j with g | g
            · rw [snocG_lt g] at hb; exact HBL.out i g b hb
            · obtain rfl : i = j := by omega
              rw [snocG_at] at hb
              exact Nat.le_trans B2.out.size (HSB.out b hb)
          · rw [map_snocG]
            exact X2.out.next takes_pr H2.out.dig_ (by have := HMJ.out; have := M0.out; omega) X3.out
        case measure => have := M0.out; simp [intOf]; omega
/-! ### treenail/api.Proof -/
theorem info_pf : (Try.prog.info? 76).map (fun i => (i.zero, i.size, i.bytes)) = some (some (.agg #[.slice none 0 0, .slice none 0 0]), 2, 48) := by kernel_rfl
def ev_pf (s : Pf2) : Value := .agg #[.slice s.A1 s.n1 s.c1, .slice s.A2 s.n2 s.c2]
set_option maxHeartbeats 8000000 in
set_option maxRecDepth 100000 in
theorem rl_pf {w : World} {r : Nat} {L : List Int} {q : Bool} {K : World → Prop} (hK : ∀ W W', K W → Ti r W W' → K W') {k : Nat} {c1 : Value} (hent : ∀ (xs : Array Value) (W : World), (callFunc k xs).run Try.prog W = .ok (.enter k xs) W)
    (hF : ∀ (W : World) (L : List Int) (q : Bool), Rw W r L q → K W → Calls Try.prog k #[c1] W (ReP kPf ev_pf pfC dvF r L q W))
    (h : Rw w r L q) (hk : K w) :
    Calls Try.prog 77 #[.pointer (some ⟨r, 0, none⟩), .func (.func k) #[] #[c1]] w (RlP kPf 76 pfC dvF r L q w) := by
  have H := Lib.hid h
  have HF := Lib.hid hF
  have HK := Lib.hid hK
  have HK0 := Lib.hid hk
  have HD := Lib.hid h.dig_
  have lt := h.lt
  clear h hF hK hk
  go_enter Try.func77, Try.ntmps77
  go_wp2_with fail
  refine (rcntT_any H.out).mono ?_
  rintro e w1 ⟨u, L1, q1, rfl, hu, h1, b1, x1, x2⟩
  have H1 := Lib.hid h1
  have B1 := Lib.hid b1
  have X1 := Lib.hid x1
  have u63 : u ≤ 4611686018427387904 := hu
  clear h1 b1 x1 x2 hu
  go_wp2_with fail
  go_loopw [5, 6] (fun l i wr => RlR kPf 76 pfC dvF r L q u w l i wr) (fun _ i _ => (intOf i).toNat)
  case atStart => exact ⟨0, u, fun _ => ⟨none, 0, 0, 0, none, 0, 0, 0⟩, L1, q1, rfl, rfl, Owk.nil _ _ _ _ _, fun i hi => absurd hi (Nat.not_lt_zero i), H1.out, B1.out, Lrd.start HD.out X1.out⟩
  case round =>
    obtain ⟨j, m, S, L2, q2, rfl, hmj, hl, hbl, hr2, ht2, hx2⟩ := hrel
    have HL := Lib.hid hl
    have HBL := Lib.hid hbl
    have H2 := Lib.hid hr2
    have B2 := Lib.hid ht2
    have X2 := Lib.hid hx2
    have J2 := Lib.hid (show j ≤ 2097153 by have h8 := hx2.bd; have h9 := H.out.len; omega)
    have HMJ := Lib.hid hmj
    have m64 : m < 18446744073709551616 := by omega
    obtain ⟨A2, n2, c2, hrr⟩ := hr2
    have c1 := hrr.c1
    obtain ⟨Al, cl, rfl, -⟩ := hl.form
    clear hl hbl ht2 hx2 hmj hrr
    rcases Nat.eq_zero_or_pos m with m0 | m0
    · have e0 : decide (0 < m) = false := by simp; omega
      have RES := Lib.hid (show Rx (listC pfC) L q ((List.range j).map fun i => dvF (S i)) L2 q2 by
        cases q2 with
        | true => exact X2.out.bad
        | false =>
          have h9 := X2.out
          have h8 : j = u := by have := HMJ.out; omega
          rw [← h8] at h9
          exact h9.done)
      clear m0
      go_wp2_with fail
      go_ret
      exact ⟨_, j, S, L2, q2, rfl, HL.out, J2.out, HBL.out, H2.out, B2.out, RES.out⟩
    · have e0 : decide (0 < m) = true := by simp; omega
      cases q2 with
      | true =>
        have M0 := Lib.hid m0
        clear m0
        go_wp2_with fail
        go_ret
        exact ⟨_, j, S, L2, true, rfl, HL.out, J2.out, HBL.out, H2.out, B2.out, X2.out.bad⟩
      | false =>
        have M0 := Lib.hid m0
        clear m0
        go_wp2_with fail
        refine (HF.out wr L2 false H2.out (HK.out _ _ HK0.out B2.out)).mono ?_
        rintro e w3 ⟨s, L3, q3, rfl, hs, hsb, hr3, ht3, hx3⟩
        have HS := Lib.hid hs
        have HSB := Lib.hid hsb
        have H3 := Lib.hid hr3
        have B3 := Lib.hid ht3
        have X3 := Lib.hid hx3
        have O3 := Lib.hid (HL.out.ti ht3 lt HBL.out)
        obtain ⟨W4, hW4⟩ : ∃ W4, w3.alloc (.cells #[.slice s.A1 s.n1 s.c1, .slice s.A2 s.n2 s.c2] 76) = W4 := ⟨_, rfl⟩
        have B4 := Lib.hid (show Below w3.heap.size w3 W4 by rw [← hW4]; exact (Below.refl _ _).alloc (Nat.le_refl _) _)
        have R4 := Lib.hid (show W4.heap[w3.heap.size]? = some (.cells #[.slice s.A1 s.n1 s.c1, .slice s.A2 s.n2 s.c2] 76 (0, 0)) by rw [← hW4]; exact heap_alloc_new w3 _)
        have O4 := Lib.hid (O3.out.below B4.out)
        have S4 := Lib.hid ((kPf).stay HS.out B4.out.size fun b hb => B4.out.block b ((kPf).lt HS.out hb))
        have H4 := Lib.hid (H3.out.below B4.out)
        have T4 := Lib.hid ((B2.out.trans B3.out).trans (Ti.of B4.out (Nat.le_refl _)))
        have F4 := Lib.hid (show ∀ b, (kPf).Bl s b → (Value.slice Al j cl).ownBlock ≠ some b from fun b hb => HL.out.far (HSB.out b hb))
        have C4 := Lib.hid (show ∀ (i : Nat) (x : Value), ((kPf).v s)[i]? = some x → W4.cell? ⟨w3.heap.size, i, none⟩ = some x from fun i x hx => by rw [cell_of_row W4 w3.heap.size i _ _ _ R4.out, List.getElem?_toArray]; exact hx)
        have hbase : w.heap.size ≤ W4.heap.size := T4.out.size
        have j21 := J2.out
        have wm : IntKind.u64.wrap ((m : Int) - 1) = ((m - 1 : Nat) : Int) := by have := M0.out; rw [IntKind.wrap_u64]; omega
        clear hs hsb hr3 ht3 hx3 c1
        unfold ev_pf
        go_wp2_with (at_builtin; (first | rw [hW4] | skip); refine wpList_owk rfl (.tmp 20) (.tmp 23) 60 rfl w.heap.size 76 48 (.agg #[.slice none 0 0, .slice none 0 0]) Try.underlying60 info_pf rfl (by decide) _ j 1 S s rfl O4.out w3.heap.size rfl C4.out S4.out F4.out (by unfold maxLen; omega) (by omega) hbase ?_)
        intro v5 w5 ho5 hg5
        have HO5 := Lib.hid ho5
        have H5 := Lib.hid (H4.out.grown hg5 fun b hb => by have := (O4.out.lt hb).1; omega)
        have T5 := Lib.hid (T4.out.grown hg5 fun b hb => (O4.out.lt hb).1)
        obtain ⟨A5, c5, rfl, -⟩ := ho5.form
        clear ho5 hg5 hW4
        go_wp2_with fail
        go_roundw
        case rel =>
          refine ⟨j + 1, m - 1, snocG S j s, L3, q3, by go_num, by have := HMJ.out; have := M0.out; omega, HO5.out, fun i hi b hb => ?_, H5.out, T5.out, ?_⟩
          · rcases Nat.lt_or_ge i j with g | g
            · rw [snocG_lt g] at hb; exact HBL.out i g b hb
            · obtain rfl : i = j := by omega
              rw [snocG_at] at hb
              exact Nat.le_trans B2.out.size (HSB.out b hb)
          · rw [map_snocG]
            exact X2.out.next takes_pf H2.out.dig_ (by have := HMJ.out; have := M0.out; omega) X3.out
        case measure => have := M0.out; simp [intOf]; omega
/-! ### []treenail/api.Pair -/
theorem info_ls : (Try.prog.info? 59).map (fun i => (i.zero, i.size, i.bytes)) = some (some (.slice none 0 0), 1, 24) := by kernel_rfl
def ev_ls (s : Lsl) : Value := .slice s.A s.n s.c
set_option maxHeartbeats 8000000 in
set_option maxRecDepth 100000 in
theorem rl_ls {w : World} {r : Nat} {L : List Int} {q : Bool} {K : World → Prop} (hK : ∀ W W', K W → Ti r W W' → K W') {k : Nat} {c1 c2 : Value} (hent : ∀ (xs : Array Value) (W : World), (callFunc k xs).run Try.prog W = .ok (.enter k xs) W)
    (hF : ∀ (W : World) (L : List Int) (q : Bool), Rw W r L q → K W → Calls Try.prog k #[c1, c2] W (ReP kLs ev_ls (listC prC) dvL r L q W))
    (h : Rw w r L q) (hk : K w) :
    Calls Try.prog 72 #[.pointer (some ⟨r, 0, none⟩), .func (.func k) #[] #[c1, c2]] w (RlP kLs 59 (listC prC) dvL r L q w) := by
  have H := Lib.hid h
  have HF := Lib.hid hF
  have HK := Lib.hid hK
  have HK0 := Lib.hid hk
  have HD := Lib.hid h.dig_
  have lt := h.lt
  clear h hF hK hk
  go_enter Try.func72, Try.ntmps72
  go_wp2_with fail
  refine (rcntT_any H.out).mono ?_
  rintro e w1 ⟨u, L1, q1, rfl, hu, h1, b1, x1, x2⟩
  have H1 := Lib.hid h1
  have B1 := Lib.hid b1
  have X1 := Lib.hid x1
  have u63 : u ≤ 4611686018427387904 := hu
  clear h1 b1 x1 x2 hu
  go_wp2_with fail
  go_loopw [5, 6] (fun l i wr => RlR kLs 59 (listC prC) dvL r L q u w l i wr) (fun _ i _ => (intOf i).toNat)
  case atStart => exact ⟨0, u, fun _ => ⟨none, 0, 0, fun _ => ⟨none, 0, 0, none, 0, 0, none, 0, 0, 0, 0, 0⟩⟩, L1, q1, rfl, rfl, Owk.nil _ _ _ _ _, fun i hi => absurd hi (Nat.not_lt_zero i), H1.out, B1.out, Lrd.start HD.out X1.out⟩
  case round =>
    obtain ⟨j, m, S, L2, q2, rfl, hmj, hl, hbl, hr2, ht2, hx2⟩ := hrel
    have HL := Lib.hid hl
    have HBL := Lib.hid hbl
    have H2 := Lib.hid hr2
    have B2 := Lib.hid ht2
    have X2 := Lib.hid hx2
    have J2 := Lib.hid (show j ≤ 2097153 by have h8 := hx2.bd; have h9 := H.out.len; omega)
    have HMJ := Lib.hid hmj
    have m64 : m < 18446744073709551616 := by omega
    obtain ⟨A2, n2, c2, hrr⟩ := hr2
    have c1 := hrr.c1
    obtain ⟨Al, cl, rfl, -⟩ := hl.form
    clear hl hbl ht2 hx2 hmj hrr
    rcases Nat.eq_zero_or_pos m with m0 | m0
    · have e0 : decide (0 < m) = false := by simp; omega
      have RES := Lib.hid (show Rx (listC (listC prC)) L q ((List.range j).map fun i => dvL (S i)) L2 q2 by
        cases q2 with
        | true => exact X2.out.bad
        | false =>
          have h9 := X2.out
          have h8 : j = u := by have := HMJ.out; omega
          rw [← h8] at h9
          exact h9.done)
      clear m0
      go_wp2_with fail
      go_ret
      exact ⟨_, j, S, L2, q2, rfl, HL.out, J2.out, HBL.out, H2.out, B2.out, RES.out⟩
    · have e0 : decide (0 < m) = true := by simp; omega
      cases q2 with
      | true =>
        have M0 := Lib.hid m0
        clear m0
        go_wp2_with fail
        go_ret
        exact ⟨_, j, S, L2, true, rfl, HL.out, J2.out, HBL.out, H2.out, B2.out, X2.out.bad⟩
      | false =>
        have M0 := Lib.hid m0
        clear m0
        go_wp2_with fail
        refine (HF.out wr L2 false H2.out (HK.out _ _ HK0.out B2.out)).mono ?_
        rintro e w3 ⟨s, L3, q3, rfl, hs, hsb, hr3, ht3, hx3⟩
        have HS := Lib.hid hs
        have HSB := Lib.hid hsb
        have H3 := Lib.hid hr3
        have B3 := Lib.hid ht3
        have X3 := Lib.hid hx3
        have O3 := Lib.hid (HL.out.ti ht3 lt HBL.out)
        obtain ⟨W4, hW4⟩ : ∃ W4, w3.alloc (.cells #[.slice s.A s.n s.c] 59) = W4 := ⟨_, rfl⟩
        have B4 := Lib.hid (show Below w3.heap.size w3 W4 by rw [← hW4]; exact (Below.refl _ _).alloc (Nat.le_refl _) _)
        have R4 := Lib.hid (show W4.heap[w3.heap.size]? = some (.cells #[.slice s.A s.n s.c] 59 (0, 0)) by rw [← hW4]; exact heap_alloc_new w3 _)
        have O4 := Lib.hid (O3.out.below B4.out)
        have S4 := Lib.hid ((kLs).stay HS.out B4.out.size fun b hb => B4.out.block b ((kLs).lt HS.out hb))
        have H4 := Lib.hid (H3.out.below B4.out)
        have T4 := Lib.hid ((B2.out.trans B3.out).trans (Ti.of B4.out (Nat.le_refl _)))
        have F4 := Lib.hid (show ∀ b, (kLs).Bl s b → (Value.slice Al j cl).ownBlock ≠ some b from fun b hb => HL.out.far (HSB.out b hb))
        have C4 := Lib.hid (show ∀ (i : Nat) (x : Value), ((kLs).v s)[i]? = some x → W4.cell? ⟨w3.heap.size, i, none⟩ = some x from fun i x hx => by rw [cell_of_row W4 w3.heap.size i _ _ _ R4.out, List.getElem?_toArray]; exact hx)
        have hbase : w.heap.size ≤ W4.heap.size := T4.out.size
        have j21 := J2.out
        have wm : IntKind.u64.wrap ((m : Int) - 1) = ((m - 1 : Nat) : Int) := by have := M0.out; rw [IntKind.wrap_u64]; omega
        clear hs hsb hr3 ht3 hx3 c1
        unfold ev_ls
        go_wp2_with (at_builtin; (first | rw [hW4] | skip); refine wpList_owk rfl (.tmp 20) (.tmp 23) 22 rfl w.heap.size 59 24 (.slice none 0 0) Try.underlying22 info_ls rfl (by decide) _ j 1 S s rfl O4.out w3.heap.size rfl C4.out S4.out F4.out (by unfold maxLen; omega) (by omega) hbase ?_)
        intro v5 w5 ho5 hg5
        have HO5 := Lib.hid ho5
        have H5 := Lib.hid (H4.out.grown hg5 fun b hb => by have := (O4.out.lt hb).1; omega)
        have T5 := Lib.hid (T4.out.grown hg5 fun b hb => (O4.out.lt hb).1)
        obtain ⟨A5, c5, rfl, -⟩ := ho5.form
        clear ho5 hg5 hW4
        go_wp2_with fail
        go_roundw
        case rel =>
          refine ⟨j + 1, m - 1, snocG S j s, L3, q3, by go_num, by have := HMJ.out; have := M0.out; omega, HO5.out, fun i hi b hb => ?_, H5.out, T5.out, ?_⟩
          · rcases Nat.lt_or_ge i j with g | g
            · rw [snocG_lt g] at hb; exact HBL.out i g b hb
            · obtain rfl : i = j := by omega
              rw [snocG_at] at hb
              exact Nat.le_trans B2.out.size (HSB.out b hb)
          · rw [map_snocG]
            exact X2.out.next (Cdc.takes_list _) H2.out.dig_ (by have := HMJ.out; have := M0.out; omega) X3.out
        case measure => have := M0.out; simp [intOf]; omega
/-! ### []treenail/api.Proof -/
theorem info_ps : (Try.prog.info? 60).map (fun i => (i.zero, i.size, i.bytes)) = some (some (.slice none 0 0), 1, 24) := by kernel_rfl
def ev_ps (s : Psl) : Value := .slice s.A s.n s.c
set_option maxHeartbeats 8000000 in
set_option maxRecDepth 100000 in
theorem rl_ps {w : World} {r : Nat} {L : List Int} {q : Bool} {K : World → Prop} (hK : ∀ W W', K W → Ti r W W' → K W') {k : Nat} {c1 c2 : Value} (hent : ∀ (xs : Array Value) (W : World), (callFunc k xs).run Try.prog W = .ok (.enter k xs) W)
    (hF : ∀ (W : World) (L : List Int) (q : Bool), Rw W r L q → K W → Calls Try.prog k #[c1, c2] W (ReP kPs ev_ps (listC pfC) dvQ r L q W))
    (h : Rw w r L q) (hk : K w) :
    Calls Try.prog 75 #[.pointer (some ⟨r, 0, none⟩), .func (.func k) #[] #[c1, c2]] w (RlP kPs 60 (listC pfC) dvQ r L q w) := by
  have H := Lib.hid h
  have HF := Lib.hid hF
  have HK := Lib.hid hK
  have HK0 := Lib.hid hk
  have HD := Lib.hid h.dig_
  have lt := h.lt
  clear h hF hK hk
  go_enter Try.func75, Try.ntmps75
  go_wp2_with fail
  refine (rcntT_any H.out).mono ?_
  rintro e w1 ⟨u, L1, q1, rfl, hu, h1, b1, x1, x2⟩
  have H1 := Lib.hid h1
  have B1 := Lib.hid b1
  have X1 := Lib.hid x1
  have u63 : u ≤ 4611686018427387904 := hu
  clear h1 b1 x1 x2 hu
  go_wp2_with fail
  go_loopw [5, 6] (fun l i wr => RlR kPs 60 (listC pfC) dvQ r L q u w l i wr) (fun _ i _ => (intOf i).toNat)
  case atStart => exact ⟨0, u, fun _ => ⟨none, 0, 0, fun _ => ⟨none, 0, 0, 0, none, 0, 0, 0⟩⟩, L1, q1, rfl, rfl, Owk.nil _ _ _ _ _, fun i hi => absurd hi (Nat.not_lt_zero i), H1.out, B1.out, Lrd.start HD.out X1.out⟩
  case round =>
    obtain ⟨j, m, S, L2, q2, rfl, hmj, hl, hbl, hr2, ht2, hx2⟩ := hrel
    have HL := Lib.hid hl
    have HBL := Lib.hid hbl
    have H2 := Lib.hid hr2
    have B2 := Lib.hid ht2
    have X2 := Lib.hid hx2
    have J2 := Lib.hid (show j ≤ 2097153 by have h8 := hx2.bd; have h9 := H.out.len; omega)
    have HMJ := Lib.hid hmj
    have m64 : m < 18446744073709551616 := by omega
    obtain ⟨A2, n2, c2, hrr⟩ := hr2
    have c1 := hrr.c1
    obtain ⟨Al, cl, rfl, -⟩ := hl.form
    clear hl hbl ht2 hx2 hmj hrr
    rcases Nat.eq_zero_or_pos m with m0 | m0
    · have e0 : decide (0 < m) = false := by simp; omega
      have RES := Lib.hid (show Rx (listC (listC pfC)) L q ((List.range j).map fun i => dvQ (S i)) L2 q2 by
        cases q2 with
        | true => exact X2.out.bad
        | false =>
          have h9 := X2.out
          have h8 : j = u := by have := HMJ.out; omega
          rw [← h8] at h9
          exact h9.done)
      clear m0
      go_wp2_with fail
      go_ret
      exact ⟨_, j, S, L2, q2, rfl, HL.out, J2.out, HBL.out, H2.out, B2.out, RES.out⟩
    · have e0 : decide (0 < m) = true := by simp; omega
      cases q2 with
      | true =>
        have M0 := Lib.hid m0
        clear m0
        go_wp2_with fail
        go_ret
        exact ⟨_, j, S, L2, true, rfl, HL.out, J2.out, HBL.out, H2.out, B2.out, X2.out.bad⟩
      | false =>
        have M0 := Lib.hid m0
        clear m0
        go_wp2_with fail
        refine (HF.out wr L2 false H2.out (HK.out _ _ HK0.out B2.out)).mono ?_
        rintro e w3 ⟨s, L3, q3, rfl, hs, hsb, hr3, ht3, hx3⟩
        have HS := Lib.hid hs
        have HSB := Lib.hid hsb
        have H3 := Lib.hid hr3
        have B3 := Lib.hid ht3
        have X3 := Lib.hid hx3
        have O3 := Lib.hid (HL.out.ti ht3 lt HBL.out)
        obtain ⟨W4, hW4⟩ : ∃ W4, w3.alloc (.cells #[.slice s.A s.n s.c] 60) = W4 := ⟨_, rfl⟩
        have B4 := Lib.hid (show Below w3.heap.size w3 W4 by rw [← hW4]; exact (Below.refl _ _).alloc (Nat.le_refl _) _)
        have R4 := Lib.hid (show W4.heap[w3.heap.size]? = some (.cells #[.slice s.A s.n s.c] 60 (0, 0)) by rw [← hW4]; exact heap_alloc_new w3 _)
        have O4 := Lib.hid (O3.out.below B4.out)
        have S4 := Lib.hid ((kPs).stay HS.out B4.out.size fun b hb => B4.out.block b ((kPs).lt HS.out hb))
        have H4 := Lib.hid (H3.out.below B4.out)
        have T4 := Lib.hid ((B2.out.trans B3.out).trans (Ti.of B4.out (Nat.le_refl _)))
        have F4 := Lib.hid (show ∀ b, (kPs).Bl s b → (Value.slice Al j cl).ownBlock ≠ some b from fun b hb => HL.out.far (HSB.out b hb))
        have C4 := Lib.hid (show ∀ (i : Nat) (x : Value), ((kPs).v s)[i]? = some x → W4.cell? ⟨w3.heap.size, i, none⟩ = some x from fun i x hx => by rw [cell_of_row W4 w3.heap.size i _ _ _ R4.out, List.getElem?_toArray]; exact hx)
        have hbase : w.heap.size ≤ W4.heap.size := T4.out.size
        have j21 := J2.out
        have wm : IntKind.u64.wrap ((m : Int) - 1) = ((m - 1 : Nat) : Int) := by have := M0.out; rw [IntKind.wrap_u64]; omega
        clear hs hsb hr3 ht3 hx3 c1
        unfold ev_ps
        go_wp2_with (at_builtin; (first | rw [hW4] | skip); refine wpList_owk rfl (.tmp 20) (.tmp 23) 23 rfl w.heap.size 60 24 (.slice none 0 0) Try.underlying23 info_ps rfl (by decide) _ j 1 S s rfl O4.out w3.heap.size rfl C4.out S4.out F4.out (by unfold maxLen; omega) (by omega) hbase ?_)
        intro v5 w5 ho5 hg5
        have HO5 := Lib.hid ho5
        have H5 := Lib.hid (H4.out.grown hg5 fun b hb => by have := (O4.out.lt hb).1; omega)
        have T5 := Lib.hid (T4.out.grown hg5 fun b hb => (O4.out.lt hb).1)
        obtain ⟨A5, c5, rfl, -⟩ := ho5.form
        clear ho5 hg5 hW4
        go_wp2_with fail
        go_roundw
        case rel =>
          refine ⟨j + 1, m - 1, snocG S j s, L3, q3, by go_num, by have := HMJ.out; have := M0.out; omega, HO5.out, fun i hi b hb => ?_, H5.out, T5.out, ?_⟩
          · rcases Nat.lt_or_ge i j with g | g
            · rw [snocG_lt g] at hb; exact HBL.out i g b hb
            · obtain rfl : i = j := by omega
              rw [snocG_at] at hb
              exact Nat.le_trans B2.out.size (HSB.out b hb)
          · rw [map_snocG]
            exact X2.out.next (Cdc.takes_list _) H2.out.dig_ (by have := HMJ.out; have := M0.out; omega) X3.out
        case measure => have := M0.out; simp [intOf]; omega
/-! ### []byte -/
theorem info_tx : (Try.prog.info? 33).map (fun i => (i.zero, i.size, i.bytes)) = some (some (.slice none 0 0), 1, 24) := by kernel_rfl
def ev_tx (s : Txt) : Value := .slice s.A s.xs.length s.c
set_option maxHeartbeats 8000000 in
set_option maxRecDepth 100000 in
theorem rl_tx {w : World} {r : Nat} {L : List Int} {q : Bool} {K : World → Prop} (hK : ∀ W W', K W → Ti r W W' → K W') {k : Nat} {c1 : Value} (hent : ∀ (xs : Array Value) (W : World), (callFunc k xs).run Try.prog W = .ok (.enter k xs) W)
    (hF : ∀ (W : World) (L : List Int) (q : Bool), Rw W r L q → K W → Calls Try.prog k #[c1] W (ReP kTx ev_tx bytesC Txt.xs r L q W))
    (h : Rw w r L q) (hk : K w) :
    Calls Try.prog 61 #[.pointer (some ⟨r, 0, none⟩), .func (.func k) #[] #[c1]] w (RlP kTx 33 bytesC Txt.xs r L q w) := by
  have H := Lib.hid h
  have HF := Lib.hid hF
  have HK := Lib.hid hK
  have HK0 := Lib.hid hk
  have HD := Lib.hid h.dig_
  have lt := h.lt
  clear h hF hK hk
  go_enter Try.func61, Try.ntmps61
  go_wp2_with fail
  refine (rcntT_any H.out).mono ?_
  rintro e w1 ⟨u, L1, q1, rfl, hu, h1, b1, x1, x2⟩
  have H1 := Lib.hid h1
  have B1 := Lib.hid b1
  have X1 := Lib.hid x1
  have u63 : u ≤ 4611686018427387904 := hu
  clear h1 b1 x1 x2 hu
  go_wp2_with fail
  go_loopw [5, 6] (fun l i wr => RlR kTx 33 bytesC Txt.xs r L q u w l i wr) (fun _ i _ => (intOf i).toNat)
  case atStart => exact ⟨0, u, fun _ => ⟨none, 0, []⟩, L1, q1, rfl, rfl, Owk.nil _ _ _ _ _, fun i hi => absurd hi (Nat.not_lt_zero i), H1.out, B1.out, Lrd.start HD.out X1.out⟩
  case round =>
    obtain ⟨j, m, S, L2, q2, rfl, hmj, hl, hbl, hr2, ht2, hx2⟩ := hrel
    have HL := Lib.hid hl
    have HBL := Lib.hid hbl
    have H2 := Lib.hid hr2
    have B2 := Lib.hid ht2
    have X2 := Lib.hid hx2
    have J2 := Lib.hid (show j ≤ 2097153 by have h8 := hx2.bd; have h9 := H.out.len; omega)
    have HMJ := Lib.hid hmj
    have m64 : m < 18446744073709551616 := by omega
    obtain ⟨A2, n2, c2, hrr⟩ := hr2
    have c1 := hrr.c1
    obtain ⟨Al, cl, rfl, -⟩ := hl.form
    clear hl hbl ht2 hx2 hmj hrr
    rcases Nat.eq_zero_or_pos m with m0 | m0
    · have e0 : decide (0 < m) = false := by simp; omega
      have RES := Lib.hid (show Rx (listC bytesC) L q ((List.range j).map fun i => Txt.xs (S i)) L2 q2 by
        cases q2 with
        | true => exact X2.out.bad
        | false =>
          have h9 := X2.out
          have h8 : j = u := by have := HMJ.out; omega
          rw [← h8] at h9
          exact h9.done)
      clear m0
      go_wp2_with fail
      go_ret
      exact ⟨_, j, S, L2, q2, rfl, HL.out, J2.out, HBL.out, H2.out, B2.out, RES.out⟩
    · have e0 : decide (0 < m) = true := by simp; omega
      cases q2 with
      | true =>
        have M0 := Lib.hid m0
        clear m0
        go_wp2_with fail
        go_ret
        exact ⟨_, j, S, L2, true, rfl, HL.out, J2.out, HBL.out, H2.out, B2.out, X2.out.bad⟩
      | false =>
        have M0 := Lib.hid m0
        clear m0
        go_wp2_with fail
        refine (HF.out wr L2 false H2.out (HK.out _ _ HK0.out B2.out)).mono ?_
        rintro e w3 ⟨s, L3, q3, rfl, hs, hsb, hr3, ht3, hx3⟩
        have HS := Lib.hid hs
        have HSB := Lib.hid hsb
        have H3 := Lib.hid hr3
        have B3 := Lib.hid ht3
        have X3 := Lib.hid hx3
        have O3 := Lib.hid (HL.out.ti ht3 lt HBL.out)
        obtain ⟨W4, hW4⟩ : ∃ W4, w3.alloc (.cells #[.slice s.A s.xs.length s.c] 33) = W4 := ⟨_, rfl⟩
        have B4 := Lib.hid (show Below w3.heap.size w3 W4 by rw [← hW4]; exact (Below.refl _ _).alloc (Nat.le_refl _) _)
        have R4 := Lib.hid (show W4.heap[w3.heap.size]? = some (.cells #[.slice s.A s.xs.length s.c] 33 (0, 0)) by rw [← hW4]; exact heap_alloc_new w3 _)
        have O4 := Lib.hid (O3.out.below B4.out)
        have S4 := Lib.hid ((kTx).stay HS.out B4.out.size fun b hb => B4.out.block b ((kTx).lt HS.out hb))
        have H4 := Lib.hid (H3.out.below B4.out)
        have T4 := Lib.hid ((B2.out.trans B3.out).trans (Ti.of B4.out (Nat.le_refl _)))
        have F4 := Lib.hid (show ∀ b, (kTx).Bl s b → (Value.slice Al j cl).ownBlock ≠ some b from fun b hb => HL.out.far (HSB.out b hb))
        have C4 := Lib.hid (show ∀ (i : Nat) (x : Value), ((kTx).v s)[i]? = some x → W4.cell? ⟨w3.heap.size, i, none⟩ = some x from fun i x hx => by rw [cell_of_row W4 w3.heap.size i _ _ _ R4.out, List.getElem?_toArray]; exact hx)
        have hbase : w.heap.size ≤ W4.heap.size := T4.out.size
        have j21 := J2.out
        have wm : IntKind.u64.wrap ((m : Int) - 1) = ((m - 1 : Nat) : Int) := by have := M0.out; rw [IntKind.wrap_u64]; omega
        clear hs hsb hr3 ht3 hx3 c1
        unfold ev_tx
        go_wp2_with (at_builtin; (first | rw [hW4] | skip); refine wpList_owk rfl (.tmp 20) (.tmp 23) 24 rfl w.heap.size 33 24 (.slice none 0 0) Try.underlying24 info_tx rfl (by decide) _ j 1 S s rfl O4.out w3.heap.size rfl C4.out S4.out F4.out (by unfold maxLen; omega) (by omega) hbase ?_)
        intro v5 w5 ho5 hg5
        have HO5 := Lib.hid ho5
        have H5 := Lib.hid (H4.out.grown hg5 fun b hb => by have := (O4.out.lt hb).1; omega)
        have T5 := Lib.hid (T4.out.grown hg5 fun b hb => (O4.out.lt hb).1)
        obtain ⟨A5, c5, rfl, -⟩ := ho5.form
        clear ho5 hg5 hW4
        go_wp2_with fail
        go_roundw
        case rel =>
          refine ⟨j + 1, m - 1, snocG S j s, L3, q3, by go_num, by have := HMJ.out; have := M0.out; omega, HO5.out, fun i hi b hb => ?_, H5.out, T5.out, ?_⟩
          · rcases Nat.lt_or_ge i j with g | g
            · rw [snocG_lt g] at hb; exact HBL.out i g b hb
            · obtain rfl : i = j := by omega
              rw [snocG_at] at hb
              exact Nat.le_trans B2.out.size (HSB.out b hb)
          · rw [map_snocG]
            exact X2.out.next (Cdc.takes_list _) H2.out.dig_ (by have := HMJ.out; have := M0.out; omega) X3.out
        case measure => have := M0.out; simp [intOf]; omega
end Go.Proofs.Ytcnekfpgoceblaa
