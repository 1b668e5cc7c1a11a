/-
  What the document's Made answers: the tables.
-/
import Derived.Test.YtloibmemlkfkfaaGreatDoorRhp
import Derived.Deep.RegionLaw
import Derived.Deep.AppendLies
namespace Go.Proofs.YtloibmemlkfkfaaGreatDoor
open Go.RowKit
set_option linter.unusedVariables false
/-- The roots of the first 64 primes, the third and the second. -/
def RK : List Int := [5411319704, 6194414737, 7344290767, 8215976869, 9551921755, 10098905585, 11043570340, 11460697813, 12214315672, 13195500289, 13492127166, 14311783875, 14809980276, 15046980094, 15499789991, 16133124468, 16720292289, 16907126662, 17444216262, 17784676812, 17950125167, 18429019306, 18734950876, 19175934170, 19734090066, 20001703533, 20132865992, 20390182855, 20516441075, 20764397895, 21588763473, 21813078375, 22141143685, 22248366392, 22769593852, 22871018771, 23170020180, 23461497531, 23651862830, 23931792517, 24205322401, 24295138891, 24734567280, 24820601251, 24990902297, 25075189284, 25569408389, 26045227120, 26200031510, 26276752392, 26428864332, 26653801653, 26727943347, 27092625994, 27306805839, 27517677555, 27725365998, 27793908591, 27997534228, 28131656200, 28198240250, 28526537963, 28973835255, 29099129074]
def RH : List Int := [6074000999, 7439101573, 9603838834, 11363415354, 14244795007, 15485724812, 17708603819, 18721328409]
theorem RK_ok : ∀ i, i < 64 → CbR (dig PL i) (dig RK i) ∧ dig RK i % 4294967296 = dig KT i := by unfold CbR; decide +kernel
theorem RH_ok : ∀ i, i < 8 → SqR (dig PL i) (dig RH i) ∧ dig RH i % 4294967296 = dig H0.l i := by unfold SqR; decide +kernel
theorem PL_bd : ∀ i, i < 64 → 2 ≤ dig PL i ∧ dig PL i ≤ 311 := by decide +kernel
theorem root_k {p r kt : Int} (p0 : 0 ≤ p) (p1 : p < 65536) (h : CbR p r) (hk : r % 4294967296 = kt) (w : World) :
    Calls Tryz.prog 120 #[.int .u64 p, .bool true] w fun e w' => e = .returned (.int .u64 kt) ∧ w = w' := by
  subst hk
  exact root_cb p r p0 p1 h w
theorem root_h {p r kt : Int} (p0 : 0 ≤ p) (p1 : p < 65536) (h : SqR p r) (hk : r % 4294967296 = kt) (w : World) :
    Calls Tryz.prog 120 #[.int .u64 p, .bool false] w fun e w' => e = .returned (.int .u64 kt) ∧ w = w' := by
  subst hk
  exact root_sq p r p0 p1 h w
theorem info_u32 : (Tryz.prog.info? 156).map (fun i => (i.zero, i.size, i.bytes)) = some (some (.int .u32 0), 1, 4) := by kernel_rfl
/-- One word more, as a step of a region that draws. -/
theorem step_u32 {ops : Array Oper} {o : Oper} {a : Act} {w : World} {K : Act → World → Prop} {Q : Exit → Act → World → Prop} {E : Prop} (hgd : o.guard = none) (s x : Operand)
    (ho : o.op = .call { callee := .builtin .append, args := #[s, x], argTypes := #[124, 124] })
    (base : Nat) (v : Value) (n : Nat) (L : List Int) (hs : a.eval s = v) (hown : w.ownsRow base 156 1 v n (L.map (Value.int .u32)))
    (g0 : Nat) (y : Int) (hx : a.eval x = .slice (some ⟨g0, 0, none⟩) 1 1) (hc : w.cell? ⟨g0, 0, none⟩ = some (.int .u32 y)) (hn : n ≤ 1000) (hbase : base ≤ w.heap.size) (H : Nat) (hH : w.heap.size = H)
    (h : ∀ g cap w', w'.ownsRow base 156 1 (.slice (some ⟨g, 0, none⟩) (n + 1) cap) (n + 1) ((L ++ [y]).map (Value.int .u32)) → w.grownBy w' v.ownBlock → (v.ownBlock = some g ∨ g = H) → g < w'.heap.size → K (a.put o.dst (.slice (some ⟨g, 0, none⟩) (n + 1) cap)) w') :
    if Region.wanted o (yielded ops a.tmps) = true then Oper.wp Tryz.prog o a w K Q else E := by
  obtain ⟨i0, h1, h2, h3, h4⟩ := info_parts info_u32
  refine step_append_lies w hgd s x 124 ho base 156 i0 (.int .u32 0) 1 4 Tryz.underlying124 h1 h2 h3 h4 rfl (by decide) v n _ hs hown ⟨g0, 0, none⟩ 1 1 [.int .u32 y] hx rfl ?_ ?_ (by omega) (by unfold maxLen; omega) (by omega) hbase H hH (fun g cap w' a b c d => h g cap w' (by simpa using a) b c d)
  · intro j u hj
    match j, hj with
    | 0, hj => simp at hj; subst hj; simpa [Addr.add] using hc
  · intro u hu; simp at hu; subst hu; rfl
/-- All blocks below B but t are as they were. -/
def Kp (B t : Nat) (w w' : World) : Prop := w.heap.size ≤ w'.heap.size ∧ ∀ b, b < B → b ≠ t → w'.heap[b]? = w.heap[b]?
theorem Kp.rd {k : IntKind} {B t : Nat} {w w' : World} {A : Option Addr} {n : Nat} {xs : List Int} (h : Kp B t w w') (hr : Rd k w A n xs) (hA : ∀ a, A = some a → a.block < B ∧ a.block ≠ t) : Rd k w' A n xs :=
  ⟨hr.len, fun hn => by
    obtain ⟨b, off, e, hb, hc⟩ := hr.cells hn
    obtain ⟨h1, h2⟩ := hA _ e
    exact ⟨b, off, e, Nat.lt_of_lt_of_le hb h.1, fun j x hx => (World.cell?_of_block (h.2 b h1 h2)).trans (hc j x hx)⟩⟩
/-- The struct's two fields, and what they own. -/
structure MdS (w : World) (t base : Nat) (vK vH : Value) (i j : Nat) : Prop where
  cells : w.heap[t]? = some (.cells #[vK, vH] 126 (0, 0))
  ownK : w.ownsRow base 156 1 vK i ((KT.take i).map (Value.int .u32))
  ownH : w.ownsRow base 156 1 vH j ((H0.l.take j).map (Value.int .u32))
  apart : ∀ g, vK.ownBlock = some g → vH.ownBlock ≠ some g
theorem rd_setRow {k : IntKind} {w : World} {A : Option Addr} {n : Nat} {xs : List Int} (h : Rd k w A n xs) {g : Nat} (hne : ∀ a, A = some a → a.block ≠ g) (cs : Array Value) : Rd k (w.setRow g cs) A n xs :=
  ⟨h.len, fun hn => by
    obtain ⟨b, off, e, hb, hc⟩ := h.cells hn
    exact ⟨b, off, e, by rw [setRow_size]; exact hb, fun j x hx => (cell_setRow_other w g cs ⟨b, off + j, none⟩ (hne ⟨b, off, none⟩ e)).trans (hc j x hx)⟩⟩
theorem size28 {a b : Value} : (Tryz.prog.info? 126).map (·.size) = some (#[a, b] : Array Value).size := by kernel_rfl
theorem own_keep {w w' : World} {base : Nat} {e : TypeId} {v : Value} {n : Nat} {xs : List Value} (h : w.ownsRow base e 1 v n xs) (hk : ∀ g, v.ownBlock = some g → w'.heap[g]? = w.heap[g]?) : w'.ownsRow base e 1 v n xs := by
  refine ⟨h.1, ?_⟩
  rcases h.2 with g | ⟨g, cap, cur, rfl, h2, h3, h4⟩
  · exact .inl g
  · exact .inr ⟨g, cap, cur, rfl, h2, (hk g rfl).trans h3, h4⟩
section
variable {wr w2 : World} {t base : Nat} {vK vH : Value} {i j : Nat} {o : Obj}
theorem al_block (w : World) (o : Obj) {b : Nat} (hb : b < w.heap.size) : (w.drew.alloc o).heap[b]? = w.heap[b]? := Below.heap_alloc w.drew o b hb
theorem al_size (w : World) (o : Obj) : (w.drew.alloc o).heap.size = w.heap.size + 1 := by simp
/-- Where only v's own row may have turned, and it isn't block b. -/
theorem gr_block {v : Value} {b : Nat} (hg : (wr.drew.alloc o).grownBy w2 v.ownBlock) (hb : b < wr.heap.size) (hne : v.ownBlock ≠ some b) : w2.heap[b]? = wr.heap[b]? :=
  (hg.block b (by rw [al_size]; omega) (fun e => hne e.symm)).trans (al_block wr o hb)
theorem MdS.t2 (h : MdS wr t base vK vH i j) (ht : t < base) {v : Value} (hv : ∀ g, v.ownBlock = some g → base ≤ g) (hB : base ≤ wr.heap.size) (hg : (wr.drew.alloc o).grownBy w2 v.ownBlock) : w2.heap[t]? = some (.cells #[vK, vH] 126 (0, 0)) :=
  (gr_block hg (by omega) (fun e => by have := hv t e; omega)).trans h.cells
theorem MdS.baseK (h : MdS wr t base vK vH i j) : ∀ g, vK.ownBlock = some g → base ≤ g := fun g e => (h.ownK.lt g e).1
theorem MdS.baseH (h : MdS wr t base vK vH i j) : ∀ g, vH.ownBlock = some g → base ≤ g := fun g e => (h.ownH.lt g e).1
theorem set_block (w : World) {t b : Nat} (k : Nat) (v : Value) (h : b ≠ t) : (w.setCell ⟨t, k, none⟩ v).heap[b]? = w.heap[b]? := Below.heap_setCell w ⟨t, k, none⟩ v b h
theorem MdS.nextK (h : MdS wr t base vK vH i j) (ht : t < base) (hB : base ≤ wr.heap.size) (hi : i < 64) (hg : (wr.drew.alloc o).grownBy w2 vK.ownBlock) {g2 cap2 H : Nat}
    (ho : w2.ownsRow base 156 1 (.slice (some ⟨g2, 0, none⟩) (i + 1) cap2) (i + 1) ((KT.take i ++ [dig KT i]).map (Value.int .u32))) (hat : vK.ownBlock = some g2 ∨ g2 = H) (hH : (wr.drew.alloc o).heap.size = H) :
    MdS (w2.setCell ⟨t, 0, none⟩ (.slice (some ⟨g2, 0, none⟩) (i + 1) cap2)) t base (.slice (some ⟨g2, 0, none⟩) (i + 1) cap2) vH (i + 1) j := by
  have ht2 := h.t2 ht h.baseK hB hg
  rw [al_size] at hH
  have hg2 : base ≤ g2 := (ho.lt g2 rfl).1
  refine ⟨?_, ?_, ?_, ?_⟩
  · rw [setCell_eq_setRow w2 t 0 _ _ _ _ ht2]
    exact setRow_heap w2 t _ _ _ _ ht2
  · have e : KT.take (i + 1) = KT.take i ++ [dig KT i] := by
      rw [List.take_succ_eq_append_getElem (by rw [KT_len]; exact hi)]
      congr 2
      exact (dig_lt (List.getElem?_eq_getElem _)).symm
    rw [e]
    exact own_keep ho fun g e => set_block w2 0 _ (by have e' : g2 = g := Option.some.inj e; omega)
  · refine own_keep h.ownH fun g e => ?_
    have h1 := h.ownH.lt g e
    rw [set_block w2 0 _ (show g ≠ t by omega)]
    exact gr_block hg h1.2 (fun e2 => h.apart g e2 e)
  · intro g e
    obtain rfl : g2 = g := Option.some.inj e
    intro e2
    rcases hat with h1 | h1
    · exact h.apart _ h1 e2
    · have := (h.ownH.lt _ e2).2; omega
theorem MdS.nextH (h : MdS wr t base vK vH i j) (ht : t < base) (hB : base ≤ wr.heap.size) (hj : j < 8) (hg : (wr.drew.alloc o).grownBy w2 vH.ownBlock) {g2 cap2 H : Nat}
    (ho : w2.ownsRow base 156 1 (.slice (some ⟨g2, 0, none⟩) (j + 1) cap2) (j + 1) ((H0.l.take j ++ [dig H0.l j]).map (Value.int .u32))) (hat : vH.ownBlock = some g2 ∨ g2 = H) (hH : (wr.drew.alloc o).heap.size = H) :
    MdS (w2.setCell ⟨t, 1, none⟩ (.slice (some ⟨g2, 0, none⟩) (j + 1) cap2)) t base vK (.slice (some ⟨g2, 0, none⟩) (j + 1) cap2) i (j + 1) := by
  have ht2 := h.t2 ht h.baseH hB hg
  rw [al_size] at hH
  have hg2 : base ≤ g2 := (ho.lt g2 rfl).1
  refine ⟨?_, ?_, ?_, ?_⟩
  · rw [setCell_eq_setRow w2 t 1 _ _ _ _ ht2]
    exact setRow_heap w2 t _ _ _ _ ht2
  · refine own_keep h.ownK fun g e => ?_
    have h1 := h.ownK.lt g e
    rw [set_block w2 1 _ (show g ≠ t by omega)]
    exact gr_block hg h1.2 (fun e2 => h.apart g e e2)
  · have e : H0.l.take (j + 1) = H0.l.take j ++ [dig H0.l j] := by
      rw [List.take_succ_eq_append_getElem (show j < H0.l.length from hj)]
      congr 2
      exact (dig_lt (List.getElem?_eq_getElem _)).symm
    rw [e]
    exact own_keep ho fun g e => set_block w2 1 _ (by have e' : g2 = g := Option.some.inj e; omega)
  · intro g e e2
    obtain rfl : g2 = g := Option.some.inj e2
    rcases hat with h1 | h1
    · exact h.apart _ e h1
    · have := (h.ownK.lt _ e).2; omega
theorem Kp.next {B : Nat} {w : World} (h : Kp B t w wr) (hB : B ≤ wr.heap.size) {v : Value} (hv : ∀ g, v.ownBlock = some g → B ≤ g) (hg : (wr.drew.alloc o).grownBy w2 v.ownBlock) (k : Nat) (u : Value) : Kp B t w (w2.setCell ⟨t, k, none⟩ u) := by
  have hs := hg.size
  rw [al_size] at hs
  refine ⟨by have h1 := h.1; simp only [World.setCell, Array.size_modify]; omega, fun b hb hne => ?_⟩
  rw [set_block w2 k u hne, gr_block hg (by omega) (fun e => by have := hv b e; omega)]
  exact h.2 b hb hne
theorem below_next {B : Nat} {w : World} (h : Below B w wr) (hB : B ≤ wr.heap.size) {v : Value} (hv : ∀ g, v.ownBlock = some g → B ≤ g) (hg : (wr.drew.alloc o).grownBy w2 v.ownBlock) (ht : B ≤ t) (k : Nat) (u : Value) : Below B w (w2.setCell ⟨t, k, none⟩ u) :=
  ((h.drew.alloc (by exact hB) o).grown hg (by rw [al_size]; omega) (fun g e => hv g e)).setCell ht _
end
def MdR (w w1 : World) (t : Nat) (i : Value) (wr : World) : Prop :=
  ∃ (k : Nat) (vK vH : Value), k ≤ 64 ∧ i = .int .i64 k ∧ MdS wr t w1.heap.size vK vH k (min k 8) ∧ Kp w1.heap.size t w1 wr ∧ Below w.heap.size w wr
set_option maxHeartbeats 8000000 in
set_option maxRecDepth 100000 in
theorem made_new (w : World) :
    Calls Tryz.prog 82 #[] w fun e w' => ∃ AK cK AH cH, e = .returned (.agg #[.slice AK 64 cK, .slice AH 8 cH]) ∧ Rd .u32 w' AK 64 KT ∧ Rd .u32 w' AH 8 H0.l ∧ Below w.heap.size w w' ∧ (∀ a, AK = some a → w.heap.size ≤ a.block) ∧ (∀ a, AH = some a → w.heap.size ≤ a.block) := by
  go_enter Tryz.func82, Tryz.ntmps82
  go_wp2_with fail
  refine (primes_any _).mono ?_
  rintro e w1 ⟨vl, rfl, hol, hb1⟩
  obtain ⟨Al, cl, rfl, hrl, hcl, hAl⟩ := own_rd hol
  have hsz : ((w.alloc (.cells #[.slice none 0 0, .slice none 0 0] 126)).alloc (.cells #[.slice none 0 0, .slice none 0 0] 126)).heap.size = w.heap.size + 2 := by simp
  rw [hsz] at hAl
  have hb1' := hb1
  rw [hsz] at hb1'
  have hs1 : w.heap.size + 2 ≤ w1.heap.size := by have := hb1.size; rw [hsz] at this; exact this
  have h0 : w1.heap[w.heap.size]? = some (.cells #[.slice none 0 0, .slice none 0 0] 126 (0, 0)) :=
    (hb1.block w.heap.size (by rw [hsz]; omega)).trans ((Below.heap_alloc _ _ w.heap.size (by simp)).trans (heap_alloc_new w _))
  have ht : w1.heap[w.heap.size + 1]? = some (.cells #[.slice none 0 0, .slice none 0 0] 126 (0, 0)) := by
    have h := heap_alloc_new (w.alloc (.cells #[.slice none 0 0, .slice none 0 0] 126)) (.cells #[.slice none 0 0, .slice none 0 0] 126)
    rw [show (w.alloc (.cells #[.slice none 0 0, .slice none 0 0] 126)).heap.size = w.heap.size + 1 by simp] at h
    exact (hb1.block (w.heap.size + 1) (by rw [hsz]; omega)).trans h
  have b01 : Below w.heap.size w w1 := (((Below.refl _ _).alloc (Nat.le_refl _) _).alloc (by simp) _).trans (hb1'.mono (by omega))
  have hlb : ∀ a, Al = some a → a.block < w1.heap.size ∧ a.block ≠ w.heap.size + 1 := fun a ha => by
    obtain ⟨b, off, e, hb, -⟩ := hrl.cells (by decide)
    have := hAl a ha
    rw [ha] at e; injection e with e; subst e
    have e2 : (⟨b, off, none⟩ : Addr).block = b := rfl
    omega
  have HRL := Lib.hid hrl
  have HLB := Lib.hid hlb
  have H0' := Lib.hid h0
  have HT := Lib.hid ht
  have HB01 := Lib.hid b01
  clear hb1 hb1' hsz hol hrl hcl hAl hlb h0 ht b01
  obtain ⟨n, hn⟩ : ∃ n, PL.length = n := ⟨_, rfl⟩
  have HN := Lib.hid (show n = 64 by rw [← hn]; rfl)
  rw [hn] at HRL ⊢
  clear hn
  go_wp2_with fail
  go_loopw [3] (fun i wr => MdR w w1 (w.heap.size + 1) i wr) (fun i _ => 64 - (intOf i).toNat)
  case atStart => exact ⟨0, _, _, by omega, rfl, ⟨HT.out, ⟨rfl, .inl ⟨rfl, rfl⟩⟩, ⟨rfl, .inl ⟨rfl, rfl⟩⟩, fun g h => by cases h⟩, ⟨Nat.le_refl _, fun _ _ _ => rfl⟩, HB01.out⟩
  case round =>
    obtain ⟨k, vK, vH, hk, rfl, hS, hKp, hb⟩ := hrel
    rcases Nat.lt_or_ge k 64 with hlt | hge
    · obtain ⟨b, off, p, rfl, hbl, hp, hcp⟩ := (hKp.rd HRL.out HLB.out).at_ (j := k) (by rw [HN.out]; exact hlt)
      have hpd := dig_lt hp
      have hpb := PL_bd k hlt
      obtain ⟨hcb, hkt⟩ := RK_ok k hlt
      rw [hpd] at hcb hpb
      have hwd := dig_wd KT_wds k
      obtain ⟨kt, hkt'⟩ : ∃ kt, dig KT k = kt := ⟨_, rfl⟩
      rw [hkt'] at hkt hwd
      obtain ⟨rk, hrk⟩ : ∃ rk, dig RK k = rk := ⟨_, rfl⟩
      rw [hrk] at hkt hcb
      have HKT := Lib.hid hkt
      have HCB := Lib.hid hcb
      have HKT' := Lib.hid hkt'
      have p2 := hpb.1
      have p3 := hpb.2
      have k0 := hwd.1
      have k1 := hwd.2
      have cK := cell_of_row wr (w.heap.size + 1) 0 _ _ _ hS.cells
      have cH := cell_of_row wr (w.heap.size + 1) 1 _ _ _ hS.cells
      have cK' : wr.cell? ⟨w.heap.size + 1, 0, none⟩ = some vK := cK
      have cH' : wr.cell? ⟨w.heap.size + 1, 1, none⟩ = some vH := cH
      have cKa : (wr.alloc (.cells #[.int .u32 kt] 156)).cell? ⟨w.heap.size + 1, 0, none⟩ = some vK := (World.cell?_alloc_lt wr _ ⟨w.heap.size + 1, 0, none⟩ (by show w.heap.size + 1 < wr.heap.size; have := hKp.1; omega)).trans cK'
      have HOK := Lib.hid hS.ownK
      have HSS := Lib.hid hS
      have hkn : (k : Int) < (n : Int) := by rw [HN.out]; omega
      have hk64 : (k : Int) < 64 := by omega
      have sB := hKp.1
      have HTB : w.heap.size + 1 < w1.heap.size := by omega
      have HKP := Lib.hid hKp
      have HB := Lib.hid hb
      clear hpd hpb hcb hkt hkt' hwd cK cH hS hp hKp hb hrk
      go_wp2_with fail
      have g1 : p < 65536 := by omega
      have g0 : 0 ≤ p := by omega
      have hk1000 : k ≤ 1000 := by omega
      have hwp : IntKind.u64.wrap p = p := by rw [IntKind.wrap_u64]; omega
      have hwk : IntKind.u32.wrap kt = kt := by rw [IntKind.wrap_u32]; omega
      go_region_law (first
        | (go_simp; go_at_call 120; (with_reducible refine (root_k g0 g1 HCB.out HKT.out _).mono ?_); rintro e w' ⟨rfl, rfl⟩)
        | (refine step_u32 rfl (.tmp 10) (.tmp 18) rfl w1.heap.size vK k (KT.take k) rfl (own_alloc1 HOK.out.drew _) wr.heap.size kt rfl (by simp) hk1000 (Nat.le_trans sB (by simp)) _ rfl ?_; intro g2 cap2 w2 ho2 hg2 hat2 hlt2; have ht2 := HSS.out.t2 HTB HSS.out.baseK sB hg2; have c2 : w2.cell? ⟨w.heap.size + 1, 0, none⟩ = some vK := cell_of_row w2 _ 0 _ _ _ ht2; have f2 := frozen_of_row w2 _ 0 _ _ ht2; have HO2 := Lib.hid ho2; have HG2 := Lib.hid hg2; have HAT2 := Lib.hid hat2; clear ho2 hg2 hat2 ht2))
      all_goals
        clear hwp hwk c2 f2
        have ho2 := HO2.out
        rw [← HKT'.out] at ho2
        have hS3 := HSS.out.nextK HTB sB hlt HG2.out ho2 HAT2.out rfl
        have hK3 := HKP.out.next sB HSS.out.baseK HG2.out 0 (.slice (some ⟨g2, 0, none⟩) (k + 1) cap2)
        have hB3 := below_next HB.out (by have := HB01.out.size; omega) (fun g e => Nat.le_trans HB01.out.size (HSS.out.baseK g e)) HG2.out (show w.heap.size ≤ w.heap.size + 1 by omega) 0 (.slice (some ⟨g2, 0, none⟩) (k + 1) cap2)
        clear ho2
        generalize w2.setCell ⟨w.heap.size + 1, 0, none⟩ (.slice (some ⟨g2, 0, none⟩) (k + 1) cap2) = w3 at hS3 hK3 hB3 ⊢
        have hrl3 := hK3.rd HRL.out HLB.out
        obtain ⟨b3, off3, p3', e3, hbl3, hp3, hcp3⟩ := hrl3.at_ (j := k) (by rw [HN.out]; exact hlt)
        injection e3 with e3; injection e3 with e3 e3'
        subst e3 e3'
        have sB3 := hK3.1
        have HS3 := Lib.hid hS3
        have HK3 := Lib.hid hK3
        have HB3 := Lib.hid hB3
        have HP3 := Lib.hid hp3
        clear hS3 hK3 hB3 hrl3 cK' cH' cKa hp3
        rcases Nat.lt_or_ge k 8 with h8 | h8
        · have hpd := dig_lt HP3.out
          have hpb := PL_bd k hlt
          obtain ⟨hsq, hht⟩ := RH_ok k h8
          rw [hpd] at hsq hpb
          have hwd := dig_wd (St.wds H0_ok) k
          obtain ⟨hh, hhh⟩ : ∃ hh, dig H0.l k = hh := ⟨_, rfl⟩
          rw [hhh] at hht hwd
          obtain ⟨rh, hrh⟩ : ∃ rh, dig RH k = rh := ⟨_, rfl⟩
          rw [hrh] at hht hsq
          have HHT := Lib.hid hht
          have HSQ := Lib.hid hsq
          have HHH := Lib.hid hhh
          have hk8 : (k : Int) < 8 := by omega
          have e8 : min k 8 = k := by omega
          have hs3' : MdS w3 (w.heap.size + 1) w1.heap.size (.slice (some ⟨g2, 0, none⟩) (k + 1) cap2) vH (k + 1) k := by have h := HS3.out; rw [e8] at h; exact h
          have HS4 := Lib.hid hs3'
          have HOH := Lib.hid hs3'.ownH
          have dK : w3.cell? ⟨w.heap.size + 1, 1, none⟩ = some vH := cell_of_row w3 _ 1 _ _ _ hs3'.cells
          have dKa : (w3.alloc (.cells #[.int .u32 hh] 156)).cell? ⟨w.heap.size + 1, 1, none⟩ = some vH := (World.cell?_alloc_lt w3 _ ⟨w.heap.size + 1, 1, none⟩ (by show w.heap.size + 1 < w3.heap.size; omega)).trans dK
          have q0 := hpb.1
          have q1 := hpb.2
          have k0' := hwd.1
          have k1' := hwd.2
          have g1' : p3' < 65536 := by omega
          have g0' : 0 ≤ p3' := by omega
          clear hpd hpb hsq hht hwd hhh hrh hs3' e8
          have hwp : IntKind.u64.wrap p3' = p3' := by rw [IntKind.wrap_u64]; omega
          have hwk : IntKind.u32.wrap hh = hh := by rw [IntKind.wrap_u32]; omega
          go_wp2_with fail
          go_region_law (first
            | (go_simp; go_at_call 120; (with_reducible refine (root_h g0' g1' HSQ.out HHT.out _).mono ?_); rintro e w' ⟨rfl, rfl⟩)
            | (refine step_u32 rfl (.tmp 24) (.tmp 32) rfl w1.heap.size vH k (H0.l.take k) rfl (own_alloc1 HOH.out.drew _) w3.heap.size hh rfl (by simp) hk1000 (Nat.le_trans sB3 (by simp)) _ rfl ?_; intro g4 cap4 w4 ho4 hg4 hat4 hlt4; have ht4 := HS4.out.t2 HTB HS4.out.baseH sB3 hg4; have c4 : w4.cell? ⟨w.heap.size + 1, 1, none⟩ = some vH := cell_of_row w4 _ 1 _ _ _ ht4; have f4 := frozen_of_row w4 _ 1 _ _ ht4; have HO4 := Lib.hid ho4; have HG4 := Lib.hid hg4; have HAT4 := Lib.hid hat4; clear ho4 hg4 hat4 ht4))
          all_goals
            clear hwp hwk c4 f4
            have ho4 := HO4.out
            rw [← HHH.out] at ho4
            have hS5 := HS4.out.nextH HTB sB3 h8 HG4.out ho4 HAT4.out rfl
            have hK5 := HK3.out.next sB3 HS4.out.baseH HG4.out 1 (.slice (some ⟨g4, 0, none⟩) (k + 1) cap4)
            have hB5 := below_next HB3.out (by have := HB01.out.size; omega) (fun g e => Nat.le_trans HB01.out.size (HS4.out.baseH g e)) HG4.out (show w.heap.size ≤ w.heap.size + 1 by omega) 1 (.slice (some ⟨g4, 0, none⟩) (k + 1) cap4)
            clear ho4
            go_wp2_with fail
            go_roundw
            case rel => exact ⟨k + 1, _, _, by omega, by go_num, by rw [show min (k + 1) 8 = k + 1 by omega]; exact hS5, hK5, hB5⟩
            case measure => simp [intOf]; omega
        · have t8 : decide ((k : Int) < 8) = false := by simp; omega
          go_wp2_with fail
          go_roundw
          case rel => exact ⟨k + 1, _, _, by omega, by go_num, by rw [show min (k + 1) 8 = min k 8 by omega]; exact HS3.out, HK3.out, HB3.out⟩
          case measure => simp [intOf]; omega
    · obtain rfl : k = 64 := by omega
      rw [show min 64 8 = 8 from rfl] at hS
      obtain ⟨AK, cK, rfl, hrK, hcK, hbK⟩ := own_rd hS.ownK
      obtain ⟨AH, cH, rfl, hrH, hcH, hbH⟩ := own_rd hS.ownH
      rw [show KT.take 64 = KT from rfl] at hrK
      rw [show H0.l.take 8 = H0.l from rfl] at hrH
      have hc := hS.cells
      have h0 := (hKp.2 w.heap.size (by omega) (by omega)).trans H0'.out
      have hone : (#[.slice AK 64 cK, .slice AH 8 cH] : Array Value).all (·.oneCell') = true := by simp [Value.oneCell']
      have HC := Lib.hid hc
      have HC0 := Lib.hid h0
      have HRK := Lib.hid hrK
      have HRH := Lib.hid hrH
      clear hc h0 hrK hrH hS
      go_wp2_with (first | (refine wpList_load_row rfl 126 (.tmp 1) rfl (w.heap.size + 1) rfl _ _ _ _ HC.out Tryz.underlying126 rfl size28 ?_) | (refine wpList_store_row rfl 126 (.tmp 0) (.tmp 35) rfl w.heap.size #[.slice AK 64 cK, .slice AH 8 cH] rfl rfl _ _ HC0.out size28 rfl hone ?_))
      refine bodyPost_ret (v := .agg #[.slice AK 64 cK, .slice AH 8 cH]) (results_cell_row Tryz.results82 _ _ w.heap.size _ _ _ _ rfl (setRow_heap wr _ _ _ _ _ HC0.out) Tryz.underlying126 rfl size28) rfl ?_
      exact ⟨AK, cK, AH, cH, rfl, rd_setRow HRK.out (fun a ha => by have := hbK a ha; omega) _, rd_setRow HRH.out (fun a ha => by have := hbH a ha; omega) _, below_setRow hb (Nat.le_refl _) _, fun a ha => by have := hbK a ha; omega, fun a ha => by have := hbH a ha; omega⟩
/-- The tables. -/
theorem made_walk (w : World) :
    Calls Tryz.prog 82 #[] w fun e w' => ∃ AK cK AH cH, e = .returned (.agg #[.slice AK 64 cK, .slice AH 8 cH]) ∧ Rd .u32 w' AK 64 KT ∧ Rd .u32 w' AH 8 H0.l ∧ Below w.heap.size w w' :=
  (made_new w).mono fun e w' ⟨AK, cK, AH, cH, h1, h2, h3, h4, _⟩ => ⟨AK, cK, AH, cH, h1, h2, h3, h4⟩
end Go.Proofs.YtloibmemlkfkfaaGreatDoor
