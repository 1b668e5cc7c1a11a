/-
  A message whose parts are what they may be has its bytes; what two messages that tell the same have in common.
-/
import Derived.Test.YtcnekfpgoceblaaPcm
namespace Go.Proofs.Ytcnekfpgoceblaa
open Go.RowKit
set_option linter.unusedVariables false
def B0 (s : OuS) : Prop := s.bad = 0
theorem B0.num {s : OuS} (h : B0 s) {N : Int} (k : numC.ok (dg W N)) : B0 (s.num N) := by
  have e : s.num N = s.put (OuS.numE N) := if_neg (by have := (numC_ok.1 k).2.1; show ¬ 64 < (dg W N).length; omega)
  rw [e]; exact h
theorem B0.cnt {s : OuS} (h : B0 s) {n : Int} (hn : Cnt n) : B0 (s.cnt n) := by
  rw [show s.cnt n = s.put (cntE n.toNat) from if_neg (by have := hn.1; have := hn.2; omega)]
  exact h
theorem B0.let_ {s : OuS} {S : Nat → Stp} {n : Nat} (h : B0 s) (hn : n ≤ 4611686018427387904) (k : ∀ i, i < n → prC.ok (dvP (S i))) : B0 (letO (s.cnt (n : Int)) S n) :=
  fold_keeps n _ (h.cnt (len_cnt hn)) fun s i hi q => ((q.num (k i hi).1).num (k i hi).2.1).num (k i hi).2.2
theorem B0.pfl {s : OuS} {S : Nat → Pf2} {n : Nat} (h : B0 s) (hn : n ≤ 4611686018427387904) (k : ∀ i, i < n → pfC.ok (dvF (S i))) : B0 (pflO (s.cnt (n : Int)) S n) :=
  fold_keeps n _ (h.cnt (len_cnt hn)) fun s i hi q => (q.num (k i hi).1).num (k i hi).2
theorem at_map {α : Type} {n i : Nat} {f : Nat → α} (hi : i < n) : f i ∈ (List.range n).map f := List.mem_map.2 ⟨i, List.mem_range.2 hi, rfl⟩
theorem B0.bat {w : World} {A : Option Addr} {n c : Nat} {B : Nat → Lsl} {s : OuS} (h : B0 s) (hm : Bat w A n c B) (k : (listC (listC prC)).ok ((List.range n).map fun i => dvL (B i))) : B0 (batO (s.cnt (n : Int)) B n) :=
  fold_keeps n _ (h.cnt (len_cnt (by have := hm.c60; omega))) fun s i hi q => q.let_ (by have := (hm.at_ i hi).c60; omega) fun j hj => (k.2 _ (at_map (f := fun i => dvL (B i)) hi)).2 _ (at_map (f := fun j => dvP ((B i).S j)) hj)
theorem B0.pba {w : World} {A : Option Addr} {n c : Nat} {B : Nat → Psl} {s : OuS} (h : B0 s) (hm : Pba w A n c B) (k : (listC (listC pfC)).ok ((List.range n).map fun i => dvQ (B i))) : B0 (pbaO (s.cnt (n : Int)) B n) :=
  fold_keeps n _ (h.cnt (len_cnt (by have := hm.c60; omega))) fun s i hi q => q.pfl (by have := (hm.at_ i hi).c60; omega) fun j hj => (k.2 _ (at_map (f := fun i => dvQ (B i)) hi)).2 _ (at_map (f := fun j => dvF ((B i).S j)) hj)
theorem B0.txt {w : World} {A : Option Addr} {n c : Nat} {T : Nat → Txt} {s : OuS} (h : B0 s) (hm : Txs w A n c T) (hT : ∀ i, i < n → (T i).xs.length ≤ 4611686018427387904) : B0 (txtO (s.cnt (n : Int)) T n) :=
  fold_keeps n _ (h.cnt (len_cnt (by have := hm.c60; omega))) fun s i hi q => show B0 ((s.cnt ((T i).xs.length : Int)).put (T i).xs) from q.cnt (len_cnt (hT i hi))
theorem msg_0 {w : World} {m : Mgd} (hm : Mg w m) (hc : m.Cn) (hT : ∀ i, i < m.nt → (m.T i).xs.length ≤ 4611686018427387904) (ok : msgC.ok (mv m)) : (msgO m).bad = 0 := by
  obtain ⟨-, -, -, -, -, -, -, k8, k9, -, -, k12⟩ := ok
  have hz : B0 (⟨[], 0⟩ : OuS) := rfl
  have h0 : B0 (sHead m) := show B0 ((((((⟨[], 0⟩ : OuS).cnt m.k).cnt m.g).cnt m.l).cnt m.p).cnt m.s |>.cnt m.u) from B0.cnt (B0.cnt (B0.cnt (B0.cnt (B0.cnt (B0.cnt hz hc.k) hc.g) hc.l) hc.p) hc.s) hc.u
  exact B0.num (B0.cnt (B0.txt (B0.pba (B0.bat h0 hm.b k8) hm.p k9) hm.t hT) hc.i) k12
theorem cnt_i64 {x : Int} (h : Cnt x) : I64 x := ⟨by have := h.1; omega, by have := h.2; omega⟩
theorem cn_int {m : Mgd} (h : m.Cn) : m.Int := ⟨cnt_i64 h.k, cnt_i64 h.g, cnt_i64 h.l, cnt_i64 h.p, cnt_i64 h.s, cnt_i64 h.u, cnt_i64 h.i⟩
/-- Message, of a message that has bytes. -/
theorem msg_two0 {w0 : World} {m : Mgd} (hm0 : Mg w0 m) (hT : ∀ i, i < m.nt → (m.T i).xs.length ≤ 1048576) (hc : m.Cn) (ok : msgC.ok (mv m)) (hl : (msgC.enc (mv m)).length ≤ 1048576) :
    (∀ w, Mg w m → Calls Try.prog 11 #[m.v] w (WcP 0 (msgC.enc (mv m)) w)) ∧
      (m.Sml → ∀ w, Mg w m → Calls Try.prog 12 #[m.v] w (WdP 0 (msgC.enc (mv m)) w)) := by
  have hT2 : ∀ i, i < m.nt → (m.T i).xs.length ≤ 4611686018427387904 := fun i hi => Nat.le_trans (hT i hi) (by decide)
  have h0 := msg_0 hm0 hc hT2 ok
  obtain ⟨-, he⟩ := msg_good hm0 hc hT2 h0
  have hb0 : (msgO m).b = msgC.enc (mv m) := by rw [he]
  have hov : ¬ (msgO m).over 1048576 := by
    rintro (h | h)
    · exact h h0
    · rw [hb0] at h; omega
  have hb : (msgO m).done 1048576 = msgO m := by
    unfold OuS.done
    rw [if_neg fun h => hov (.inr h)]
  refine ⟨fun w hm => (pMessage_any hm (cn_int hc) hT2).mono fun e w' h => wo_wc h (fun g => absurd hc g) (fun _ g => absurd g hov) (fun _ _ => ⟨rfl, hb0.symm⟩), fun hs w hm => (romsg_any hm hs.b hs.B hs.p hs.P hs.t fun i hi => Nat.le_trans (hT i hi) (by decide)).mono fun e w' h => ?_⟩
  rw [hb] at h
  rcases h with ⟨a, v, rfl, ho, b⟩ | ⟨a, -⟩
  · obtain ⟨A, c, rfl, rd, -⟩ := own_rd ho
    rw [hb0] at rd
    exact ⟨A, c, by rw [hb0], by simpa [hb0] using rd, b⟩
  · exact absurd h0 a
theorem len_list {α : Type} {cd : Cdc α} {v : α} {vs : List α} (h : v ∈ vs) : (cd.enc v).length ≤ ((listC cd).enc vs).length := by
  show _ ≤ (cntE vs.length ++ vs.flatMap cd.enc).length
  rw [List.length_append]
  have := len_flat (f := cd.enc) h
  omega
/-- No text is longer than all the bytes. -/
theorem txt_len {m : Mgd} {i : Nat} (hi : i < m.nt) : (m.T i).xs.length ≤ (msgC.enc (mv m)).length := by
  have h1 := len_list (cd := bytesC) (at_map (f := fun i => (m.T i).xs) hi)
  rw [bytesC_enc, List.length_append] at h1
  have h2 : ((listC bytesC).enc ((List.range m.nt).map fun i => (m.T i).xs)).length ≤ (msgC.enc (mv m)).length := by
    show _ ≤ (cntE _ ++ (cntE _ ++ (cntE _ ++ (cntE _ ++ (cntE _ ++ (cntE _ ++ (truC.enc _ ++ ((listC (listC prC)).enc _ ++ ((listC (listC pfC)).enc _ ++ ((listC bytesC).enc ((List.range m.nt).map fun i => (m.T i).xs) ++ (cntE _ ++ numC.enc _))))))))))).length
    simp only [List.length_append]
    omega
  omega
theorem map_at {α : Type} {n n' : Nat} {f g : Nat → α} (h : (List.range n).map f = (List.range n').map g) : n = n' ∧ ∀ i, i < n → f i = g i := by
  have hl : n = n' := by simpa using congrArg List.length h
  subst hl
  refine ⟨rfl, fun i hi => ?_⟩
  have h2 := congrArg (fun l => l[i]?) h
  simpa [hi] using h2
theorem sml_same {a b : Mgd} (h : mv a = mv b) (hs : b.Sml) : a.Sml := by
  unfold mv at h
  simp only [Prod.mk.injEq] at h
  obtain ⟨-, -, -, -, -, -, -, h8, h9, h10, -, -⟩ := h
  obtain ⟨n8, e8⟩ := map_at h8
  obtain ⟨n9, e9⟩ := map_at h9
  obtain ⟨n10, -⟩ := map_at h10
  refine ⟨by rw [n8]; exact hs.b, by rw [n9]; exact hs.p, by rw [n10]; exact hs.t, fun i hi => ?_, fun i hi => ?_⟩
  · have h1 : dvL (a.B i) = dvL (b.B i) := e8 i hi
    have h2 : (a.B i).n = (b.B i).n := by simpa [dvL] using congrArg List.length h1
    rw [h2]; exact hs.B i (by omega)
  · have h1 : dvQ (a.P i) = dvQ (b.P i) := e9 i hi
    have h2 : (a.P i).n = (b.P i).n := by simpa [dvQ] using congrArg List.length h1
    rw [h2]; exact hs.P i (by omega)
end Go.Proofs.Ytcnekfpgoceblaa
