/-
  What euclid and Inverse answer.
-/
import Derived.Test.YtloajnaphenbjaaGreatDoorRed0
namespace Go.Proofs.YtloajnaphenbjaaGreatDoor
open Go.RowKit
set_option linter.unusedVariables false
/-- The number that a slice reads as, to base b. -/
def readN (b : Int) (w : World) : Value → Int
  | .slice (some a) n _ => val b ((List.range n).map fun j => match w.cell? ⟨a.block, a.off + j, none⟩ with | some (.int _ x) => x | _ => 0)
  | _ => 0
theorem readN_rd {k : IntKind} {b : Int} {w : World} {A : Option Addr} {n c : Nat} {xs : List Int} (h : Rd k w A n xs) : readN b w (.slice A n c) = val b xs := by
  rcases Nat.eq_zero_or_pos n with g | g
  · subst g
    obtain rfl : xs = [] := List.eq_nil_of_length_eq_zero h.len
    cases A <;> simp [readN, val]
  · obtain ⟨bl, off, rfl, hb, hc⟩ := h.cells g
    have hl := h.len
    simp only [readN]
    congr 1
    apply List.ext_getElem?
    intro j
    rcases Nat.lt_or_ge j n with hj | hj
    · rw [List.getElem?_map, List.getElem?_range hj, Option.map_some, hc j _ (getElem?_dig (by omega)), getElem?_dig (by omega)]
    · rw [List.getElem?_eq_none (by simp; omega), List.getElem?_eq_none (by omega)]
theorem readN_nm {w : World} {A : Option Addr} {n c : Nat} {N : Int} (h : Nm w A n c N) : readN W w (.slice A n c) = N := by
  obtain ⟨⟨xs, h1, h2, h3⟩, -⟩ := h
  rw [readN_rd h1, h3]
theorem Cn.empty {w : World} {g c : Nat} : Cn w (some ⟨g, 0, none⟩) 0 c 0 := ⟨by rw [dg_zero]; exact Rd.nil _ _ _, Nat.zero_le _, by omega, Int.le_refl _⟩
theorem lit_cn (w : World) (x : Int) (h0 : 1 ≤ x) (h1 : x < W) : Cn (w.alloc (.cells #[.int .u64 x] 38)) (some ⟨w.heap.size, 0, none⟩) 1 1 x :=
  ⟨by rw [dg_one h0 h1]; exact (show Row _ _ _ _ [x] from Row.new w 38 .u64 [x]).rd rfl (fun j y hy => by simpa using hy), Nat.le_refl _, by omega, by omega⟩
def EuR (m x : Int) (w : World) (h l f g t : Value) (wr : World) : Prop :=
  ∃ H L F G neg A1 n1 c1 A2 n2 c2 A3 n3 c3 A4 n4 c4, h = .slice A1 n1 c1 ∧ l = .slice A2 n2 c2 ∧ f = .slice A3 n3 c3 ∧ g = .slice A4 n4 c4 ∧ t = .bool neg ∧ Cn wr A1 n1 c1 H ∧ Cn wr A2 n2 c2 L ∧ Cn wr A3 n3 c3 F ∧ Cn wr A4 n4 c4 G ∧
    (∀ a, A3 = some a → w.heap.size ≤ a.block) ∧ (∀ a, A4 = some a → w.heap.size ≤ a.block) ∧ Eu m x H L F G neg ∧ Below w.heap.size w wr
def EuP (m x : Int) (w : World) (e : Ending) (w' : World) : Prop :=
  ∃ H F G neg A1 n1 c1 A3 n3 c3, e = .returned (.tuple #[.slice A1 n1 c1, .slice A3 n3 c3, .bool neg]) ∧ Cn w' A1 n1 c1 H ∧ Cn w' A3 n3 c3 F ∧ (∀ a, A3 = some a → w.heap.size ≤ a.block) ∧ Eu m x H 0 F G neg ∧ Below w.heap.size w w'
theorem nb_pos {L : Int} (h : 0 ≤ L) : 0 < nb L ↔ 0 < L := by
  have := nb_iff h 0
  simp at this
  omega
set_option maxHeartbeats 4000000 in
set_option maxRecDepth 100000 in
theorem euclid_any {w : World} {m x : Int} {A1 A2 : Option Addr} {n1 c1 n2 c2 : Nat} (hm : Cn w A1 n1 c1 m) (hx : Cn w A2 n2 c2 x) (hxm : x < m) (l32 : dl m ≤ 32) :
    Calls Tryz.prog 86 #[.slice A1 n1 c1, .slice A2 n2 c2] w (EuP m x w) := by
  have x0 := hx.pos
  have hb0 : Below w.heap.size w ((w.alloc (.cells #[] 38)).alloc (.cells #[.int .u64 1] 38)) := ((Below.refl _ _).alloc (Nat.le_refl _) _).alloc (by simp) _
  have h1 := lit_cn (w.alloc (.cells #[] 38)) 1 (by decide) (by decide)
  have sz : (w.alloc (.cells #[] 38)).heap.size = w.heap.size + 1 := by simp
  rw [sz] at h1
  have HB := Lib.hid hb0
  have H1 := Lib.hid h1
  clear hb0 h1 sz
  go_enter Tryz.func86, Tryz.ntmps86
  go_wp2_with fail
  go_loopw [7, 8, 9, 10, 11] (fun h l f g t wr => EuR m x w h l f g t wr) (fun _ l _ _ _ wr => (readN W wr l).toNat)
  case atStart =>
    exact ⟨m, x, 0, 1, true, _, _, _, _, _, _, _, _, _, _, _, _, rfl, rfl, rfl, rfl, rfl, hm.below HB.out, hx.below HB.out, Cn.empty, H1.out, fun a ha => by injection ha with ha; subst ha; exact Nat.le_refl _, fun a ha => by injection ha with ha; subst ha; exact Nat.le_succ _, Eu.start x0 hxm, HB.out⟩
  case round =>
    obtain ⟨H, L, F, G, neg, A1, n1, c1, A2, n2, c2, A3, n3, c3, A4, n4, c4, rfl, rfl, rfl, rfl, rfl, kH, kL, kF, kG, nF, nG, eu, hb⟩ := hrel
    have HNF := Lib.hid nF
    have HNG := Lib.hid nG
    have HEU := Lib.hid eu
    clear nF nG
    rcases Int.lt_or_le 0 L with hL | hL
    · have g : decide (0 < (nb L : Int)) = true := by have := (nb_pos kL.pos).2 hL; simp; omega
      have g' : 0 < nb L := (nb_pos kL.pos).2 hL
      have hle := eu.g_le
      have hnx := eu.next_le hL
      have hst := eu.step hL
      have hfg := hst.g_le
      have HST := Lib.hid hst
      have hq : 0 ≤ H / L ∧ H / L ≤ m := by
        have h1 := Int.ediv_nonneg kH.pos (Int.le_of_lt hL)
        have h2 := Int.ediv_le_self L kH.pos
        omega
      have dH : dl H ≤ 64 := by have := dl_mono kH.pos hle.2.2; omega
      have dL : dl L ≤ 64 := by have := dl_mono kL.pos (show L ≤ m by have := eu.lh; omega); omega
      have dQ : dl (H / L) ≤ 64 := by have := dl_mono hq.1 hq.2; omega
      have dG : dl G ≤ 64 := by have := dl_mono kG.pos hle.1; omega
      have dQG : dl (H / L * G) ≤ 64 := by have := dl_mono hnx.2 hnx.1; omega
      have dF : dl F ≤ 64 := by have := dl_mono kF.pos hle.2.1; omega
      clear hst eu hle hnx hfg hq
      have hs := hb.size
      go_wp2_with fail
      refine (bits_any kL.nm).mono ?_
      rintro e w1 ⟨rfl, rfl⟩
      go_wp2_with fail
      refine (div_any kH.nm kL.nm dH dL hL).mono ?_
      rintro e w1 ⟨B1, m1, p1, B2, m2, p2, rfl, q1, q2, b1, -, -⟩
      have b1' := hb.trans (b1.mono hb.size)
      have kL1 := kL.below b1
      have kF1 := kF.below b1
      have kG1 := kG.below b1
      have HL0 := Lib.hid (readN_nm kL.nm)
      clear b1 kH kL kF kG
      go_wp2_with fail
      refine (mul_any q1.nm kG1.nm dQ dG).mono ?_
      rintro e w2 ⟨B3, m3, p3, rfl, q3, b2, -⟩
      have b2' := b1'.trans (b2.mono b1'.size)
      have kL2 := kL1.below b2
      have kF2 := kF1.below b2
      have kG2 := kG1.below b2
      have q22 := q2.below b2
      clear b2 b1' kL1 kF1 kG1 q1 q2
      go_wp2_with fail
      refine (add_any kF2.nm q3.nm dF dQG).mono ?_
      rintro e w3 ⟨B4, m4, p4, rfl, q4, b3, hn4⟩
      have HN4 : ∀ a, B4 = some a → w.heap.size ≤ a.block := fun a ha => Nat.le_trans b2'.size (hn4 a ha)
      have HN4' := Lib.hid HN4
      have b3' := b2'.trans (b3.mono b2'.size)
      have kL3 := kL2.below b3
      have kG3 := kG2.below b3
      have q23 := q22.below b3
      have HR0 := Lib.hid (readN_nm q23.nm)
      clear b3 b2' kL2 kF2 kG2 q3 q22 hn4 HN4
      go_wp2
      go_roundw
      case rel =>
        exact ⟨L, H % L, G, F + H / L * G, !neg, _, _, _, _, _, _, _, _, _, _, _, _, rfl, rfl, rfl, rfl, rfl, kL3, q23, kG3, q4, HNG.out, HN4'.out, HST.out, b3'⟩
      case measure =>
        rw [HL0.out, HR0.out]
        have := HST.out.lh
        have := HST.out.l0
        omega
    · have hL0 : L = 0 := by have := kL.pos; omega
      have g' : ¬ 0 < nb L := fun h => by have := (nb_pos kL.pos).1 h; omega
      have HL0 := Lib.hid hL0
      clear eu hL0
      go_wp2_with fail
      refine (bits_any kL.nm).mono ?_
      rintro e w1 ⟨rfl, rfl⟩
      go_wp2
      refine bodyPost_ret (v := .tuple #[.slice A1 n1 c1, .slice A3 n3 c3, .bool neg]) (by simp [results, Tryz.results86, go_sem]) rfl ?_
      have heu := HEU.out
      rw [HL0.out] at heu
      exact ⟨H, F, G, neg, _, _, _, _, _, _, rfl, kH, kF, HNF.out, heu, hb⟩
/-- What makes 1 of X was answered. -/
def InvA (m X : Int) (w : World) (e : Ending) (w' : World) : Prop := ∃ U, 1 ≤ U ∧ U < m ∧ Eqm m (X * U) 1 ∧ Ans U w e w'
section
variable {w : World} {b : Nat} {m : Int} {n : Nat} {A : Option Addr} {c : Nat} {low : Int} {B : Option Addr} {cB : Nat} {S : Option Addr} {cS : Nat}
theorem inverse_long (md : Md w b m n A c low B cB S cS) {XA : Option Addr} {l cx : Nat} {X : Int} (hX : Nm w XA l cx X) (hl : 64 < dl X) :
    Calls Tryz.prog 50 #[.pointer (some ⟨b, 0, none⟩), .slice XA l cx] w (Err1 2 w) := by
  go_enter Tryz.func50, Tryz.ntmps50
  go_wp2_with fail
  refine (reduce_long md hX hl).mono ?_
  rintro e w1 ⟨rfl, b1⟩
  go_wp2
  go_ret2
  exact ⟨rfl, b1⟩
set_option maxHeartbeats 1000000 in
theorem inverse_none (md : Md w b m n A c low B cB S cS) {XA : Option Addr} {l cx : Nat} {X : Int} (hX : Nm w XA l cx X) (hl : dl X ≤ 64) (hg : Int.gcd m (X % m) ≠ 1) :
    Calls Tryz.prog 50 #[.pointer (some ⟨b, 0, none⟩), .slice XA l cx] w (Err1 6 w) := by
  have rx := md.rest X
  have HG := Lib.hid hg
  clear hg
  go_enter Tryz.func50, Tryz.ntmps50
  go_wp2_with fail
  refine (reduce_any md hX hl).mono ?_
  rintro e w1 ⟨B1, n1, c1, rfl, k1, b1, -⟩
  have md1 := md.below b1
  have q0 := md1.c0
  go_wp2_with fail
  refine (euclid_any md1.lim k1 rx.2.1 (by have := md.len; have := md.l32; omega)).mono ?_
  rintro e w2 ⟨H, F, G, neg, A2, n2, c2, A3, n3, c3, rfl, k2, k3, -, eu, b2⟩
  have b12 := b1.trans (b2.mono b1.size)
  have hH := eu.gcd_end
  have hlt := eu.lh
  have hne : cmpI H 1 = 1 := cmpI_gt (by have := HG.out; omega)
  have hl1 := lit_one w2 1 (by decide) (by decide)
  have HL1 := Lib.hid hl1
  have k2' := k2.alloc (.cells #[.int .u64 1] 38)
  have ba : Below w2.heap.size w2 (w2.alloc (.cells #[.int .u64 1] 38)) := (Below.refl _ _).alloc (Nat.le_refl _) _
  have b13 := b12.trans (ba.mono b12.size)
  have B13 := Lib.hid b13
  clear hH eu b1 b2 b12 ba b13 hl1 q0 md1 k1 k3
  have hne2 : ((cmpI H 1 : Int) != 0) = true := by rw [hne]; rfl
  clear hne
  go_wp2_with fail
  refine (cmp_any k2'.nm HL1.out).mono ?_
  rintro e w3 ⟨rfl, q, rfl⟩
  go_wp2
  go_ret2
  exact ⟨rfl, below_drewN B13.out q⟩
set_option maxHeartbeats 1000000 in
theorem inverse_any (md : Md w b m n A c low B cB S cS) {XA : Option Addr} {l cx : Nat} {X : Int} (hX : Nm w XA l cx X) (hl : dl X ≤ 64) (hg : Int.gcd m (X % m) = 1) :
    Calls Tryz.prog 50 #[.pointer (some ⟨b, 0, none⟩), .slice XA l cx] w (InvA m X w) := by
  have rx := md.rest X
  have m3 := md.m3
  have HG := Lib.hid hg
  clear hg
  go_enter Tryz.func50, Tryz.ntmps50
  go_wp2_with fail
  refine (reduce_any md hX hl).mono ?_
  rintro e w1 ⟨B1, n1, c1, rfl, k1, b1, -⟩
  have md1 := md.below b1
  have q0 := md1.c0
  go_wp2_with fail
  refine (euclid_any md1.lim k1 rx.2.1 (by have := md.len; have := md.l32; omega)).mono ?_
  rintro e w2 ⟨H, F, G, neg, A2, n2, c2, A3, n3, c3, rfl, k2, k3, hnew, eu, b2⟩
  have HNEW : ∀ a, A3 = some a → w.heap.size ≤ a.block := fun a ha => Nat.le_trans b1.size (hnew a ha)
  have HNEW' := Lib.hid HNEW
  have b12 := b1.trans (b2.mono b1.size)
  obtain rfl : H = 1 := by rw [eu.gcd_end, HG.out]; rfl
  have HI := Lib.hid (eu.inv (by omega))
  have f1 := HI.out.1
  have f2 := HI.out.2.1
  have hl1 := lit_one w2 1 (by decide) (by decide)
  have HL1 := Lib.hid hl1
  have k2' := k2.alloc (.cells #[.int .u64 1] 38)
  have k3' := k3.alloc (.cells #[.int .u64 1] 38)
  have ba : Below w2.heap.size w2 (w2.alloc (.cells #[.int .u64 1] 38)) := (Below.refl _ _).alloc (Nat.le_refl _) _
  have b13 := b12.trans (ba.mono b12.size)
  have B13 := Lib.hid b13
  have hne2 : ((cmpI 1 1 : Int) != 0) = false := by rw [cmpI_eq]; rfl
  have dF : dl F ≤ 64 := by have := dl_mono k3.pos (show F ≤ m by omega); have := md.dlm; omega
  clear eu b1 b2 b12 ba b13 hl1 q0 md1 k1 k2 k3 hnew HNEW
  go_wp2_with fail
  refine (cmp_any k2'.nm HL1.out).mono ?_
  rintro e w3 ⟨rfl, q, rfl⟩
  have b14 := below_drewN B13.out q
  have k3'' := k3'.drewN q
  have md4 := md.below b14
  have q0 := md4.c0
  cases neg with
  | false =>
    go_wp2
    go_ret2
    have he := HI.out.2.2
    simp only [Bool.false_eq_true, if_false] at he
    refine ⟨F, f1, f2, ?_, ⟨_, _, _, rfl, k3'', b14, HNEW'.out⟩⟩
    exact ((Eqm.mod m X).symm.mul (Eqm.refl m F)).trans he
  | true =>
    go_wp2_with fail
    refine (sub_any md4.lim.nm k3''.nm md.dlm dF (by omega)).mono ?_
    rintro e w4 ⟨B4, n4, c4, rfl, k4, b4, hn⟩
    go_wp2
    go_ret2
    have he := HI.out.2.2
    simp only [if_true] at he
    refine ⟨m - F, by omega, by omega, ?_, ⟨_, _, _, rfl, k4, b14.trans (b4.mono b14.size), fun a ha => Nat.le_trans b14.size (hn a ha)⟩⟩
    exact ((Eqm.mod m X).symm.mul (Eqm.refl m _)).trans he
end
end Go.Proofs.YtloajnaphenbjaaGreatDoor
