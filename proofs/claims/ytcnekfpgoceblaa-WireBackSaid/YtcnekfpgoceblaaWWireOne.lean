/-
  WireOne answers true: two messages that have the same bytes are the same message. By program: genwone.py.
-/
import Derived.Test.YtcnekfpgoceblaaPcm
import Derived.Lib.Strings
namespace Go.Proofs.Ytcnekfpgoceblaa
open Go.RowKit
set_option linter.unusedVariables false
set_option maxRecDepth 100000 in
theorem neW_nil : ∀ w : World, (binOp .neq 35 .nilIface .nilIface).run Try.prog w = .ok (.bool false) w := fun _ => rfl
set_option maxRecDepth 100000 in
theorem neW_one (c : Int) : ∀ w : World, (binOp .neq 35 (.iface 57 (.int .i64 c)) .nilIface).run Try.prog w = .ok (.bool true) w := fun _ => rfl
theorem erv_iface {E : Value} {code : Int} (h : ErV E code) (h0 : code ≠ 0) : E = .iface 57 (.int .i64 code) := by
  rcases h with ⟨h, -⟩ | ⟨-, h⟩
  · exact absurd h h0
  · exact h
theorem ervN_zero {E : Value} (h : ErV E 0) : E = .nilIface := by
  rcases h with ⟨-, h⟩ | ⟨⟨h, -⟩, -⟩
  · exact h
  · omega
theorem strW_inj {xs ys : List Int} (hx : Dig 256 xs) (hy : Dig 256 ys) (h : (strOfNums xs).toList = (strOfNums ys).toList) : xs = ys := by
  rw [Lib.toList_data, Lib.toList_data, strOfNums_data, strOfNums_data] at h
  have h2 : xs.map (fun x => UInt8.ofNat x.toNat) = ys.map (fun x => UInt8.ofNat x.toNat) := by simpa using h
  have hl : xs.length = ys.length := by simpa using congrArg List.length h2
  refine List.ext_getElem hl fun i h3 h4 => ?_
  have h5 : (xs.map (fun x => UInt8.ofNat x.toNat))[i]? = (ys.map (fun x => UInt8.ofNat x.toNat))[i]? := by rw [h2]
  rw [List.getElem?_map, List.getElem?_map, List.getElem?_eq_getElem h3, List.getElem?_eq_getElem h4] at h5
  have h6 : UInt8.ofNat (xs[i]).toNat = UInt8.ofNat (ys[i]).toNat := by simpa using h5
  have b1 := hx _ (List.getElem_mem h3)
  have b2 := hy _ (List.getElem_mem h4)
  have h7 := congrArg UInt8.toNat h6
  rw [UInt8.toNat_ofNat', UInt8.toNat_ofNat'] at h7
  omega
theorem row_belowM {W W' : World} {g : Nat} {cs : Array Value} {t : TypeId} (h : W.heap[g]? = some (.cells cs t (0, 0))) (hb : Below W.heap.size W W') : W'.heap[g]? = some (.cells cs t (0, 0)) := (hb.block g (Array.getElem?_eq_some_iff.1 h).1).trans h
/-- What is alike in two messages that tell the same. -/
theorem mv_same {a b : Mgd} (ha : a.Cn) (hb : b.Cn) (h : mv a = mv b) : a.k = b.k ∧ a.u = b.u ∧ a.ok = b.ok ∧ a.nb = b.nb ∧ a.np = b.np ∧ a.nt = b.nt ∧ a.i = b.i := by
  have t : ∀ {x y : Int}, Cnt x → Cnt y → x.toNat = y.toNat → x = y := fun {x y} hx hy e => by have := hx.1; have := hy.1; omega
  unfold mv at h
  simp only [Prod.mk.injEq] at h
  obtain ⟨h1, h2, h3, h4, h5, h6, h7, h8, h9, h10, h11, h12⟩ := h
  have l8 := congrArg List.length h8
  have l9 := congrArg List.length h9
  have l10 := congrArg List.length h10
  simp only [List.length_map, List.length_range] at l8 l9 l10
  exact ⟨t ha.k hb.k h1, t ha.u hb.u h6, h7, l8, l9, l10, t ha.i hb.i h11⟩
set_option maxHeartbeats 64000000 in
set_option maxRecDepth 100000 in
theorem wireOne_walk {w : World} {a b : Mgd} (ha : Mg w a) (hIa : a.Int) (hTa : ∀ i, i < a.nt → (a.T i).xs.length ≤ 4611686018427387904) (hb : Mg w b) (hIb : b.Int) (hTb : ∀ i, i < b.nt → (b.T i).xs.length ≤ 4611686018427387904) :
    Calls Try.prog 8 #[.agg #[.int .i64 a.k, .int .i64 a.g, .int .i64 a.l, .int .i64 a.p, .int .i64 a.s, .int .i64 a.u, .bool a.ok, .slice a.Ab a.nb a.cb, .slice a.Ap a.np a.cp, .slice a.At a.nt a.ct, .int .i64 a.i, .slice a.Av a.nv a.cv], .agg #[.int .i64 b.k, .int .i64 b.g, .int .i64 b.l, .int .i64 b.p, .int .i64 b.s, .int .i64 b.u, .bool b.ok, .slice b.Ab b.nb b.cb, .slice b.Ap b.np b.cp, .slice b.At b.nt b.ct, .int .i64 b.i, .slice b.Av b.nv b.cv]] w fun e w' => e = .returned (.bool true) ∧ Below w.heap.size w w' := by
  obtain ⟨ca, xa, hca, hla, hda, hoka, -, hpa, -⟩ := msg_two ha hIa hTa
  obtain ⟨cb, xb, hcb, hlb, hdb, hokb, -, hpb, -⟩ := msg_two hb hIb hTb
  have HA := Lib.hid ha
  have HB := Lib.hid hb
  have HPA := Lib.hid hpa
  have HPB := Lib.hid hpb
  have HOA := Lib.hid hoka
  have HOB := Lib.hid hokb
  have HDA := Lib.hid hda
  have HDB := Lib.hid hdb
  obtain ⟨s, hs⟩ : ∃ s, w.heap.size = s := ⟨_, rfl⟩
  obtain ⟨W1, hW1⟩ : ∃ W1, w.alloc (.cells #[.int .i64 a.k, .int .i64 a.g, .int .i64 a.l, .int .i64 a.p, .int .i64 a.s, .int .i64 a.u, .bool a.ok, .slice a.Ab a.nb a.cb, .slice a.Ap a.np a.cp, .slice a.At a.nt a.ct, .int .i64 a.i, .slice a.Av a.nv a.cv] 30) = W1 := ⟨_, rfl⟩
  have b1 : Below w.heap.size w W1 := by rw [← hW1]; exact (Below.refl _ _).alloc (Nat.le_refl _) _
  have s1 : W1.heap.size = s + 1 := by rw [← hW1, ← hs]; simp
  have r1 : W1.heap[s]? = some (.cells #[.int .i64 a.k, .int .i64 a.g, .int .i64 a.l, .int .i64 a.p, .int .i64 a.s, .int .i64 a.u, .bool a.ok, .slice a.Ab a.nb a.cb, .slice a.Ap a.np a.cp, .slice a.At a.nt a.ct, .int .i64 a.i, .slice a.Av a.nv a.cv] 30 (0, 0)) := by rw [← hW1, ← hs]; exact heap_alloc_new w _
  obtain ⟨W2, hW2⟩ : ∃ W2, W1.alloc (.cells #[.int .i64 b.k, .int .i64 b.g, .int .i64 b.l, .int .i64 b.p, .int .i64 b.s, .int .i64 b.u, .bool b.ok, .slice b.Ab b.nb b.cb, .slice b.Ap b.np b.cp, .slice b.At b.nt b.ct, .int .i64 b.i, .slice b.Av b.nv b.cv] 30) = W2 := ⟨_, rfl⟩
  have b2 : Below W1.heap.size W1 W2 := by rw [← hW2]; exact (Below.refl _ _).alloc (Nat.le_refl _) _
  have B2 := Lib.hid (show Below w.heap.size w W2 from b1.trans (b2.mono b1.size))
  have RA2 := Lib.hid (row_belowM r1 b2)
  have RB2 := Lib.hid (show W2.heap[s + 1]? = some (.cells #[.int .i64 b.k, .int .i64 b.g, .int .i64 b.l, .int .i64 b.p, .int .i64 b.s, .int .i64 b.u, .bool b.ok, .slice b.Ab b.nb b.cb, .slice b.Ap b.np b.cp, .slice b.At b.nt b.ct, .int .i64 b.i, .slice b.Av b.nv b.cv] 30 (0, 0)) by rw [← hW2, ← s1]; exact heap_alloc_new W1 _)
  clear ha hb hpa hpb hoka hokb hda hdb b1 b2 r1 hIa hIb hTa hTb
  go_enter Try.func8, Try.ntmps8
  go_wp2_with fail
  try rw [hW1]
  try rw [hW2]
  clear hW1 hW2
  refine (up11_any W2).mono ?_
  rintro e w3 ⟨rfl, b3⟩
  have B3 := Lib.hid (B2.out.trans (b3.mono B2.out.size))
  have RA3 := Lib.hid (row_belowM RA2.out b3)
  have RB3 := Lib.hid (row_belowM RB2.out b3)
  clear b3 s1 hs
  have y0 := cell_of_row w3 s 0 _ _ _ RA3.out
  have y1 := cell_of_row w3 s 1 _ _ _ RA3.out
  have y2 := cell_of_row w3 s 2 _ _ _ RA3.out
  have y3 := cell_of_row w3 s 3 _ _ _ RA3.out
  have y4 := cell_of_row w3 s 4 _ _ _ RA3.out
  have y5 := cell_of_row w3 s 5 _ _ _ RA3.out
  have y6 := cell_of_row w3 s 6 _ _ _ RA3.out
  have y7 := cell_of_row w3 s 7 _ _ _ RA3.out
  have y8 := cell_of_row w3 s 8 _ _ _ RA3.out
  have y9 := cell_of_row w3 s 9 _ _ _ RA3.out
  have y10 := cell_of_row w3 s 10 _ _ _ RA3.out
  have y11 := cell_of_row w3 s 11 _ _ _ RA3.out
  go_wp2_with fail
  clear y0 y1 y2 y3 y4 y5 y6 y7 y8 y9 y10 y11
  refine (smallW_any (HA.out.below B3.out)).mono ?_
  rintro e w4 ⟨q, rfl, hq, b4⟩
  have HQ := Lib.hid hq
  have B4 := Lib.hid (B3.out.trans (b4.mono B3.out.size))
  have RA4 := Lib.hid (row_belowM RA3.out b4)
  have RB4 := Lib.hid (row_belowM RB3.out b4)
  clear hq b4
  cases q with
  | false =>
    go_wp2_with fail
    go_ret
    exact ⟨rfl, B4.out⟩
  | true =>
    have y0 := cell_of_row w4 (s + 1) 0 _ _ _ RB4.out
    have y1 := cell_of_row w4 (s + 1) 1 _ _ _ RB4.out
    have y2 := cell_of_row w4 (s + 1) 2 _ _ _ RB4.out
    have y3 := cell_of_row w4 (s + 1) 3 _ _ _ RB4.out
    have y4 := cell_of_row w4 (s + 1) 4 _ _ _ RB4.out
    have y5 := cell_of_row w4 (s + 1) 5 _ _ _ RB4.out
    have y6 := cell_of_row w4 (s + 1) 6 _ _ _ RB4.out
    have y7 := cell_of_row w4 (s + 1) 7 _ _ _ RB4.out
    have y8 := cell_of_row w4 (s + 1) 8 _ _ _ RB4.out
    have y9 := cell_of_row w4 (s + 1) 9 _ _ _ RB4.out
    have y10 := cell_of_row w4 (s + 1) 10 _ _ _ RB4.out
    have y11 := cell_of_row w4 (s + 1) 11 _ _ _ RB4.out
    go_wp2_with fail
    clear y0 y1 y2 y3 y4 y5 y6 y7 y8 y9 y10 y11
    refine (smallW_any (HB.out.below B4.out)).mono ?_
    rintro e w5 ⟨q2, rfl, hq, b5⟩
    have B5 := Lib.hid (B4.out.trans (b5.mono B4.out.size))
    have RA5 := Lib.hid (row_belowM RA4.out b5)
    have RB5 := Lib.hid (row_belowM RB4.out b5)
    clear hq b5
    cases q2 with
    | false =>
      go_wp2_with fail
      go_ret
      exact ⟨rfl, B5.out⟩
    | true =>
      have y0 := cell_of_row w5 s 0 _ _ _ RA5.out
      have y1 := cell_of_row w5 s 1 _ _ _ RA5.out
      have y2 := cell_of_row w5 s 2 _ _ _ RA5.out
      have y3 := cell_of_row w5 s 3 _ _ _ RA5.out
      have y4 := cell_of_row w5 s 4 _ _ _ RA5.out
      have y5 := cell_of_row w5 s 5 _ _ _ RA5.out
      have y6 := cell_of_row w5 s 6 _ _ _ RA5.out
      have y7 := cell_of_row w5 s 7 _ _ _ RA5.out
      have y8 := cell_of_row w5 s 8 _ _ _ RA5.out
      have y9 := cell_of_row w5 s 9 _ _ _ RA5.out
      have y10 := cell_of_row w5 s 10 _ _ _ RA5.out
      have y11 := cell_of_row w5 s 11 _ _ _ RA5.out
      go_wp2_with fail
      clear y0 y1 y2 y3 y4 y5 y6 y7 y8 y9 y10 y11
      refine (HPA.out w5 (HA.out.below B5.out)).mono ?_
      rintro e w6 ⟨A6, c6, E6, rfl, hE6, rd6, -, b6⟩
      have HE6 := Lib.hid hE6
      have RD6 := Lib.hid rd6
      have B6 := Lib.hid (B5.out.trans (b6.mono B5.out.size))
      have RA6 := Lib.hid (row_belowM RA5.out b6)
      have RB6 := Lib.hid (row_belowM RB5.out b6)
      clear hE6 rd6 b6
      have y0 := cell_of_row w6 (s + 1) 0 _ _ _ RB6.out
      have y1 := cell_of_row w6 (s + 1) 1 _ _ _ RB6.out
      have y2 := cell_of_row w6 (s + 1) 2 _ _ _ RB6.out
      have y3 := cell_of_row w6 (s + 1) 3 _ _ _ RB6.out
      have y4 := cell_of_row w6 (s + 1) 4 _ _ _ RB6.out
      have y5 := cell_of_row w6 (s + 1) 5 _ _ _ RB6.out
      have y6 := cell_of_row w6 (s + 1) 6 _ _ _ RB6.out
      have y7 := cell_of_row w6 (s + 1) 7 _ _ _ RB6.out
      have y8 := cell_of_row w6 (s + 1) 8 _ _ _ RB6.out
      have y9 := cell_of_row w6 (s + 1) 9 _ _ _ RB6.out
      have y10 := cell_of_row w6 (s + 1) 10 _ _ _ RB6.out
      have y11 := cell_of_row w6 (s + 1) 11 _ _ _ RB6.out
      go_wp2_with fail
      clear y0 y1 y2 y3 y4 y5 y6 y7 y8 y9 y10 y11
      refine (HPB.out w6 (HB.out.below B6.out)).mono ?_
      rintro e w7 ⟨A7, c7, E7, rfl, hE7, rd7, -, b7⟩
      have HE7 := Lib.hid hE7
      have RD7 := Lib.hid rd7
      have RD6b := Lib.hid (RD6.out.below b7)
      have B7 := Lib.hid (B6.out.trans (b7.mono B6.out.size))
      have RA7 := Lib.hid (row_belowM RA6.out b7)
      have RB7 := Lib.hid (row_belowM RB6.out b7)
      clear hE7 rd7 b7
      by_cases ga : ca = 0
      case neg =>
        obtain rfl := erv_iface HE6.out ga
        have q1 := neW_one ca
        clear ga
        go_wp2_with fail
        go_ret
        exact ⟨rfl, B7.out⟩
      by_cases gb : cb = 0
      case neg =>
        obtain rfl := erv_iface HE7.out gb
        have q2 := neW_one cb
        obtain rfl := ervN_zero (ga ▸ HE6.out)
        have q1 := neW_nil
        clear ga gb
        go_wp2_with fail
        go_ret
        exact ⟨rfl, B7.out⟩
      obtain ⟨cna, oka, ea⟩ := HOA.out ga
      obtain ⟨cnb, okb, eb⟩ := HOB.out gb
      obtain rfl := ervN_zero (ga ▸ HE6.out)
      obtain rfl := ervN_zero (gb ▸ HE7.out)
      have q1 := neW_nil
      have cv6 := conv_any (c := c6) RD6b.out
      have cv7 := conv_any (c := c7) RD7.out
      obtain ⟨SA, hSA⟩ : ∃ S, strOfNums xa = S := ⟨_, rfl⟩
      obtain ⟨SB, hSB⟩ : ∃ S, strOfNums xb = S := ⟨_, rfl⟩
      have KEY := Lib.hid (show (SA.toList == SB.toList) = true → a.k = b.k ∧ a.u = b.u ∧ a.ok = b.ok ∧ a.nb = b.nb ∧ a.np = b.np ∧ a.nt = b.nt ∧ a.i = b.i from fun hh => by
        have h1 : SA.toList = SB.toList := by simpa using hh
        rw [← hSA, ← hSB] at h1
        have h2 := strW_inj HDA.out HDB.out h1
        rw [ea, eb] at h2
        exact mv_same cna cnb (msgC.one oka okb h2))
      rw [hSA] at cv6
      rw [hSB] at cv7
      clear ga gb cna oka ea cnb okb eb hSA hSB
      cases hd : (SA.toList == SB.toList) with
      | false =>
        go_wp2_with fail
        go_ret
        exact ⟨rfl, B7.out⟩
      | true =>
        obtain ⟨k1, k2, k3, k4, k5, k6, k7⟩ := KEY.out hd
        have y0 := cell_of_row w7 s 0 _ _ _ RA7.out
        have y5 := cell_of_row w7 s 5 _ _ _ RA7.out
        have y6 := cell_of_row w7 s 6 _ _ _ RA7.out
        have y7 := cell_of_row w7 s 7 _ _ _ RA7.out
        have y8 := cell_of_row w7 s 8 _ _ _ RA7.out
        have y9 := cell_of_row w7 s 9 _ _ _ RA7.out
        have y10 := cell_of_row w7 s 10 _ _ _ RA7.out
        have z0 := cell_of_row w7 (s + 1) 0 _ _ _ RB7.out
        have z5 := cell_of_row w7 (s + 1) 5 _ _ _ RB7.out
        have z6 := cell_of_row w7 (s + 1) 6 _ _ _ RB7.out
        have z7 := cell_of_row w7 (s + 1) 7 _ _ _ RB7.out
        have z8 := cell_of_row w7 (s + 1) 8 _ _ _ RB7.out
        have z9 := cell_of_row w7 (s + 1) 9 _ _ _ RB7.out
        have z10 := cell_of_row w7 (s + 1) 10 _ _ _ RB7.out
        rw [k1] at y0
        rw [k2] at y5
        rw [k3] at y6
        rw [k4] at y7
        rw [k5] at y8
        rw [k6] at y9
        rw [k7] at y10
        clear k1 k2 k3 k4 k5 k6 k7
        go_wp2_with fail
        go_ret
        exact ⟨rfl, B7.out⟩
end Go.Proofs.Ytcnekfpgoceblaa
