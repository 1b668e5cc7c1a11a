/-
  What the document's Stream answers.
-/
import Derived.Test.YtbffcgnefkkhoaaDoorRpa
import Derived.Test.YtbffcgnefkkhoaaDoorFit0
import Derived.Deep.RegionLaw
namespace Go.Proofs.YtbffcgnefkkhoaaDoor
open Go.RowKit
set_option linter.unusedVariables false
/-- The pieces, so far. -/
def RsS (key : List Int) (m s : Nat) (W0 : World) (v i : Value) (wr : World) : Prop :=
  ∃ k : Nat, k ≤ m ∧ i = .int .i64 k ∧ Own8 wr s v (strm key k) ∧ Below s W0 wr
theorem Own8.drew {w : World} {base : Nat} {v : Value} {xs : List Int} (h : Own8 w base v xs) : Own8 w.drew base v xs := h
theorem bw_cell {W W' : World} {b i : Nat} {x : Option Value} (h : Bw W W') (hp : b < W.heap.size) (e : W.cell? ⟨b, i, none⟩ = x) : W'.cell? ⟨b, i, none⟩ = x := (Below.cell h (p := ⟨b, i, none⟩) hp).trans e
theorem bw_lt {W W' : World} {b : Nat} (h : Bw W W') (hp : b < W.heap.size) : b < W'.heap.size := Nat.lt_of_lt_of_le hp (Below.size h)
theorem own_bw {W W' : World} {base n : Nat} {v : Value} {xs : List Value} (h : W.ownsRow base 5 1 v n xs) (hb : Bw W W') : W'.ownsRow base 5 1 v n xs := own_keep h fun g e => Below.block hb g (h.lt g e).2
theorem bw_le {W W' : World} {s : Nat} (hs : s ≤ W.heap.size) (h : Bw W W') : s ≤ W'.heap.size := Nat.le_trans hs (Below.size h)
theorem below_bw {s : Nat} {W0 W W' : World} (h : Below s W0 W) (hs : s ≤ W.heap.size) (hw : Bw W W') : Below s W0 W' := h.trans (Below.mono hw hs)
theorem Rd.thr {kd : IntKind} {s : Nat} {W0 W : World} {A : Option Addr} {n : Nat} {xs : List Int} (h : Rd kd W0 A n xs) (hs : W0.heap.size = s) (hb : Below s W0 W) : Rd kd W A n xs := h.below (by rw [hs]; exact hb)
theorem Bs.thr {s : Nat} {W0 W : World} {A : Option Addr} {n c : Nat} {xs : List Int} (h : Bs W0 A n c xs) (hs : W0.heap.size = s) (hb : Below s W0 W) : Bs W A n c xs := h.below (by rw [hs]; exact hb)
theorem rnum_b (N : Int) (h0 : 0 ≤ N) (h1 : N < 18446744073709551616) (W : World) : Calls Tryd.prog 51 #[.int .u64 N] W (AnsBy (be8 N) 8 W) :=
  (number_any N h0 h1 W).mono fun _ _ h => h.b (be8_len N) (be8_dig N) (by omega)
theorem rparts_b2 {W : World} {AK AH : Option Addr} {cK cH : Nat} {A A2 : Option Addr} {n c n2 c2 : Nat} {k l : List Int} (hK : Rd .u32 W AK 64 KT) (hH : Rd .u32 W AH 8 H0.l) (h : Bs W A n c k) (h2 : Bs W A2 n2 c2 l) (hn : n ≤ 100000) (hn2 : n2 ≤ 100000) {g : Nat} (hg : W.heap.size = g) :
    Calls Tryd.prog 37 #[.agg #[.slice AK 64 cK, .slice AH 8 cH], .slice (some ⟨g, 0, none⟩) 2 2] (W.alloc (.cells #[.slice A n c, .slice A2 n2 c2] 22)) (AnsBy (parts [k, l]) 32 W) := by
  subst hg
  have hlen : (fr [k, l]).length ≤ 1000000 := by
    rw [show ([k, l] : List (List Int)) = [k] ++ [l] from rfl, fr_append, fr_one, fr_one]
    simp only [List.length_append, be8_len, h.rd.len, h2.rd.len]
    omega
  have hdig : ∀ xs ∈ [k, l], Dig 256 xs := fun xs hx => by
    rcases List.mem_cons.1 hx with rfl | hx
    · exact h.dig_
    · obtain rfl := List.mem_singleton.1 hx
      exact h2.dig_
  refine (rparts_any (hK.alloc _) (hH.alloc _) (pts_two h h2.bz) hlen (by omega) hdig).mono fun e W' hh => ?_
  obtain ⟨A, c, e, hb, ho, hw⟩ := hh.b (parts_len _) (parts_dig _) (by omega)
  exact ⟨A, c, e, hb, ho.base (by simp), (Bw.alloc W _).trans hw⟩
set_option maxHeartbeats 8000000 in
set_option maxRecDepth 100000 in
theorem rstream_any {AK AH : Option Addr} {cK cH : Nat} {A : Option Addr} {l c : Nat} {key : List Int} {w : World} (hK : Rd .u32 w AK 64 KT) (hH : Rd .u32 w AH 8 H0.l) (hk : Bs w A l c key) (hl : l ≤ 1000) (n : Nat) (hn : n ≤ 10000) :
    Calls Tryd.prog 36 #[.agg #[.slice AK 64 cK, .slice AH 8 cH], .slice A l c, .int .i64 n] w fun e w' => ∃ A1 c1, e = .returned (.slice A1 n c1) ∧ Bs w' A1 n c1 (stream key n) ∧ Bw w w' := by
  obtain ⟨W0, hW0⟩ : ∃ W0, w.alloc (.cells #[.slice AK 64 cK, .slice AH 8 cH] 37) = W0 := ⟨_, rfl⟩
  obtain ⟨s, hs⟩ : ∃ s, w.heap.size + 1 = s := ⟨_, rfl⟩
  have S0 : W0.heap.size = s := by rw [← hW0, ← hs]; simp
  have HBX := Lib.hid (show W0.heap[w.heap.size]? = some (.cells #[.slice AK 64 cK, .slice AH 8 cH] 37 (0, 0)) by rw [← hW0]; exact heap_alloc_new w _)
  have HB0 := Lib.hid (show Below w.heap.size w W0 by rw [← hW0]; exact (Below.refl _ w).alloc (Nat.le_refl _) _)
  have HKy := Lib.hid (hk.below HB0.out)
  have HK0 := Lib.hid (hK.below HB0.out)
  have HH0 := Lib.hid (hH.below HB0.out)
  have HW0 := Lib.hid hW0
  have HS := Lib.hid hs
  have HS0 := Lib.hid S0
  obtain ⟨m, hm⟩ : ∃ m, (n + 31) / 32 = m := ⟨_, rfl⟩
  have hm2 : m ≤ 313 := by omega
  have HM := Lib.hid hm
  clear hW0 hK hH hk hs hm
  go_enter Tryd.func36, Tryd.ntmps36
  go_wp2_with fail
  rw [HW0.out]
  go_loopw [7, 8] (fun v i wr => RsS key m s W0 v i wr) (fun _ i _ => m - (intOf i).toNat)
  case atStart => exact ⟨0, Nat.zero_le _, rfl, Own8.nil _ _, Below.refl _ _⟩
  case round =>
    obtain ⟨k, hk, rfl, ho, hb⟩ := hrel
    have sb := hb.size
    rw [S0] at sb
    obtain ⟨Av, cv, rfl, hrv, hcv, -⟩ := ho.rd
    obtain ⟨q, hq⟩ : ∃ q, (strm key k).length = q := ⟨_, rfl⟩
    have hqk : q = 32 * k := by rw [← hq, strm_len]
    rw [hq] at hrv hcv ⊢
    have HQ := Lib.hid hq
    have HQK := Lib.hid hqk
    have HO := Lib.hid ho
    have HB := Lib.hid hb
    have HRV := Lib.hid hrv
    clear ho hb hq hrv hqk
    rcases Nat.lt_or_ge q n with hlt | hge
    · have hqi : (q : Int) < (n : Int) := by omega
      have hkm : k < m := by have := HM.out; have := HQK.out; omega
      obtain ⟨X, hX⟩ : ∃ X, parts [key, be8 (k : Int)] = X := ⟨_, rfl⟩
      have HX := Lib.hid hX
      have LX := Lib.hid (show X.length = 32 by rw [← hX]; exact parts_len _)
      have ki : IntKind.u64.wrap (k : Int) = (k : Int) := by rw [IntKind.wrap_u64]; omega
      have HKE := Lib.hid (show strm key (k + 1) = strm key k ++ X by rw [← hX]; rfl)
      clear hX
      go_wp2_with fail
      have swr : w.heap.size < wr.heap.size := by have := HS.out; omega
      have HN0 := Lib.hid (show Below s W0 wr.drew from HB.out.drew)
      have e0 : wr.drew.cell? ⟨w.heap.size, 0, none⟩ = some (.slice AK 64 cK) := (HN0.out.cell (p := ⟨w.heap.size, 0, none⟩) (by show w.heap.size < s; have := HS.out; omega)).trans (cell_of_row W0 _ 0 _ _ _ HBX.out)
      have e1 : wr.drew.cell? ⟨w.heap.size, 1, none⟩ = some (.slice AH 8 cH) := (HN0.out.cell (p := ⟨w.heap.size, 1, none⟩) (by show w.heap.size < s; have := HS.out; omega)).trans (cell_of_row W0 _ 1 _ _ _ HBX.out)
      have sbd : s ≤ wr.drew.heap.size := sb
      have l100 : l ≤ 100000 := by omega
      have q32 : q + 32 ≤ 8796093022208 := by have := HQK.out; omega
      have kk : k ≤ 313 := by omega
      have HNUM := Lib.hid (show ∀ W, Calls Tryd.prog 51 #[.int .u64 (k : Int)] W (AnsBy (be8 (k : Int)) 8 W) from fun W => rnum_b _ (by omega) (by omega) W)
      have HOd := Lib.hid (show wr.drew.ownsRow s 5 1 (.slice Av q cv) q ((strm key k).map (Value.int .u8)) from by have h := HO.out; unfold Own8 at h; rw [HQ.out] at h; exact h)
      go_region_law (first
        | (go_simp; go_at_call 51; (with_reducible refine (HNUM.out _).mono ?_); rintro e w1 ⟨A1, c1, rfl, hb1, -, hw1⟩; have f0 := bw_cell hw1 swr e0; have f1 := bw_cell hw1 swr e1; have sw1 := bw_lt hw1 swr; have HN1 := Lib.hid hb1; have HB1 := Lib.hid (below_bw HN0.out sbd hw1); have HO1 := Lib.hid (own_bw HOd.out hw1); have hs1 := bw_le sbd hw1; clear hb1 hw1)
        | (go_simp; go_at_call 37; (with_reducible refine (rparts_b2 (HK0.out.thr S0 HB1.out) (HH0.out.thr S0 HB1.out) (HKy.out.thr S0 HB1.out) HN1.out l100 (by decide) rfl).mono ?_); rintro e w2 ⟨A2, c2, rfl, hb2, -, hw2⟩; rw [HX.out] at hb2; have HN2 := Lib.hid hb2; have HB2 := Lib.hid (below_bw HB1.out hs1 hw2); have HO2 := Lib.hid (own_bw HO1.out hw2); have hs2 := bw_le hs1 hw2; clear hb2 hw2)
        | (refine step_catK _ rfl (.tmp 15) (.tmp 22) 22 rfl s 1 5 .u8 Tryd.underlying22 info8u (by omega) _ q (strm key k) rfl HO2.out _ 32 _ X rfl HN2.out.rd q32 hs2 ?_; intro vn wn hn gn; have H3 := Lib.hid hn; have G3 := Lib.hid gn; clear hn gn))
      all_goals
        have o3 : Own8 wn s vn (strm key (k + 1)) := by
          rw [HKE.out]
          unfold Own8
          rw [List.length_append, HQ.out, LX.out]
          exact H3.out
        have b3 := own_below HB2.out HO2.out G3.out hs2 (Nat.le_refl _)
        have HO3 := Lib.hid o3
        clear H3 G3 o3
        go_wp2_with fail
        go_roundw
        case rel => exact ⟨k + 1, by omega, by go_num, HO3.out, b3⟩
        case measure => simp [intOf]; omega
    · have hqi : decide ((q : Int) < (n : Int)) = false := by simp; omega
      obtain ⟨A2, c2, e2, bs⟩ := HO.out.bs (strm_dig key k) (by rw [HQ.out, HQK.out]; omega)
      rw [HQ.out] at bs e2
      injection e2 with e2 e3 e4
      subst e2 e4
      have BS := Lib.hid bs
      clear bs e3
      go_wp2_with fail
      go_ret
      have hs2 := HB.out
      refine ⟨_, _, rfl, ?_, HB0.out.trans (hs2.mono (by have := HS.out; omega))⟩
      have e : (strm key k).take n = stream key n := stream_of key (by have := HQK.out; omega)
      rw [← e]
      exact ⟨BS.out.rd.take hge, BS.out.dig_.take _, by have := BS.out.nc; omega, by omega, BS.out.none_, BS.out.plain⟩
end Go.Proofs.YtbffcgnefkkhoaaDoor
