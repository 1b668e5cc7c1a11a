/-
  HashFits, walked: it answers true, whatever comes in.
-/
import Derived.Test.YtnfncaaclpddkaaDoorFit0
import Derived.Test.YtnfncaaclpddkaaDoorMn
import Derived.Deep.CutBlock
import Derived.IntWalk
import Derived.Deep.DeepCutAuto
namespace Go.Proofs.YtnfncaaclpddkaaDoor
open Go.RowKit
set_option linter.unusedVariables false
theorem cut_lit {A : Option Addr} {n c m : Nat} {v : Int} (hv : v = m) {k : Nat} (hk : min n m = k) (hn : n ≤ 140737488351232) (hnc : n ≤ c) (hA : A = none → n = 0) (w : World) :
    Calls Tryd.prog 8 #[.slice A n c, .int .i64 v] w fun e w' => e = .returned (.slice A k c) ∧ w = w' := by
  subst hv hk
  exact cut_any hn hnc hA w
theorem IsRow.none_len {w : World} {a : Option Addr} {len cap : Nat} {zs : List Int} (h : IsRow .u8 1 w a len cap zs) : a = none → len = 0 := fun ha => by
  rcases h with ⟨-, h2, -, -⟩ | ⟨x, h1, -⟩
  · exact h2
  · rw [ha] at h1; cases h1
theorem mac_long {x y : List Int} (h : 64 < x.length) : mac x y = mac (sha x) y := by
  have e : keyB x = keyB (sha x) := by
    unfold keyB
    rw [if_pos h, if_neg (by rw [sha_len]; omega)]
  unfold mac
  rw [e]
theorem strm_piece (k : List Int) {j r : Nat} (h : j < r) : ((stream k (32 * r)).drop (32 * j)).take 32 = parts [k, be8 (j : Int)] := by
  have e1 : stream k (32 * r) = strm k r := by rw [← stream_of k (m := r) (Nat.le_refl _)]; exact List.take_of_length_le (by rw [strm_len]; omega)
  have e2 := strm_take k (m := j + 1) (p := r) (by omega)
  rw [e1]
  have e3 : ((strm k r).take (32 * (j + 1))).drop (32 * j) = ((strm k r).drop (32 * j)).take 32 := by rw [List.drop_take]; congr 1; omega
  rw [← e3, e2]
  show (strm k j ++ parts [k, be8 (j : Int)]).drop (32 * j) = _
  rw [List.drop_left' (strm_len k j)]
section
variable {W : World} {A A2 : Option Addr} {n c n2 c2 : Nat} {l k R : List Int}
theorem sha_r (hR : sha l = R) (hT : Tabs W) (h : Bs W A n c l) : Calls Tryd.prog 9 #[.slice A n c] W (AnsB R 32 W) := by
  subst hR; exact sha_b hT h
theorem sha_r0 (hR : sha [] = R) (hT : Tabs W) : Calls Tryd.prog 9 #[.slice none 0 0] W (AnsB R 32 W) := by
  subst hR; exact sha_b0 hT
theorem parts_r0 (hR : sha [] = R) (hT : Tabs W) : Calls Tryd.prog 12 #[.slice none 0 0] W (AnsB R 32 W) := by
  subst hR; exact parts_b0 hT
theorem mac_r (hR : mac k l = R) (hT : Tabs W) (hk : Bs W A n c k) (h : Bs W A2 n2 c2 l) (hn : n2 ≤ 1000000) : Calls Tryd.prog 14 #[.slice A n c, .slice A2 n2 c2] W (AnsB R 32 W) := by
  subst hR; exact mac_b hT hk h (by omega)
end
theorem stream_l {W : World} {A : Option Addr} {n c q : Nat} {key : List Int} (hT : Tabs W) (hk : Bs W A n c key) (hq : q ≤ 1048576) (hn : n ≤ 1000000) :
    Calls Tryd.prog 16 #[.slice A n c, .int .i64 q] W fun e W' => ∃ A1 c1, e = .returned (.tuple #[.slice A1 q c1, .nilIface]) ∧ Bs W' A1 q c1 (stream key q) ∧ Bw W W' :=
  (stream_any hT hk q hq (by omega)).mono fun e W' h => by
    obtain ⟨v, rfl, ho, hb⟩ := h
    have hd : Dig 256 (stream key q) := fun x hx => strm_dig key _ x (List.mem_of_mem_take hx)
    obtain ⟨A, c, rfl, hbs⟩ := ho.bs hd (by rw [stream_len]; omega)
    rw [stream_len] at hbs ⊢
    exact ⟨A, c, rfl, hbs, hb⟩
theorem number_b (N : Int) (h0 : 0 ≤ N) (h1 : N < 9223372036854775808) (W : World) : Calls Tryd.prog 18 #[.int .i64 N] W (AnsB (be8 N) 8 W) :=
  (number_i N h0 h1 W).mono fun _ _ h => h.b (be8_len N) (be8_dig N) (by omega)
theorem parts_r2 {W : World} {A A2 : Option Addr} {n c n2 c2 : Nat} {l k R : List Int} (hR : parts [k, l] = R) (hT : Tabs W) (h : Bs W A n c k) (h2 : Bs W A2 n2 c2 l) (hn : n ≤ 1000000) (hn2 : n2 ≤ 1000000) {g : Nat} (hg : W.heap.size = g) :
    Calls Tryd.prog 12 #[.slice (some ⟨g, 0, none⟩) 2 2] (W.alloc (.cells #[.slice A n c, .slice A2 n2 c2] 22)) (AnsB R 32 W) := by
  subst hR; exact parts_b2 hT h h2 hn hn2 hg
def LpR (r : Nat) (w : World) (i : Value) (wr : World) : Prop := ∃ j : Nat, j ≤ r ∧ i = .int .i64 j ∧ Bw w wr
def ZrR (A : Option Addr) (w0 : World) (i : Value) (wr : World) : Prop := ∃ q : Nat, q ≤ 32 ∧ i = .int .i64 q ∧ Trd 5 .u8 A 32 w0 wr
theorem AnsO.nb {bs : List Int} {n : Nat} {W W' : World} {e : Ending} (hl : bs.length = n) (hd : Dig 256 bs) (hn : n ≤ 1099511627776) (h : AnsO bs W e W') : AnsB bs n W e W' := h.b hl hd hn
set_option maxHeartbeats 8000000 in
set_option maxRecDepth 100000 in
theorem hashFits_walk {a b : Option Addr} {na ca nb cb : Nat} {zs ys : List Int} {w : World} (ha : IsRow .u8 1 w a na ca zs) (sa : ∀ x, a = some x → x.spot = none) (hb : IsRow .u8 1 w b nb cb ys) (sb : ∀ x, b = some x → x.spot = none)
    (n : Int) (hn : -9223372036854775808 ≤ n ∧ n ≤ 9223372036854775807) (hT : Tabs w) :
    Calls Tryd.prog 6 #[.slice a na ca, .slice b nb cb, .int .i64 n] w fun e w' => e = .returned (.bool true) ∧ Below w.heap.size w w' := by
  have hna := ha.nc
  have hnb := hb.nc
  have za := ha.none_len
  have zb := hb.none_len
  obtain ⟨k, hk⟩ : ∃ k, min na 3000 = k := ⟨_, rfl⟩
  obtain ⟨m, hm⟩ : ∃ m, min nb 3000 = m := ⟨_, rfl⟩
  have bx := ha.bs_cut sa (m := 3000) (by omega)
  have by_ := hb.bs_cut sb (m := 3000) (by omega)
  rw [hk] at bx
  rw [hm] at by_
  obtain ⟨x, hx⟩ : ∃ x, (zs.take na).take k = x := ⟨_, rfl⟩
  obtain ⟨y, hy⟩ : ∃ y, (ys.take nb).take m = y := ⟨_, rfl⟩
  rw [hx] at bx
  rw [hy] at by_
  have k3 : k ≤ 3000 := by omega
  have m3 : m ≤ 3000 := by omega
  have HK := Lib.hid hk
  have HM := Lib.hid hm
  have HN := Lib.hid hn
  have NA := Lib.hid (show na ≤ 140737488351232 by omega)
  have NB := Lib.hid (show nb ≤ 140737488351232 by omega)
  have CA := Lib.hid hna.1
  have CB := Lib.hid hnb.1
  have ZA := Lib.hid za
  have ZB := Lib.hid zb
  have BX := Lib.hid bx
  have BY := Lib.hid by_
  clear ha hb hna hnb hk hm hx hy bx by_ hn za zb sa sb
  go_enter Tryd.func6, Tryd.ntmps6
  go_wp2_with fail
  refine (up_any hT).mono ?_
  rintro e w1 ⟨rfl, b1⟩
  have b1 : Bw w w1 := b1
  have HT := Lib.hid (hT.bw b1)
  have HX := Lib.hid (BX.out.bw b1)
  have HY := Lib.hid (BY.out.bw b1)
  clear hT BX BY
  go_wp2_with fail
  refine (cut_lit rfl HK.out NA.out CA.out ZA.out _).mono ?_
  rintro e w2 ⟨rfl, rfl⟩
  go_wp2_with fail
  refine (cut_lit rfl HM.out NB.out CB.out ZB.out _).mono ?_
  rintro e w2 ⟨rfl, rfl⟩
  clear HK HM NA NB CA CB ZA ZB
  have k3i : (k : Int) ≤ 3000 := by omega
  have m3i : (m : Int) ≤ 3000 := by omega
  go_wp2_with fail
  refine (number_i (k : Int) (by omega) (by omega) _).mono ?_
  rintro e w2 ⟨v2, rfl, o2, b2⟩
  obtain ⟨A2, c2, rfl, -, -, -⟩ := o2.rd
  rw [be8_len] at o2 ⊢
  have O2 := Lib.hid (show Own8 w2 w1.heap.size (.slice A2 8 c2) (be8 (k : Int)) from o2)
  have B2 := Lib.hid (show Bw w1 w2 from b2)
  have X2 := Lib.hid (HX.out.bw b2)
  have s2 := Below.size b2
  clear o2 b2
  go_wp2_with (at_builtin; refine wpList_cat8 _ rfl (.tmp 24) (.tmp 25) 22 rfl w1.heap.size 5 .u8 Tryd.underlying22 info8u _ _ _ rfl O2.out _ _ _ x rfl X2.out.rd (by rw [be8_len]; omega) (by omega) ?_)
  rintro v3 w3 h3 g3
  have b3 := own_below (B := w1.heap.size) (show Below w1.heap.size w1 w2 from B2.out) O2.out g3 (by omega) (Nat.le_refl _)
  have hxl := X2.out.rd.len
  have O3 := Lib.hid (show Own8 w3 w1.heap.size v3 (be8 (k : Int) ++ x) from Own8.app (be8_len _) hxl (by simpa [be8_len] using h3))
  have B3 := Lib.hid (show Bw w1 w3 from b3)
  have HXL := Lib.hid hxl
  have s3 := Below.size b3
  clear h3 g3 b3 O2 B2 X2 hxl s2
  go_wp2_with fail
  refine (number_i (m : Int) (by omega) (by omega) _).mono ?_
  rintro e w4 ⟨v4, rfl, o4, b4⟩
  obtain ⟨A4, c4, rfl, r4, -, -⟩ := o4.rd
  rw [be8_len] at r4 ⊢
  have R4 := Lib.hid r4
  have O4 := Lib.hid (O3.out.below b4)
  have B4 := Lib.hid (B3.out.trans b4)
  have s4 := Below.size B4.out
  clear o4 b4 r4 O3 B3
  go_wp2_with (at_builtin; refine wpList_cat8 _ rfl (.tmp 27) (.tmp 30) 22 rfl w1.heap.size 5 .u8 Tryd.underlying22 info8u _ _ _ rfl O4.out _ _ _ _ rfl R4.out (by rw [List.length_append, be8_len, HXL.out]; omega) (by omega) ?_)
  rintro v5 w5 h5 g5
  have b5 := own_below (B := w1.heap.size) (show Below w1.heap.size w1 w4 from B4.out) O4.out g5 (by omega) (Nat.le_refl _)
  have O5 := Lib.hid (show Own8 w5 w1.heap.size v5 (be8 (k : Int) ++ x ++ be8 (m : Int)) from Own8.app rfl (be8_len _) (by simpa using h5))
  have B5 := Lib.hid (show Bw w1 w5 from b5)
  have Y5 := Lib.hid (HY.out.bw b5)
  have hyl := Y5.out.rd.len
  have HYL := Lib.hid hyl
  have s5 := Below.size b5
  clear h5 g5 b5 O4 B4 R4 hyl
  go_wp2_with (at_builtin; refine wpList_cat8 _ rfl (.tmp 32) (.tmp 33) 22 rfl w1.heap.size 5 .u8 Tryd.underlying22 info8u _ _ _ rfl O5.out _ _ _ y rfl Y5.out.rd (by rw [List.length_append, List.length_append, be8_len, be8_len, HXL.out]; omega) (by omega) ?_)
  rintro v6 w6 h6 g6
  have b6 := own_below (B := w1.heap.size) (show Below w1.heap.size w1 w5 from B5.out) O5.out g6 (by omega) (Nat.le_refl _)
  obtain ⟨F, hF⟩ : ∃ F, fr [x, y] = F := ⟨_, rfl⟩
  have eF : be8 (k : Int) ++ x ++ be8 (m : Int) ++ y = F := by
    rw [← hF, show ([x, y] : List (List Int)) = [x] ++ [y] from rfl, fr_append, fr_one, fr_one, HXL.out, HYL.out]; simp
  have o6 : Own8 w6 w1.heap.size v6 F := by rw [← eF]; exact Own8.app rfl HYL.out (by simpa using h6)
  have hFd : Dig 256 F := by rw [← hF]; exact fr_dig (fun xs hx => by rcases List.mem_cons.1 hx with rfl | hx; exact HX.out.dig_; obtain rfl := List.mem_singleton.1 hx; exact HY.out.dig_)
  have hFl : F.length ≤ 1099511627776 := by rw [← eF]; simp only [List.length_append, be8_len, HXL.out, HYL.out]; omega
  obtain ⟨A6, c6, rfl, bs6⟩ := o6.bs hFd hFl
  obtain ⟨f, hf⟩ : ∃ f, F.length = f := ⟨_, rfl⟩
  rw [hf] at bs6 ⊢
  have B6 : Bw w1 w6 := b6
  have BF := Lib.hid bs6
  have X6 := Lib.hid (HX.out.bw B6)
  have Y6 := Lib.hid (HY.out.bw B6)
  have T6 := Lib.hid (HT.out.bw B6)
  have B06 := Lib.hid (Bw.trans b1 B6)
  obtain ⟨R, hR⟩ : ∃ R, parts [x, y] = R := ⟨_, rfl⟩
  have HR := Lib.hid (show sha F = R by rw [← hR, ← hF]; rfl)
  have HR' := Lib.hid hR
  clear h6 g6 b6 O5 B5 Y5 hF eF o6 hFd hFl hf bs6 B6 hR HX HY HT b1 s3 s4 s5
  go_wp2_with fail
  refine (parts_b2 T6.out X6.out Y6.out (by omega) (by omega) rfl).mono ?_
  rintro e w7 ⟨A7, c7, rfl, bs7, -, b7⟩
  rw [HR'.out] at bs7
  have BF7 := Lib.hid (BF.out.bw b7)
  have X7 := Lib.hid (X6.out.bw b7)
  have Y7 := Lib.hid (Y6.out.bw b7)
  have T7 := Lib.hid (T6.out.bw b7)
  have B07 := Lib.hid (B06.out.trans b7)
  have BS7 := Lib.hid bs7
  clear bs7 b7 BF X6 Y6 T6 B06 HR'
  go_upto_region 8 with fail
  obtain ⟨E, hE⟩ : ∃ E, sha [] = E := ⟨_, rfl⟩
  have HE := Lib.hid hE
  clear hE
  go_cut [56] (fun p wx => p = .bool false ∧ Bw w7 wx)
  case first =>
    --<R8
    have hW := Bw.drew w7
    have sn := str_neq
    have c0 := conv_b (BS7.out.bw hW)
    have c1 := conv_l BS7.out
    go_region_with (first
      | (go_at_call 12; (with_reducible refine (parts_r0 HE.out (T7.out.bw hW)).mono ?_); rintro e wN ⟨AN, cN, rfl, hbN, -, hN⟩; have hW := hW.trans hN; have cN0 := conv_b hbN; have cN1 := conv_l hbN; (try have h2 := Bw.trans hP hN); have hP := hN; clear hbN hN)
      | (go_at_call 9; (with_reducible refine (sha_r0 HE.out (T7.out.bw hW)).mono ?_); rintro e wN ⟨AN, cN, rfl, hbN, -, hN⟩; have hW := hW.trans hN; have cN0 := conv_b hbN; have cN1 := conv_l hbN; (try have h2 := Bw.trans hP hN); have hP := hN; clear hbN hN)
      | (go_at_call 9; (with_reducible refine (sha_r HR.out (T7.out.bw hW) (BF7.out.bw hW)).mono ?_); rintro e wN ⟨AN, cN, rfl, hbN, -, hN⟩; have hW := hW.trans hN; have cN0 := conv_b hbN; have cN1 := conv_l hbN; (try have h2 := Bw.trans hP hN); have hP := hN; clear hbN hN))
    all_goals
      go_wp2_with fail
      go_meet
      exact ⟨rfl, hW⟩
    --R8>
  case rest =>
    obtain ⟨rfl, hW⟩ := hcut
    obtain ⟨w8, rfl⟩ : ∃ w8, w8 = wc := ⟨_, rfl⟩
    have X8 := Lib.hid (X7.out.bw hW)
    have Y8 := Lib.hid (Y7.out.bw hW)
    have T8 := Lib.hid (T7.out.bw hW)
    have B08 := Lib.hid (B07.out.trans hW)
    obtain ⟨SX, hSX⟩ : ∃ SX, sha x = SX := ⟨_, rfl⟩
    have HSX := Lib.hid hSX
    have m6 : m ≤ 1000000 := by omega
    clear X7 Y7 T7 B07 BF7 BS7 HR HE hSX
    go_upto_region 10 with fail
    go_cut [71] (fun p wx => p = .bool false ∧ Bw w8 wx)
    case first =>
      --<R10
      rcases Nat.lt_or_ge 64 k with hg | hg
      · obtain ⟨R2, hR2⟩ : ∃ R2, mac x y = R2 := ⟨_, rfl⟩
        have HMR := Lib.hid hR2
        have HMS := Lib.hid (show mac SX y = R2 by rw [← hR2, ← HSX.out]; exact (mac_long (by rw [X8.out.rd.len]; exact hg)).symm)
        have hW := Bw.drew w8
        have sn := str_neq
        have tg : (64 : Int) < (k : Int) := by omega
        clear hR2
        go_region_with (first
          | (go_at_call 14; (with_reducible refine (mac_r HMR.out (T8.out.bw hW) (X8.out.bw hW) (Y8.out.bw hW) m6).mono ?_); rintro e wN ⟨AN, cN, rfl, hbN, -, hN⟩; have hW := hW.trans hN; have cN0 := conv_b hbN; have cN1 := conv_l hbN; (try have h2 := Bw.trans hP hN); have hP := hN; clear hbN hN; (try have KEY := Bs.bw KEY hP))
          | (go_at_call 14; (with_reducible refine (mac_r HMS.out (T8.out.bw hW) KEY (Y8.out.bw hW) m6).mono ?_); rintro e wN ⟨AN, cN, rfl, hbN, -, hN⟩; have hW := hW.trans hN; have cN0 := conv_b hbN; have cN1 := conv_l hbN; (try have h2 := Bw.trans hP hN); have hP := hN; clear hbN hN)
          | (go_at_call 9; (with_reducible refine (sha_r HSX.out (T8.out.bw hW) (X8.out.bw hW)).mono ?_); rintro e wN ⟨AN, cN, rfl, KEY, -, hN⟩; have hW := hW.trans hN; (try have h2 := Bw.trans hP hN); have hP := hN; clear hN))
        all_goals
          go_wp2_with fail
          go_meet
          exact ⟨rfl, hW⟩
      · have t1 : decide ((64 : Int) < (k : Int)) = false := by simp; omega
        have t2 : ¬ 64 < k := by omega
        have t3 : decide (64 < k) = false := by simp; omega
        clear hg
        go_quiet (fail)
        go_wp2_with fail
        go_meet
        exact ⟨rfl, below_drewN (Below.refl _ _) _⟩
      --R10>
    case rest =>
      obtain ⟨rfl, hW⟩ := hcut
      obtain ⟨w9, rfl⟩ : ∃ w9, w9 = wc := ⟨_, rfl⟩
      have X9 := Lib.hid (X8.out.bw hW)
      have T9 := Lib.hid (T8.out.bw hW)
      have B09 := Lib.hid (B08.out.trans hW)
      obtain ⟨N1, hN1⟩ : ∃ N1 : Int, (if n < 0 then -(n + 1) else n) = N1 := ⟨_, rfl⟩
      have HN1 := Lib.hid hN1
      clear X8 Y8 T8 B08 HSX hN1 hW
      go_upto_if 73 with fail
      go_cut [2] (fun p wx => p = .int .i64 N1 ∧ w9 = wx)
      case first =>
        --<R12
        obtain ⟨n0, n1⟩ := HN.out
        rcases Int.lt_or_le n 0 with hg | hg
        · have e := HN1.out
          rw [if_pos hg] at e
          have HE1 := Lib.hid e
          clear e
          go_wp2_with fail
          go_meet
          exact ⟨by rw [← HE1.out], rfl⟩
        · have e := HN1.out
          rw [if_neg (by omega)] at e
          have HE1 := Lib.hid e
          have t1 : decide (n < 0) = false := by simp; omega
          clear e
          go_wp2_with fail
          go_meet
          exact ⟨by rw [← HE1.out], rfl⟩
        --R12>
      case rest =>
        obtain ⟨rfl, rfl⟩ := hcut
        have n0 : 0 ≤ N1 := by
          have e := HN1.out
          split at e <;> omega
        have n1 : N1 ≤ 9223372036854775807 := by
          have e := HN1.out
          have := HN.out
          split at e <;> omega
        obtain ⟨r, hr⟩ : ∃ r : Nat, N1.tmod 5 = r := ⟨(N1.tmod 5).toNat, by rw [Int.tmod_eq_emod_of_nonneg n0]; omega⟩
        have r5 : r < 5 := by rw [Int.tmod_eq_emod_of_nonneg n0] at hr; omega
        obtain ⟨q, hq⟩ : ∃ q, 32 * r = q := ⟨_, rfl⟩
        have hqi : 32 * (r : Int) = (q : Int) := by omega
        have HQ := Lib.hid hq
        have hri : (r : Int) < 5 := by omega
        clear hq
        go_wp2_with fail
        refine (stream_l T9.out X9.out (by have := HQ.out; omega) (by omega)).mono ?_
        rintro e w10 ⟨A10, c10, rfl, bs10, b10⟩
        have X10 := Lib.hid (X9.out.bw b10)
        have T10 := Lib.hid (T9.out.bw b10)
        have B010 := Lib.hid (B09.out.trans b10)
        have BS10 := Lib.hid bs10
        clear X9 T9 B09 bs10 b10
        obtain ⟨w10', rfl⟩ : ∃ w', w' = w10 := ⟨_, rfl⟩
        clear hqi
        have hqi : 32 * (r : Int) = (q : Int) := by have := HQ.out; omega
        go_wp2_with fail
        go_loopw [12] (fun i wr => LpR r w10' i wr) (fun i _ => r - (intOf i).toNat)
        case atStart => exact ⟨0, Nat.zero_le _, rfl, Bw.refl _⟩
        case round =>
          clear hqi
          obtain ⟨j, hj, rfl, hW⟩ := hrel
          rcases Nat.lt_or_ge j r with hlt | hge
          · --<L1
            obtain ⟨PJ, hPJ⟩ : ∃ PJ, parts [x, be8 (j : Int)] = PJ := ⟨_, rfl⟩
            have hpc := strm_piece x hlt
            obtain ⟨p, hp⟩ : ∃ p, 32 * j = p := ⟨_, rfl⟩
            rw [HQ.out, hp, hPJ] at hpc
            have hpq : p + 32 ≤ q := by have := HQ.out; omega
            obtain ⟨bq, oq, rfl, -, -⟩ := BS10.out.rd.cells (by omega)
            have hcq := BS10.out.nc
            have hch := (BS10.out.bw hW).rd.piece (i := p) (m := 32) hpq
            rw [hpc] at hch
            have HCH := Lib.hid hch
            have HPJ := Lib.hid hPJ
            have hpi : 32 * (j : Int) = (p : Int) := by omega
            obtain ⟨u, hu⟩ : ∃ u, p + 32 = u := ⟨_, rfl⟩
            have hpu : (p : Int) + 32 = (u : Int) := by omega
            have hpc1 : (u : Int) ≤ (c10 : Int) := by omega
            have hpu2 : p ≤ u := by omega
            have hpu3 : u - p = 32 := by omega
            have hpc2 : ¬ c10 = p := by omega
            have wv1 : IntKind.i64.wrap (p : Int) = (p : Int) := IntWalk.i64_in _ (by have := HQ.out; omega)
            have wv2 : IntKind.i64.wrap (u : Int) = (u : Int) := IntWalk.i64_in _ (by have := HQ.out; omega)
            have hji : (j : Int) < (r : Int) := by omega
            have hj5 : (j : Int) ≤ 5 := by omega
            have p0 : (p : Int) ≤ 1000 := by have := HQ.out; omega
            have sn := str_neq
            have cv : ∀ W' c', Bw wr W' → (convert 22 9 (.slice (some ⟨bq, oq + p, none⟩) 32 c')).run Tryd.prog W' = .ok (.string (strOfNums PJ)) W' := fun W' c' hb => conv_any (HCH.out.below hb)
            have k6 : k ≤ 1000000 := by omega
            have XW := Lib.hid (X10.out.bw hW)
            have TW := Lib.hid (T10.out.bw hW)
            have HW := Lib.hid hW
            clear hpc hPJ hp hpq hcq hch hW hu
            go_wp2_with fail
            have hW : Bw wr wr.drew := Bw.drew wr
            go_region_with (first
              | (go_at_call 18; (with_reducible refine (number_b (j : Int) (by omega) (by omega) _).mono ?_); rintro e wN ⟨AN, cN, rfl, NB, -, hN⟩; have hW := hW.trans hN; have hWA : ∀ o, Bw wr (wN.alloc o) := fun o => hW.trans (Bw.alloc _ o); clear hN)
              | (go_at_call 12; (with_reducible refine (parts_r2 HPJ.out (TW.out.bw hW) (XW.out.bw hW) NB k6 (by omega) rfl).mono ?_); rintro e wM ⟨AM, cM, rfl, hbM, -, hM⟩; have hW := hW.trans hM; have cN0 := conv_b hbM; clear hbM hM))
            all_goals
              go_wp2_with fail
              go_roundw
              case rel => exact ⟨j + 1, by omega, by go_num, HW.out.trans hW⟩
              case measure => simp [intOf]; omega
            --L1>
          · --<E
            obtain rfl : j = r := by omega
            obtain ⟨w11, rfl⟩ : ∃ w11, w11 = wr := ⟨_, rfl⟩
            have X11 := Lib.hid (X10.out.bw hW)
            have T11 := Lib.hid (T10.out.bw hW)
            have B011 := Lib.hid (B010.out.trans hW)
            have hji : decide ((j : Int) < (j : Int)) = false := by simp
            clear X10 T10 B010 BS10 hW
            go_wp2_with fail
            refine (sha_b T11.out X11.out).mono ?_
            rintro e w12 ⟨A12, c12, rfl, bs12, o12, b12⟩
            obtain ⟨A12', c12', e12, mn12⟩ := mn_own (t := 5) (k := .u8) (xs := sha x) (n := 32) (show w12.ownsRow w11.heap.size 5 1 (.slice A12 32 c12) 32 ((sha x).map (Value.int .u8)) from by have := o12; unfold Own8 at this; rw [sha_len] at this; exact this)
            injection e12 with e1 e2 e3
            subst e1 e3
            have TR := Lib.hid (Trd.start mn12)
            have NW := Lib.hid mn12.new
            have X12 := Lib.hid (X11.out.bw b12)
            have T12 := Lib.hid (T11.out.bw b12)
            have HB12 := Lib.hid b12
            have s12 := Below.size b12
            clear bs12 o12 mn12 b12 X12 T12
            go_wp2_with fail
            go_loopw [14] (fun i wr' => ZrR A12 w12 i wr') (fun i _ => 32 - (intOf i).toNat)
            case atStart => exact ⟨0, Nat.zero_le _, rfl, TR.out⟩
            case round =>
              clear TR
              obtain ⟨kk, hkk, rfl, hbp⟩ := hrel
              rcases Nat.lt_or_ge kk 32 with hl2 | hg2
              · obtain ⟨g, cur, hA, hg, hc, gr⟩ := hbp.row (by omega)
                obtain ⟨z, hz⟩ := hc kk hl2
                have HST : ∀ y : Int, Trd 5 .u8 A12 32 w12 (wr.setCell ⟨g, kk, none⟩ (.int .u8 y)) := fun y => Trd.step hA hl2 hg hc gr
                have HS := Lib.hid HST
                have hcell := (cell_of_row wr g kk cur _ _ hg).trans hz
                have hfz := frozen_of_row wr g kk cur _ hg
                have hki : (kk : Int) < 32 := by omega
                clear HST hg hc gr hz hbp
                subst hA
                go_wp2_with fail
                go_roundw
                case rel => exact ⟨kk + 1, by omega, by go_num, HS.out _⟩
                case measure => simp [intOf]; omega
              · obtain rfl : kk = 32 := by omega
                have b13 : Below w12.heap.size w12 w12 := Below.refl _ _
                have hb := hbp.below (B := w11.heap.size) (a := w11) HB12.out s12 (fun z hz => NW.out z hz)
                have X13 := Lib.hid (X11.out.bw hb)
                have T13 := Lib.hid (T11.out.bw hb)
                have B013 := Lib.hid (B011.out.trans hb)
                obtain ⟨SX, hSX⟩ : ∃ SX, sha x = SX := ⟨_, rfl⟩
                have HSX := Lib.hid hSX
                have hkk : decide ((32 : Int) < 32) = false := by decide
                clear X11 T11 B011 hbp hb hSX b13
                go_wp2_with fail
                refine (sha_r HSX.out T13.out X13.out).mono ?_
                rintro e w14 ⟨A14, c14, rfl, bs14, -, b14⟩
                have X14 := Lib.hid (X13.out.bw b14)
                have T14 := Lib.hid (T13.out.bw b14)
                have B014 := Lib.hid (B013.out.trans b14)
                have BS14 := Lib.hid bs14
                clear X13 T13 B013 bs14 b14
                go_wp2_with fail
                refine (sha_r HSX.out T14.out X14.out).mono ?_
                rintro e w15 ⟨A15, c15, rfl, bs15, -, b15⟩
                have B015 := Lib.hid (B014.out.trans b15)
                have y1 := conv_b (BS14.out.bw b15)
                have y2 := conv_b bs15
                have sq := str_eql
                clear X14 T14 B014 bs15 b15
                go_wp2_with fail
                go_ret
                exact ⟨rfl, B015.out⟩
            --E>
end Go.Proofs.YtnfncaaclpddkaaDoor
