/-
  Several texts in one: Sg0, Sg1, Sl0, Sg2, Sln, Sg3, Sg4, Sg5.
-/
import Derived.Test.YtjalncdllegfoaaDoorPkg
import Derived.Deep.QuietTactic
import Derived.BigQuiet
import Derived.Test.YtjalncdllegfoaaDoorHsb
import Derived.Test.YtjalncdllegfoaaDoorMxx
import Derived.Test.YtjalncdllegfoaaDoorGro
import Derived.Test.YtjalncdllegfoaaDoorPkm
import Derived.Lib.ConvBytes
import Derived.Laws.Closers25b
import Derived.Laws.ResultCell
/-
  What the small calls of package sigma answer: limbs, same, byteCount, toBytes, fromBytes.
-/
namespace Go.Proofs.YtjalncdllegfoaaDoor
open Go.RowKit
set_option linter.unusedVariables false
/-! ### limbs -/
theorem drewN_two (w : World) (a b : Nat) : (w.drewN a).drewN b = w.drewN (a + b) := by
  simp [World.drewN, Nat.add_assoc]
/-! ### same -/
def EqsR (xs ys : List Int) (n : Nat) (w : World) (i : Value) (wr : World) : Prop := ∃ k : Nat, k ≤ n ∧ i = .int .i64 k ∧ (∀ j, j < k → dig xs j = dig ys j) ∧ ∃ q, wr = w.drewN q
theorem dg_inj {N M : Int} (h0 : 0 ≤ N) (h1 : 0 ≤ M) (h : dg W N = dg W M) : N = M := by
  rw [← val_dg W_two h0, ← val_dg W_two h1, h]
/-! ### byteCount -/
end Go.Proofs.YtjalncdllegfoaaDoor
/-
  What toBytes and fromBytes of package sigma answer.
-/
namespace Go.Proofs.YtjalncdllegfoaaDoor
open Go.RowKit
set_option linter.unusedVariables false
/-! ### toBytes -/
def TobR (N : Int) (n : Nat) (w : World) (i : Value) (wr : World) : Prop :=
  ∃ (k : Nat) (zs : List Int), k ≤ n ∧ i = .int .i64 k ∧ Row wr w.heap.size 5 .u8 zs ∧ zs.length = n ∧ (∀ j, n - k ≤ j → j < n → dig zs j = N / 256 ^ (n - 1 - j) % 256) ∧ (∀ j, j < n - k → dig zs j = 0) ∧ Below w.heap.size w wr
/-- Bytes in a block just made. -/
def TobP (N : Int) (n : Nat) (w : World) (e : Ending) (w' : World) : Prop :=
  e = .returned (.slice (some ⟨w.heap.size, 0, none⟩) n n) ∧ Row w' w.heap.size 5 .u8 (bytesL N n) ∧ Below w.heap.size w w'
theorem lt_bytes {N : Int} {n k : Nat} (h0 : 0 ≤ N) (h : N < W ^ n) (hk : 8 * n ≤ k) : N / 256 ^ k % 256 = 0 := by
  have e1 : W ^ n = 256 ^ (8 * n) := by
    rw [pow256, show 8 * n % 8 = 0 by omega, show 8 * n / 8 = n by omega]
    unfold pw; simp
  have h2 := pow_mono (b := 256) (by decide) hk
  rw [Int.ediv_eq_zero_of_lt h0 (by omega)]; rfl
/-! ### fromBytes -/
end Go.Proofs.YtjalncdllegfoaaDoor
/-
  What byteCount and toBytes of package seal answer.
-/
namespace Go.Proofs.YtjalncdllegfoaaDoor
open Go.RowKit
set_option linter.unusedVariables false
theorem bcountL_any {A : Option Addr} {c : Nat} {n : Nat} {N : Int} {w : World} (h : Cn w A n c N) (hN : 0 < N) :
    Calls Tryd.prog 38 #[.slice A n c] w fun e w' => e = .returned (.int .i64 ((nb N + 7) / 8 : Nat)) ∧ w = w' := by
  have hz : dl N ≠ 0 := fun e => by have := (dl_zero h.pos).1 e; omega
  obtain ⟨m, hm⟩ : ∃ m, dl N = m + 1 := ⟨dl N - 1, by omega⟩
  have hn := h.len_
  have hc := h.c60
  have hnb := nb_top hN hm
  obtain ⟨b, off, x, rfl, hb, hxx, hcell⟩ := h.rd.at_ (j := m) (by omega)
  have hxe := dig_lt hxx
  have hd := dig_W (dig_dg W_two h.pos) m
  rw [hxe] at hd hnb
  have hbl := Lib.bitLen_le x.toNat 64 (by omega) (by omega)
  obtain ⟨l, hl⟩ : ∃ l, Lib.bitLen x.toNat = l := ⟨_, rfl⟩
  rw [hl] at hnb hbl
  have e1 : (n : Int) - 1 = (m : Int) := by omega
  have e2 : IntKind.i64.wrap (m : Int) = (m : Int) := IntWalk.i64_in _ (by omega)
  have hmn : m < n := by omega
  have hmi : (m : Int) < (n : Int) := by omega
  have e4 : ((l : Int) + 7).tdiv 8 = (((l + 7) / 8 : Nat) : Int) := by
    rw [Int.tdiv_eq_ediv_of_nonneg (by omega)]; omega
  have e3 : 8 * (m : Int) + (((l + 7) / 8 : Nat) : Int) = (((nb N + 7) / 8 : Nat) : Int) := by omega
  have E3 := Lib.hid e3
  have HL := Lib.hid hl
  have d0 := hd.1
  have d1 := hd.2
  clear hnb hxx hxe hm hn hl e3 hz
  go_enter Tryd.func38, Tryd.ntmps38
  go_wp2_with fail
  refine (len64 x _ d0 d1).mono ?_
  rintro e w1 ⟨rfl, rfl⟩
  rw [HL.out]
  go_wp2
  go_ret
  exact ⟨by rw [← E3.out]; go_num, rfl⟩
set_option maxHeartbeats 1000000 in
theorem tobytesL_any {A : Option Addr} {n c : Nat} {N : Int} {w : World} (h : Nm w A n c N) (l : Nat) (hl : l ≤ 1024) :
    Calls Tryd.prog 41 #[.slice A n c, .int .i64 l] w (TobP N l w) := by
  have hlt := lt_dl h.pos h.dl_le
  obtain ⟨⟨xs, h1, h2, h3⟩, h4, h5, h6⟩ := id h
  have hmk := fun W => run_make8 l (C := (l : Int)) rfl (by omega) W
  obtain ⟨Z, hZ⟩ : ∃ Z : List Int, Z = List.replicate l 0 := ⟨_, rfl⟩
  rw [← hZ] at hmk
  obtain ⟨m, hm⟩ : ∃ m, min l (8 * n) = m := ⟨_, rfl⟩
  have hmin : min (l : Int) (8 * (n : Int)) = (m : Int) := by omega
  have ml : m ≤ l := by omega
  have mn : m ≤ 8 * n := by omega
  have HZ := Lib.hid hZ
  have H3 := Lib.hid h3
  have HM := Lib.hid hm
  have HLT := Lib.hid hlt
  clear hZ h3 hm hlt h
  go_enter Tryd.func41, Tryd.ntmps41
  go_wp2_with fail
  clear hmk hmin
  go_loopw [14] (fun i wr => TobR N l w i wr ∧ (intOf i).toNat ≤ m) (fun i _ => m - (intOf i).toNat)
  case atStart =>
    refine ⟨⟨0, Z, Nat.zero_le _, rfl, Row.new _ _ _ _, by rw [HZ.out]; simp, fun j h1 h2 => by omega, fun j _ => by rw [HZ.out]; exact dig_replicate _ _, (Below.refl _ _).alloc (Nat.le_refl _) _⟩, by simp [intOf]⟩
  case round =>
    obtain ⟨⟨k, zs, hk, rfl, hrow, hzl, hz, hz0, hb⟩, hkm⟩ := hrel
    have hkm : k ≤ m := by simpa [intOf] using hkm
    have HZE := Lib.hid hz
    have HZ0 := Lib.hid hz0
    have HZL := Lib.hid hzl
    clear hz hz0
    rcases Nat.lt_or_ge k m with hlt | hge
    · have hX := h1.below hb
      obtain ⟨p, hp⟩ : ∃ p, p + k + 1 = l := ⟨l - 1 - k, by omega⟩
      have e1 : (l : Int) - 1 - k = p := by omega
      have fz := hrow.frozen p
      have cz := hrow.cell (getElem?_dig (show p < zs.length by omega))
      have hpl : p < l := by omega
      have hd := dig_W h2 (k / 8)
      obtain ⟨b, off, x, rfl, hbb, hx, hcell⟩ := hX.at_ (j := k / 8) (by omega)
      have hxe := dig_lt hx
      rw [hxe] at hd
      have HXE := Lib.hid hxe
      have hne : b ≠ w.heap.size ∨ b = w.heap.size := by omega
      have HP := Lib.hid hp
      have hkn8 : k / 8 < n := by omega
      clear hzl hp hx hxe hne
      go_wp2_with fail
      go_roundw
      case rel =>
        have hps := HP.out
        refine ⟨⟨k + 1, _, by omega, by go_num, hrow.set _ _, by simpa using HZL.out, fun j j1 j2 => ?_, fun j j1 => ?_, hb.setCell (Nat.le_refl _) _⟩, by simp [intOf]; omega⟩
        · rcases Nat.lt_or_ge p j with g | g
          · rw [dig_set_ne (by omega)]; exact HZE.out j (by omega) j2
          · obtain rfl : j = p := by omega
            rw [dig_set_same (by rw [HZL.out]; exact hpl), ← H3.out, show l - 1 - j = k by omega, ← byte_split h2 k, HXE.out]
        · rw [dig_set_ne (by omega)]; exact HZ0.out j (by omega)
      case measure => simp [intOf]; omega
    · obtain rfl : k = m := by omega
      have hzs : zs = bytesL N l := ext_dig (by rw [hzl, bytesL_len]) (fun j hj => by
        have hj2 : j < l := by omega
        rw [bytesL_dig hj2]
        rcases Nat.lt_or_ge j (l - k) with g | g
        · rw [HZ0.out j g, lt_bytes h6 HLT.out (by have := HM.out; omega)]
        · exact HZE.out j g hj2)
      subst hzs
      go_wp2
      go_ret
      exact ⟨rfl, hrow, hb⟩
end Go.Proofs.YtjalncdllegfoaaDoor
/-
  What refusal and challenge of package sigma answer.
-/
namespace Go.Proofs.YtjalncdllegfoaaDoor
open Go.RowKit
set_option linter.unusedVariables false
/-! ### Lists of numbers that a call has laid out -/
def lstN (L : List Nsl) : Nat → Nsl := fun i => L.getD i ⟨none, 0, 0, 0⟩
theorem ns_lit {w : World} (L : List Nsl) (h : ∀ s ∈ L, Nm w s.A s.n s.c s.N) (hn : L.length ≤ 100) (t : TypeId) {g : Nat} (hg : w.heap.size = g) {n : Nat} (hL : L.length = n) :
    Ns (w.alloc (.cells (L.map Nsl.v).toArray t)) (some ⟨g, 0, none⟩) n n (lstN L) := by
  subst hg hL
  refine ⟨Nat.le_refl _, by omega, fun _ => ⟨w.heap.size, 0, rfl, by simp, fun i hi => ?_⟩, fun i hi => ?_⟩
  · rw [Nat.zero_add, World.cell?_alloc_at]
    · simp [lstN, hi, Nsl.v]
    · rfl
  · have e : lstN L i = L[i] := by simp [lstN, hi]
    rw [e]
    exact (h _ (List.getElem_mem hi)).below (below_al _ _)
theorem ns_lit2 {w : World} {A1 A2 : Option Addr} {n1 c1 n2 c2 : Nat} {X Y : Int} (h1 : Nm w A1 n1 c1 X) (h2 : Nm w A2 n2 c2 Y) {g : Nat} (hg : w.heap.size = g) :
    Ns (w.alloc (.cells #[.slice A1 n1 c1, .slice A2 n2 c2] 23)) (some ⟨g, 0, none⟩) 2 2 (lstN [⟨A1, n1, c1, X⟩, ⟨A2, n2, c2, Y⟩]) :=
  ns_lit [⟨A1, n1, c1, X⟩, ⟨A2, n2, c2, Y⟩] (fun s hs => by
    rcases List.mem_cons.1 hs with rfl | hs
    · exact h1
    · rw [List.mem_singleton] at hs; subst hs; exact h2) (by simp) _ hg rfl
theorem ns_lit5 {w : World} {A1 A2 A3 A4 A5 : Option Addr} {n1 c1 n2 c2 n3 c3 n4 c4 n5 c5 : Nat} {X Y Z U V : Int} (h1 : Nm w A1 n1 c1 X) (h2 : Nm w A2 n2 c2 Y) (h3 : Nm w A3 n3 c3 Z) (h4 : Nm w A4 n4 c4 U) (h5 : Nm w A5 n5 c5 V) {g : Nat} (hg : w.heap.size = g) :
    Ns (w.alloc (.cells #[.slice A1 n1 c1, .slice A2 n2 c2, .slice A3 n3 c3, .slice A4 n4 c4, .slice A5 n5 c5] 23)) (some ⟨g, 0, none⟩) 5 5 (lstN [⟨A1, n1, c1, X⟩, ⟨A2, n2, c2, Y⟩, ⟨A3, n3, c3, Z⟩, ⟨A4, n4, c4, U⟩, ⟨A5, n5, c5, V⟩]) :=
  ns_lit [⟨A1, n1, c1, X⟩, ⟨A2, n2, c2, Y⟩, ⟨A3, n3, c3, Z⟩, ⟨A4, n4, c4, U⟩, ⟨A5, n5, c5, V⟩] (fun s hs => by
    rcases List.mem_cons.1 hs with rfl | hs
    · exact h1
    rcases List.mem_cons.1 hs with rfl | hs
    · exact h2
    rcases List.mem_cons.1 hs with rfl | hs
    · exact h3
    rcases List.mem_cons.1 hs with rfl | hs
    · exact h4
    · rw [List.mem_singleton] at hs; subst hs; exact h5) (by simp) _ hg rfl
theorem one_at8 (w : World) (u : Value) (t : TypeId) : (w.alloc (.cells #[u] t)).cell? ⟨w.heap.size, 0, none⟩ = some u := by simp [World.cell?_alloc_at]
/-! ### refusal -/
set_option maxRecDepth 100000 in
theorem g8_eq (b : Nat) : ∀ w : World, (binOp .eql 26 (.pointer (some ⟨b, 0, none⟩)) (.pointer none)).run Tryd.prog w = .ok (.bool false) w := fun _ => rfl
set_option maxRecDepth 100000 in
theorem g8_eq0 : ∀ w : World, (binOp .eql 26 (.pointer none) (.pointer none)).run Tryd.prog w = .ok (.bool true) w := fun _ => rfl
def RefR (R : Nat → Nsl) (n : Nat) (w : World) (i : Value) (wr : World) : Prop := ∃ j : Nat, j ≤ n ∧ i = .int .i64 j ∧ (∀ m, m < j → dl (R m).N ≤ 64) ∧ w = wr
/-! ### The bytes of a label -/
def strB (s : ByteArray) : List Int := s.data.toList.map fun b => ((b.toNat : Nat) : Int)
theorem strB_len (s : ByteArray) : (strB s).length = s.size := by
  unfold strB; rw [List.length_map, Array.length_toList]; rfl
theorem strB_dig (s : ByteArray) : Dig 256 (strB s) := fun x hx => by
  obtain ⟨b, -, rfl⟩ := List.mem_map.1 hx
  have := b.toNat_lt
  omega
theorem conv_str (s : ByteArray) (W : World) : ∃ Wc cap, (convert 9 24 (.string s)).run Tryd.prog W = .ok (.slice (some ⟨W.heap.size, 0, none⟩) s.size cap) Wc ∧
    Bz Wc (some ⟨W.heap.size, 0, none⟩) s.size (strB s) ∧ Below W.heap.size W Wc ∧ Wc.heap.size = W.heap.size + 1 := by
  refine ⟨_, _, Lib.run_convert_string_bytes W 9 24 5 s Tryd.underlying9 Tryd.underlying24 Tryd.underlying5, ⟨⟨strB_len s, fun hn => ⟨W.heap.size, 0, rfl, by rw [Lib.bytesWorld_size]; omega, fun j x hx => ?_⟩⟩, strB_dig s⟩, ?_, Lib.bytesWorld_size _ _ _⟩
  · have hj : j < s.size := by
      have := (List.getElem?_eq_some_iff.1 hx).1
      rwa [strB_len] at this
    rw [Nat.zero_add, Lib.bytesWorld_cell W _ s j hj]
    simp only [strB, List.getElem?_map] at hx
    cases hq : s.data.toList[j]? with
    | none => rw [hq] at hx; cases hx
    | some b =>
      rw [hq] at hx
      injection hx with hx
      rw [List.getD_eq_getElem?_getD, hq, ← hx]
      rfl
  · exact ⟨rfl, rfl, rfl, by rw [Lib.bytesWorld_size]; omega, fun j hj => Lib.bytesWorld_at_old W _ s j hj⟩
/-! ### A list of slices of bytes, laid out -/
def twoB (A1 : Option Addr) (c1 : Nat) (xs : List Int) (A2 : Option Addr) (c2 : Nat) (ys : List Int) : Nat → Bsl := fun i => if i = 0 then ⟨A1, c1, xs⟩ else ⟨A2, c2, ys⟩
theorem owg_two {w : World} {base : Nat} {A1 A2 : Option Addr} {n1 c1 n2 c2 : Nat} {xs ys : List Int} (h1 : Bz w A1 n1 xs) (h2 : Bz w A2 n2 ys) (hb : base ≤ w.heap.size) :
    Owg kBy 24 (w.alloc (.cells #[.slice A1 n1 c1, .slice A2 n2 c2] 24)) base (.slice (some ⟨w.heap.size, 0, none⟩) 2 2) 2 (twoB A1 c1 xs A2 c2 ys) := by
  have l1 := h1.rd.len
  have l2 := h2.rd.len
  have key : ∀ i, i < 2 → kBy.At w (twoB A1 c1 xs A2 c2 ys i) := fun i hi => by
    rcases (show i = 0 ∨ i = 1 by omega) with rfl | rfl
    · show Bz w A1 xs.length xs; rw [l1]; exact h1
    · show Bz w A2 ys.length ys; rw [l2]; exact h2
  refine ⟨⟨by simp [owgC], .inr ⟨w.heap.size, 2, #[.slice A1 n1 c1, .slice A2 n2 c2], rfl, hb, heap_alloc_new _ _, Nat.le_refl _, by decide, rfl, ?_⟩⟩, fun i hi => kBy.stay (key i hi) (by simp) fun b hb' => heap_alloc_old _ _ (kBy.lt (key i hi) hb'), fun i hi b hb' e => ?_⟩
  · rw [← l1, ← l2]; rfl
  · have h3 := kBy.lt (key i hi) hb'
    have e3 : w.heap.size = b := by injection e
    omega
/-! ### challenge -/
/-- The parts of a challenge. -/
def chP (P : Int) (lab ctx : List Int) (E : Nat → Int) (n : Nat) : List (List Int) := lab :: ctx :: (List.range n).map fun i => bytesL (E i) ((nb P + 7) / 8)
/-- A challenge. -/
def chl (P Q : Int) (lab ctx : List Int) (E : Nat → Int) (n : Nat) : Int := low (parts (chP P lab ctx E n)) 32 32 % Q
theorem fr_bd {m : Nat} {L : List (List Int)} (h : ∀ xs ∈ L, xs.length ≤ m) : (fr L).length ≤ (m + 8) * L.length := by
  induction L with
  | nil => simp [fr]
  | cons x l ih =>
    have h1 := ih fun xs hx => h xs (List.mem_cons_of_mem _ hx)
    have h2 := h x List.mem_cons_self
    rw [show x :: l = [x] ++ l from rfl, fr_append, fr_one]
    simp only [List.length_append, be8_len, List.length_cons, List.length_nil, Nat.zero_add]
    rw [Nat.mul_add]
    omega
theorem chP_len {P : Int} {lab ctx : List Int} {E : Nat → Int} {n : Nat} (h1 : lab.length ≤ 100) (h2 : nb P ≤ 4096) (hn : n ≤ 16) : (fr (chP P lab ctx E n)).length ≤ ctx.length + 10000 := by
  unfold chP
  rw [show ∀ l : List (List Int), lab :: ctx :: l = [lab] ++ ([ctx] ++ l) from fun l => rfl, fr_append, fr_append, fr_one, fr_one]
  simp only [List.length_append, be8_len]
  have h3 := fr_bd (m := 512) (L := (List.range n).map fun i => bytesL (E i) ((nb P + 7) / 8)) (fun xs hx => by
    obtain ⟨i, -, rfl⟩ := List.mem_map.1 hx
    rw [bytesL_len]; omega)
  rw [List.length_map, List.length_range] at h3
  omega
theorem bytesL_d {N : Int} {n : Nat} : Dig 256 (bytesL N n) := fun x hx => by
  obtain ⟨j, -, rfl⟩ := List.mem_map.1 hx
  omega
theorem chP_dig {P : Int} {lab ctx : List Int} {E : Nat → Int} {n : Nat} (h1 : Dig 256 lab) (h2 : Dig 256 ctx) : ∀ xs ∈ chP P lab ctx E n, Dig 256 xs := fun xs hx => by
  rcases List.mem_cons.1 hx with rfl | hx
  · exact h1
  rcases List.mem_cons.1 hx with rfl | hx
  · exact h2
  obtain ⟨i, -, rfl⟩ := List.mem_map.1 hx
  exact bytesL_d
theorem parts_l (L : List (List Int)) : (parts L).length = 32 := sha_len _
theorem parts_d (L : List (List Int)) : Dig 256 (parts L) := sha_dig _
/-- The parts, while they grow. -/
def ChR (P : Int) (lab ctx : List Int) (E : Nat → Int) (n : Nat) (w : World) (v i : Value) (wr : World) : Prop :=
  ∃ (j : Nat) (S : Nat → Bsl), j ≤ n ∧ i = .int .i64 j ∧ Owg kBy 24 wr w.heap.size v (j + 2) S ∧ (S 0).xs = lab ∧ (S 1).xs = ctx ∧ (∀ p, p < j → (S (p + 2)).xs = bytesL (E p) ((nb P + 7) / 8)) ∧ Below w.heap.size w wr
theorem chR_parts {P : Int} {lab ctx : List Int} {E : Nat → Int} {n : Nat} {S : Nat → Bsl} (h0 : (S 0).xs = lab) (h1 : (S 1).xs = ctx) (h2 : ∀ p, p < n → (S (p + 2)).xs = bytesL (E p) ((nb P + 7) / 8)) :
    ((List.range (n + 2)).map fun i => (S i).xs) = chP P lab ctx E n := by
  unfold chP
  rw [List.range_succ_eq_map, List.range_succ_eq_map]
  simp only [List.map_cons, List.map_map]
  rw [h0]
  congr 1
  rw [show (S (Nat.succ 0)).xs = (S 1).xs from rfl, h1]
  congr 1
  exact List.map_congr_left fun i hi => h2 i (List.mem_range.1 hi)
theorem info8by : (Tryd.prog.info? 24).map (fun i => (i.zero, i.size, i.bytes)) = some (some (.slice none 0 0), 1, 24) := by kernel_rfl
end Go.Proofs.YtjalncdllegfoaaDoor
/-
  What is sealed, in numbers: bytes xored with a stream, the keys, the tag; both ways of coming to the shared element.
-/
namespace Go.Proofs.YtjalncdllegfoaaDoor
open Go.RowKit
set_option linter.unusedVariables false
/-! ### One byte -/
theorem xor8_nat (a b : Nat) (ha : a < 256) (hb : b < 256) : bits .xor .u8 (a : Int) (b : Int) = ((a ^^^ b : Nat) : Int) := by
  have hx : a ^^^ b < 2 ^ 8 := Nat.xor_lt_two_pow (by omega) (by omega)
  have h1 : (BitVec.ofInt 8 (a : Int)).toNat = a := by
    rw [BitVec.ofInt_natCast, BitVec.toNat_ofNat]; exact Nat.mod_eq_of_lt (by omega)
  have h2 : (BitVec.ofInt 8 (b : Int)).toNat = b := by
    rw [BitVec.ofInt_natCast, BitVec.toNat_ofNat]; exact Nat.mod_eq_of_lt (by omega)
  show IntKind.u8.wrap ((BitVec.ofInt 8 (a : Int) ^^^ BitVec.ofInt 8 (b : Int)).toNat : Int) = _
  rw [BitVec.toNat_xor, h1, h2, IntKind.wrap_u8]
  omega
theorem xor8_comm {a b : Int} (ha : 0 ≤ a ∧ a < 256) (hb : 0 ≤ b ∧ b < 256) : bits .xor .u8 a b = bits .xor .u8 b a := by
  obtain ⟨x, rfl⟩ := Int.eq_ofNat_of_zero_le ha.1
  obtain ⟨y, rfl⟩ := Int.eq_ofNat_of_zero_le hb.1
  rw [xor8_nat x y (by omega) (by omega), xor8_nat y x (by omega) (by omega), Nat.xor_comm]
theorem xor8_bd (a b : Int) : 0 ≤ bits .xor .u8 a b ∧ bits .xor .u8 a b < 256 := by
  have h1 := bits_lo_u8 .xor a b
  have h2 := bits_hi_u8 .xor a b
  omega
theorem xor8_back {a b : Int} (ha : 0 ≤ a ∧ a < 256) (hb : 0 ≤ b ∧ b < 256) : bits .xor .u8 (bits .xor .u8 a b) b = a := by
  obtain ⟨x, rfl⟩ := Int.eq_ofNat_of_zero_le ha.1
  obtain ⟨y, rfl⟩ := Int.eq_ofNat_of_zero_le hb.1
  have hx : x ^^^ y < 2 ^ 8 := Nat.xor_lt_two_pow (by omega) (by omega)
  rw [xor8_nat x y (by omega) (by omega), xor8_nat _ y (by omega) (by omega), Nat.xor_assoc, Nat.xor_self, Nat.xor_zero]
theorem xor8_zero {a : Int} (ha : 0 ≤ a ∧ a < 256) : bits .xor .u8 a 0 = a := by
  obtain ⟨x, rfl⟩ := Int.eq_ofNat_of_zero_le ha.1
  have := xor8_nat x 0 (by omega) (by omega)
  rw [Nat.xor_zero] at this
  exact this
/-- What leaves a byte as it is is 0. -/
theorem xor8_ne {a b : Int} (ha : 0 ≤ a ∧ a < 256) (hb : 0 ≤ b ∧ b < 256) (h : bits .xor .u8 a b = a) : b = 0 := by
  have h1 : bits .xor .u8 (bits .xor .u8 b a) a = b := xor8_back hb ha
  rw [xor8_comm hb ha, h] at h1
  have h2 : bits .xor .u8 (bits .xor .u8 0 a) a = 0 := xor8_back ⟨by decide, by decide⟩ ha
  rw [xor8_comm (a := 0) ⟨by decide, by decide⟩ ha, xor8_zero ha] at h2
  omega
/-! ### Bytes -/
/-- Bytes xored with a row that is as long, or longer. -/
def xorB (b z : List Int) : List Int := (List.range b.length).map fun i => bits .xor .u8 (dig b i) (dig z i)
theorem xorB_len (b z : List Int) : (xorB b z).length = b.length := by simp [xorB]
theorem xorB_at {b z : List Int} {j : Nat} (h : j < b.length) : dig (xorB b z) j = bits .xor .u8 (dig b j) (dig z j) := by
  refine dig_lt ?_
  unfold xorB
  rw [List.getElem?_map, List.getElem?_range h]; rfl
theorem xorB_dig (b z : List Int) : Dig 256 (xorB b z) := fun x hx => by
  obtain ⟨j, -, rfl⟩ := List.mem_map.1 hx
  exact xor8_bd _ _
theorem d8_bd {b : List Int} (h : Dig 256 b) (j : Nat) : 0 ≤ dig b j ∧ dig b j < 256 := dig_bd (b := 256) (by decide) h j
theorem xorB_back {b z : List Int} (hb : Dig 256 b) (hz : Dig 256 z) : xorB (xorB b z) z = b := by
  refine ext_dig (by rw [xorB_len, xorB_len]) fun j hj => ?_
  rw [xorB_len, xorB_len] at hj
  rw [xorB_at (by rw [xorB_len]; exact hj), xorB_at hj, xor8_back (d8_bd hb j) (d8_bd hz j)]
theorem stream_dig (k : List Int) (n : Nat) : Dig 256 (stream k n) := fun x hx => strm_dig k _ x (List.mem_of_mem_take hx)
/-! ### The keys of a letter -/
def sealL : List Int := strB (ByteArray.mk #[115, 101, 97, 108])
def hideL : List Int := strB (ByteArray.mk #[104, 105, 100, 101])
def tagL : List Int := strB (ByteArray.mk #[116, 97, 103])
/-- What both keys are made of. -/
def slK (P K R : Int) : List Int := parts [sealL, bytesL K ((nb P + 7) / 8), bytesL R ((nb P + 7) / 8)]
def slH (P K R : Int) : List Int := parts [hideL, slK P K R]
def slT (P K R : Int) : List Int := parts [tagL, slK P K R]
theorem slK_len (P K R : Int) : (slK P K R).length = 32 := sha_len _
theorem slH_len (P K R : Int) : (slH P K R).length = 32 := sha_len _
theorem slT_len (P K R : Int) : (slT P K R).length = 32 := sha_len _
theorem slK_dig (P K R : Int) : Dig 256 (slK P K R) := sha_dig _
theorem slH_dig (P K R : Int) : Dig 256 (slH P K R) := sha_dig _
theorem slT_dig (P K R : Int) : Dig 256 (slT P K R) := sha_dig _
/-- Bytes, hidden or opened. -/
def slX (P K R : Int) (b : List Int) : List Int := xorB b (stream (slH P K R) b.length)
theorem slX_len (P K R : Int) (b : List Int) : (slX P K R b).length = b.length := xorB_len _ _
theorem slX_dig (P K R : Int) (b : List Int) : Dig 256 (slX P K R b) := xorB_dig _ _
theorem slX_back {P K R : Int} {b : List Int} (hb : Dig 256 b) : slX P K R (slX P K R b) = b := by
  unfold slX
  rw [xorB_len]
  exact xorB_back hb (stream_dig _ _)
/-- The tag of hidden bytes. -/
def slG (P K R : Int) (b : List Int) : List Int := mac (slT P K R) b
theorem slG_len (P K R : Int) (b : List Int) : (slG P K R b).length = 32 := sha_len _
theorem slG_dig (P K R : Int) (b : List Int) : Dig 256 (slG P K R b) := sha_dig _
/-! ### The element that both agree on -/
theorem agree {P Q G S R : Int} (hP : 2 ≤ P) (hQ : 1 ≤ Q) (h : El P Q G) (s0 : 0 ≤ S) (r0 : 0 ≤ R) : gx P Q (gx P Q G R) S = gx P Q (gx P Q G S) R := by
  rw [gx_gx hP hQ h r0 s0, gx_gx hP hQ h s0 r0, Int.mul_comm]
end Go.Proofs.YtjalncdllegfoaaDoor
/-
  What begun, powers, answered and verdict of package sigma answer.
-/
namespace Go.Proofs.YtjalncdllegfoaaDoor
open Go.RowKit
set_option linter.unusedVariables false
/-- Nothing that was there has turned. -/
def B8 (W W' : World) : Prop := Below W.heap.size W W'
section
variable {a b c w w' : World}
theorem B8.refl (w : World) : B8 w w := Below.refl _ _
theorem B8.trans (h : B8 a b) (k : B8 b c) : B8 a c := Below.trans h (Below.mono k h.size)
theorem B8.alloc (w : World) (o : Obj) : B8 w (w.alloc o) := below_al w o
theorem B8.drew (w : World) : B8 w w.drew := below_dr w
theorem B8.drewN (w : World) (q : Nat) : B8 w (w.drewN q) := below_drewN (Below.refl _ _) q
theorem B8.sz (h : B8 a b) : a.heap.size ≤ b.heap.size := Below.size h
theorem B8.gr0 (hb : B8 w w') {g : Nat} {d : Gd} (h : Gr0 w g d) : Gr0 w' g d := h.below hb
theorem B8.gr (hb : B8 w w') {g : Nat} {d : Gd} (h : Gr w g d) : Gr w' g d := h.below hb
theorem B8.nm (hb : B8 w w') {A : Option Addr} {n c : Nat} {N : Int} (h : Nm w A n c N) : Nm w' A n c N := h.below hb
theorem B8.cn (hb : B8 w w') {A : Option Addr} {n c : Nat} {N : Int} (h : Cn w A n c N) : Cn w' A n c N := h.below hb
theorem B8.bz (hb : B8 w w') {A : Option Addr} {n : Nat} {xs : List Int} (h : Bz w A n xs) : Bz w' A n xs := h.below hb
theorem B8.ns (hb : B8 w w') {A : Option Addr} {n c : Nat} {S : Nat → Nsl} (h : Ns w A n c S) : Ns w' A n c S := h.below hb
theorem B8.tabs (hb : B8 w w') (h : Tabs w) : Tabs w' := h.below hb
theorem B8.cell (hb : B8 w w') {g o : Nat} (hg : g < w.heap.size) : w'.cell? ⟨g, o, none⟩ = w.cell? ⟨g, o, none⟩ := Below.cell hb (p := ⟨g, o, none⟩) hg
theorem B8.row (hb : B8 w w') {g : Nat} (hg : g < w.heap.size) : w'.heap[g]? = w.heap[g]? := Below.block hb g hg
end
theorem Cn.d64 {w : World} {A : Option Addr} {n c : Nat} {N M : Int} (h : Cn w A n c N) (hq : N < M) (hM : dl M ≤ 64) : dl N ≤ 64 := by
  have := dl_mono h.pos (Int.le_of_lt hq)
  omega
theorem gx_pow {P Q a s : Int} (hP : 2 ≤ P) (hQ : 1 ≤ Q) (h : El P Q a) (hs : 0 ≤ s) : a ^ s.toNat % P = gx P Q a s := by
  have h1 := (gx_eqm hP hQ h hs).emod
  have h2 : gx P Q a s % P = gx P Q a s := by unfold gx; exact Int.emod_emod_of_dvd _ (Int.dvd_refl P)
  rw [← h1, h2]
set_option maxRecDepth 100000 in
theorem ne_err8 (c : Int) : ∀ w : World, (binOp .neq 28 (.iface 43 (.int .i64 c)) .nilIface).run Tryd.prog w = .ok (.bool true) w := fun _ => rfl
set_option maxRecDepth 100000 in
theorem ne_nil8 : ∀ w : World, (binOp .neq 28 .nilIface .nilIface).run Tryd.prog w = .ok (.bool false) w := fun _ => rfl
/-! ### A proof in memory -/
theorem two_row {w : World} {g : Nat} {t : TypeId} {a b x y : Value} (hg : w.heap[g]? = some (.cells #[a, b] t (0, 0))) :
    ((w.setCell ⟨g, 0, none⟩ x).setCell ⟨g, 1, none⟩ y).heap[g]? = some (.cells #[x, y] t (0, 0)) := by
  have h1 := heap_setCell_same w g 0 _ _ x hg
  exact heap_setCell_same _ g 1 _ _ y h1
theorem Cn.far8 {w : World} {A : Option Addr} {n c g i : Nat} {N : Int} (h : Cn w A n c N) (hA : ∀ a, A = some a → 0 < n → a.block ≠ g) (v : Value) : Cn (w.setCell ⟨g, i, none⟩ v) A n c N :=
  ⟨⟨h.rd.len, fun hn => by
    obtain ⟨b, off, e, hb, hc⟩ := h.rd.cells hn
    have hne : b ≠ g := hA _ e hn
    exact ⟨b, off, e, by simpa using hb, fun j x hj => (World.cell?_of_block (heap_setCell_other w ⟨g, i, none⟩ b v hne)).trans (hc j x hj)⟩⟩, h.nc, h.c60, h.pos⟩
theorem results_pf {fn : Func} {p u : Tmp} {ty : TypeId} (h : fn.results = #[.cell p ty, .tmp u]) (tmps : Array Value) (P : Program) (w : World) (g : Nat) (cs : Array Value)
    (hp : tmps.getD p undef = .pointer (some ⟨g, 0, none⟩)) (hl : (loadVar ty ⟨g, 0, none⟩).run P w = .ok (.agg cs) w) {v : Value} (hv : tmps.getD u undef = v) :
    (results fn tmps).run P w = .ok (.tuple #[.agg cs, v]) w := by
  rw [results_cell_tmp h, hp, hv]
  simp [asAddr, hl, Result.andThen]
/-- A proof was answered, in new memory. -/
def PrfA (E Z : Int) (w : World) (e : Ending) (w' : World) : Prop :=
  ∃ A1 n1 c1 A2 n2 c2, e = .returned (.tuple #[.agg #[.slice A1 n1 c1, .slice A2 n2 c2], .nilIface]) ∧ Cn w' A1 n1 c1 E ∧ Cn w' A2 n2 c2 Z ∧ B8 w w' ∧ (∀ a, A1 = some a → w.heap.size ≤ a.block) ∧ ∀ a, A2 = some a → w.heap.size ≤ a.block
/-- None was, and why. -/
def PrfE (code : Int) (w : World) (e : Ending) (w' : World) : Prop :=
  e = .returned (.tuple #[.agg #[.slice none 0 0, .slice none 0 0], .iface 43 (.int .i64 code)]) ∧ B8 w w'
/-- What lies behind the stores into the answer's own cells. -/
theorem B8.set2 {w w' : World} (h : B8 w w') {g : Nat} (hg : w.heap.size ≤ g) (x y : Value) : B8 w ((w'.setCell ⟨g, 0, none⟩ x).setCell ⟨g, 1, none⟩ y) :=
  Below.setCell (Below.setCell h hg x) hg y
theorem Cn.set2 {w : World} {A : Option Addr} {n c g : Nat} {N : Int} (h : Cn w A n c N) (hA : ∀ a, A = some a → 0 < n → a.block ≠ g) (x y : Value) : Cn ((w.setCell ⟨g, 0, none⟩ x).setCell ⟨g, 1, none⟩ y) A n c N :=
  (h.far8 hA x).far8 hA y
section
variable {w : World} {b : Nat} {d : Gd} {A A' Ae Az : Option Addr} {n c n' c' ne ce nz cz : Nat} {X Y E Z S K : Int}
/-! ### verdict -/
/-! ### answered -/
end
end Go.Proofs.YtjalncdllegfoaaDoor
/-
  What powers and begun of package sigma answer.
-/
namespace Go.Proofs.YtjalncdllegfoaaDoor
open Go.RowKit
set_option linter.unusedVariables false
section
variable {w : World} {b : Nat} {d : Gd} {A A' Ae Az : Option Addr} {n c n' c' ne ce nz cz : Nat} {X Y E Z S K : Int}
theorem gx_base (h : Gr w b d) (hs : Nm w A n c S) (lS : dl S ≤ 64) : Calls Tryd.prog 7 #[.pointer (some ⟨b, 0, none⟩), .slice A n c] w (Ans (gx d.P d.Q d.G S) w) := by
  have e := gx_pow h.safe.p2 h.safe.q1 h.el hs.pos
  rw [← e]
  exact gbase_any h hs lS
theorem gx_exp (h : Gr0 w b d) (ha : Nm w A n c X) (hs : Nm w A' n' c' S) (hx : El d.P d.Q X) (lS : dl S ≤ 64) : Calls Tryd.prog 19 #[.pointer (some ⟨b, 0, none⟩), .slice A n c, .slice A' n' c'] w (Ans (gx d.P d.Q X S) w) := by
  have e := gx_pow h.safe.p2 h.safe.q1 hx hs.pos
  rw [← e]
  exact gexp_any h ha hs hx lS
/-! ### powers -/
/-! ### begun -/
end
end Go.Proofs.YtjalncdllegfoaaDoor
/-
  What proveOne, Know, Sign and Equal of package sigma answer.
-/
namespace Go.Proofs.YtjalncdllegfoaaDoor
open Go.RowKit
set_option linter.unusedVariables false
/-- Numbers in a row. -/
def lsI (L : List Int) : Nat → Int := fun i => L.getD i 0
theorem chl_congr {P Q : Int} {lab ctx : List Int} {E F : Nat → Int} {n : Nat} (h : ∀ i, i < n → E i = F i) : chl P Q lab ctx E n = chl P Q lab ctx F n := by
  unfold chl chP
  rw [List.map_congr_left fun i hi => by rw [h i (List.mem_range.1 hi)]]
theorem lst_ls (L : List Nsl) (i : Nat) (h : i < L.length) : (lstN L i).N = lsI (L.map (·.N)) i := by
  simp [lstN, lsI, h]
theorem chl_nn {P Q : Int} (hQ : 0 < Q) {lab ctx : List Int} {E : Nat → Int} {n : Nat} : 0 ≤ chl P Q lab ctx E n ∧ chl P Q lab ctx E n < Q := ⟨Int.emod_nonneg _ (by omega), Int.emod_lt_of_pos _ hQ⟩
/-- The challenge of a proof that a scalar is known. -/
def knE (P Q G : Int) (lab ctx : List Int) (S K : Int) : Int := chl P Q lab ctx (lsI [gx P Q G S, gx P Q G K]) 2
def lbE : ByteArray := ⟨#[101, 113, 117, 97, 108]⟩
def lbK : ByteArray := ⟨#[107, 110, 111, 119]⟩
def lbS : ByteArray := ⟨#[115, 105, 103, 110]⟩
def eqE (P Q G : Int) (ctx : List Int) (a S K : Int) : Int := chl P Q (strB lbE) ctx (lsI [gx P Q G S, a, gx P Q a S, gx P Q G K, gx P Q a K]) 5
section
variable {w : World} {b : Nat} {d : Gd} {A A' Ac Ak : Option Addr} {n c n' c' nc cc nk ck : Nat} {X Y S K : Int} {ctx : List Int}
end
end Go.Proofs.YtjalncdllegfoaaDoor
