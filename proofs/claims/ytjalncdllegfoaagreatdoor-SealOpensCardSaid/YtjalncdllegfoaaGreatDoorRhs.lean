/-
  Several texts in one: Hex, Shx, Up5, Fit0, Rst.
-/
import Derived.Test.YtjalncdllegfoaaGreatDoorHsc
import Derived.Test.YtjalncdllegfoaaGreatDoorRhp
import Derived.Deep.QuietTactic
import Derived.BigQuiet
import Derived.Laws.Strings2
import Derived.Test.YtjalncdllegfoaaGreatDoorHsa
import Derived.Test.YtjalncdllegfoaaGreatDoorPkf
import Derived.Lib.SmallJoins
import Derived.Deep.RegionWith
import Derived.Test.YtjalncdllegfoaaGreatDoorRhr
import Derived.Deep.RegionLaw
/-
  What the law's hex, cut and number answer.
-/
namespace Go.Proofs.YtjalncdllegfoaaGreatDoor
open Go.RowKit
set_option linter.unusedVariables false
def hd (x : Int) : Int := if x < 10 then 48 + x else 87 + x
/-- Bytes by their digits. -/
def hexL (l : List Int) : List Int := l.flatMap fun b => [hd (b / 16), hd (b % 16)]
theorem hexL_snoc (l : List Int) (b : Int) : hexL (l ++ [b]) = hexL l ++ [hd (b / 16), hd (b % 16)] := by simp [hexL]
theorem hexL_len (l : List Int) : (hexL l).length = 2 * l.length := by
  induction l with
  | nil => rfl
  | cons x l ih => simp only [hexL, List.flatMap_cons, List.length_append, List.length_cons, List.length_nil] at ih ⊢; omega
theorem strOfNums_append (a b : List Int) : strOfNums (a ++ b) = strOfNums a ++ strOfNums b := by
  apply ByteArray.ext
  simp [strOfNums]
def hexS (l : List Int) : ByteArray := strOfNums (hexL l)
def digs : ByteArray := ⟨#[48, 49, 50, 51, 52, 53, 54, 55, 56, 57, 97, 98, 99, 100, 101, 102]⟩
theorem digs_hd {i : Nat} (h : i < 16) : (ByteArray.mk #[48, 49, 50, 51, 52, 53, 54, 55, 56, 57, 97, 98, 99, 100, 101, 102]).extract i (i + 1) = strOfNums [hd (i : Int)] := by
  have h : ∀ i, i < 16 → (ByteArray.mk #[48, 49, 50, 51, 52, 53, 54, 55, 56, 57, 97, 98, 99, 100, 101, 102]).extract i (i + 1) = strOfNums [hd (i : Int)] := by decide +kernel
  exact h i ‹_›
theorem slice_digs {i : Nat} (h : i < 16) (w : World) : (Instr.slice 9 (.string ⟨#[48, 49, 50, 51, 52, 53, 54, 55, 56, 57, 97, 98, 99, 100, 101, 102]⟩) (some (.int .u8 (i : Int))) (some (.int .u8 ((i : Int) + 1))) none).run Tryz.prog w = .ok (.string (strOfNums [hd (i : Int)])) w := by
  have h1 : (ByteArray.mk #[48, 49, 50, 51, 52, 53, 54, 55, 56, 57, 97, 98, 99, 100, 101, 102]).size = 16 := rfl
  rw [run_slice_string w 9 _ .u8 .u8 (i : Int) ((i : Int) + 1) Tryz.underlying9 (by omega) (by omega) (by rw [h1]; omega)]
  rw [show ((i : Int) + 1).toNat = i + 1 by omega, show ((i : Int)).toNat = i by omega, digs_hd h]
def HxR (l : List Int) (w : World) (s i : Value) (wr : World) : Prop := ∃ k : Nat, k ≤ l.length ∧ i = .int .i64 k ∧ s = .string (hexS (l.take k)) ∧ Below w.heap.size w wr
theorem Bs.take_ {w : World} {A : Option Addr} {n c : Nat} {l : List Int} (h : Bs w A n c l) (m : Nat) : Bs w A (min n m) c (l.take (min n m)) :=
  ⟨h.rd.take (Nat.min_le_left _ _), h.dig_.take _, Nat.le_trans (Nat.min_le_left _ _) h.nc, Nat.le_trans (Nat.min_le_left _ _) h.c47, h.none_, h.plain⟩
end Go.Proofs.YtjalncdllegfoaaGreatDoor
/-
  The digests of the document's examples, reckoned.
-/
namespace Go.Proofs.YtjalncdllegfoaaGreatDoor
set_option linter.unusedVariables false
section
variable {α : Type}
/-- f of x, with x reckoned first. -/
def frc (x : Int) (f : Int → α) : α :=
  match x with
  | .ofNat n => Nat.rec (motive := fun _ => α) (f (.ofNat 0)) (fun m _ => f (.ofNat (Nat.succ m))) n
  | .negSucc n => f (.negSucc n)
theorem frc_eq (x : Int) (f : Int → α) : frc x f = f x := by
  match x with
  | .ofNat 0 => rfl
  | .ofNat (n + 1) => rfl
  | .negSucc n => rfl
/-- The list, reckoned and turned round. -/
def evL : List Int → List Int → (List Int → α) → α
  | [], acc, C => C acc
  | x :: l, acc, C => frc x fun x => evL l (x :: acc) C
theorem evL_eq (C : List Int → α) : ∀ l acc, evL l acc C = C (l.reverse ++ acc)
  | [], acc => rfl
  | x :: l, acc => by simp only [evL, frc_eq, evL_eq C l, List.reverse_cons, List.append_assoc, List.singleton_append]
def evX : Nat → List Int → (List Int → α) → α
  | 0, l, C => C l
  | n + 1, l, C => frc (ad (ad (ad (dig l 15) (sg0 (dig l 14))) (dig l 6)) (sg1 (dig l 1))) fun x => evX n (x :: l) C
theorem dig_rev {m : List Int} {i : Nat} (h : i < m.length) : dig m.reverse i = dig m (m.length - 1 - i) := by
  unfold dig
  rw [List.getD_eq_getElem?_getD, List.getD_eq_getElem?_getD, List.getElem?_reverse h]
theorem nxt_rev {m : List Int} (h : 16 ≤ m.length) : nxt m = ad (ad (ad (dig m.reverse 15) (sg0 (dig m.reverse 14))) (dig m.reverse 6)) (sg1 (dig m.reverse 1)) := by
  rw [dig_rev (by omega), dig_rev (by omega), dig_rev (by omega), dig_rev (by omega)]
  unfold nxt
  rw [show m.length - 1 - 15 = m.length - 16 by omega, show m.length - 1 - 14 = m.length - 15 by omega, show m.length - 1 - 6 = m.length - 7 by omega, show m.length - 1 - 1 = m.length - 2 by omega]
theorem ext_snoc (m : List Int) : ∀ n, ext m (n + 1) = ext (m ++ [nxt m]) n
  | 0 => rfl
  | n + 1 => by
    show ext m (n + 1) ++ [nxt (ext m (n + 1))] = ext (m ++ [nxt m]) n ++ [nxt (ext (m ++ [nxt m]) n)]
    rw [ext_snoc m n]
theorem evX_eq (C : List Int → α) : ∀ n (m : List Int), 16 ≤ m.length → evX n m.reverse C = C (ext m n).reverse
  | 0, m, h => rfl
  | n + 1, m, h => by
    show frc _ (fun x => evX n (x :: m.reverse) C) = _
    rw [frc_eq, ← nxt_rev h, ext_snoc, ← evX_eq C n (m ++ [nxt m]) (by simp; omega)]
    simp
def evR : List Int → List Int → St → (St → α) → α
  | k :: K, m :: M, s, C => frc (t1f k m s) fun t => frc (ad t (t2f s)) fun x => frc (ad s.d t) fun y => evR K M ⟨x, s.a, s.b, s.c, y, s.e, s.f, s.g⟩ C
  | _, _, s, C => C s
theorem rnds_cons (k m : Int) (K M : List Int) (s : St) : ∀ n, rnds (k :: K) (m :: M) s (n + 1) = rnds K M (rnd k m s) n
  | 0 => rfl
  | n + 1 => by
    show rnd (dig (k :: K) (n + 1)) (dig (m :: M) (n + 1)) (rnds (k :: K) (m :: M) s (n + 1)) = rnd (dig K n) (dig M n) (rnds K M (rnd k m s) n)
    rw [rnds_cons k m K M s n]
    rfl
theorem evR_eq (C : St → α) : ∀ (K M : List Int) (s : St), K.length = M.length → evR K M s C = C (rnds K M s K.length)
  | [], M, s, h => rfl
  | k :: K, [], s, h => by cases h
  | k :: K, m :: M, s, h => by
    show frc _ _ = _
    rw [frc_eq, frc_eq, frc_eq]
    rw [List.length_cons, rnds_cons]
    exact evR_eq C K M _ (by simpa using h)
def evS : Nat → List Int → St → (St → α) → α
  | 0, l, s, C => C s
  | n + 1, l, s, C => evL (l.take 64) [] fun rb => evL rb [] fun b => evL (bwN b 16) [] fun rw => evX 48 rw fun rx => evL rx [] fun x => evR KT x s fun r =>
      frc (ad s.a r.a) fun a => frc (ad s.b r.b) fun b => frc (ad s.c r.c) fun c => frc (ad s.d r.d) fun d => frc (ad s.e r.e) fun e => frc (ad s.f r.f) fun f => frc (ad s.g r.g) fun g => frc (ad s.h r.h) fun h =>
        evS n (l.drop 64) ⟨a, b, c, d, e, f, g, h⟩ C
theorem evS_eq (C : St → α) : ∀ (n : Nat) (l : List Int) (s : St), evS n l s C = C (absb s l n)
  | 0, l, s => rfl
  | n + 1, l, s => by
    have e1 := absb_add s l 1 n
    rw [Nat.add_comm 1 n] at e1
    rw [e1]
    have e2 : absb s l 1 = addS s (rnds KT (sched (l.take 64)) s 64) := by
      show comp s ((l.drop (64 * 0)).take 64) = _
      rw [Nat.mul_zero, List.drop_zero]; rfl
    rw [e2]
    show evL _ _ _ = _
    rw [evL_eq, evL_eq, List.append_nil, List.append_nil, List.reverse_reverse, evL_eq, List.append_nil, evX_eq _ 48 (bwN _ 16) (by rw [bwN_len]; exact Nat.le_refl _), evL_eq, List.append_nil, List.reverse_reverse]
    rw [evR_eq _ KT (ext (bwN (l.take 64) 16) 48) s (by rw [KT_len, ext_len, bwN_len])]
    simp only [frc_eq]
    rw [evS_eq C n (l.drop 64)]
    rfl
end
theorem sha_of {l : List Int} {n : Nat} {r : List Int} (hn : (l.length + (pad l.length).length) / 64 = n) (h : evS n (l ++ pad l.length) H0 (fun s => decide (wbs s.l = r)) = true) : sha l = r := by
  rw [evS_eq] at h
  unfold sha shaS
  rw [hn]
  exact of_decide_eq_true h
def abcH : List Int := [186, 120, 22, 191, 143, 1, 207, 234, 65, 65, 64, 222, 93, 174, 34, 35, 176, 3, 97, 163, 150, 23, 122, 156, 180, 16, 255, 97, 242, 0, 21, 173]
def jefe : List Int := [74, 101, 102, 101]
def want : List Int := [119, 104, 97, 116, 32, 100, 111, 32, 121, 97, 32, 119, 97, 110, 116, 32, 102, 111, 114, 32, 110, 111, 116, 104, 105, 110, 103, 63]
def jefeI : List Int := [162, 228, 133, 134, 61, 39, 249, 216, 100, 172, 141, 128, 36, 50, 161, 237, 71, 125, 140, 76, 111, 52, 157, 22, 212, 231, 233, 23, 198, 41, 202, 215]
def jefeH : List Int := [91, 220, 193, 70, 191, 96, 117, 78, 106, 4, 36, 38, 8, 149, 117, 199, 90, 0, 63, 8, 157, 39, 57, 131, 157, 236, 88, 185, 100, 236, 56, 67]
theorem sha_abc : sha [97, 98, 99] = abcH := sha_of (n := 1) rfl (by decide +kernel)
theorem keyB_jefe : keyB jefe = jefe ++ List.replicate 60 0 := rfl
theorem sha_jefeI : sha (mask 54 (jefe ++ List.replicate 60 0) ++ want) = jefeI := sha_of (n := 2) (by decide +kernel) (by decide +kernel)
theorem mac_jefe : mac jefe want = jefeH := by
  unfold mac
  rw [keyB_jefe, sha_jefeI]
  exact sha_of (n := 2) (by decide +kernel) (by decide +kernel)
end Go.Proofs.YtjalncdllegfoaaGreatDoor
/-
  What the head of layer 5's laws answers: the document's examples hold.
-/
namespace Go.Proofs.YtjalncdllegfoaaGreatDoor
open Go.RowKit
set_option linter.unusedVariables false
/-- Bytes in a block just made. -/
theorem bs_new (W : World) (bs : List Int) {n q : Nat} (hl : bs.length = n) (hq : W.heap.size = q) (hd : Dig 256 bs) (hn : n ≤ 1099511627776) : Bs (W.alloc (.cells ((bs.map (Value.int .u8)).toArray) 5)) (some ⟨q, 0, none⟩) n n bs := by
  subst hq
  exact ⟨rowAll (Row.new W 5 .u8 bs) hl, hd, Nat.le_refl _, hn, (fun h => nomatch h), fun a ha => ⟨_, _, (Option.some.inj ha).symm⟩⟩
theorem dig_abc : Dig 256 [97, 98, 99] := by unfold Dig; decide
theorem dig_jefe : Dig 256 jefe := by unfold Dig jefe; decide
theorem dig_want : Dig 256 want := by unfold Dig want; decide
def abcX : ByteArray := ⟨#[98, 97, 55, 56, 49, 54, 98, 102, 56, 102, 48, 49, 99, 102, 101, 97, 52, 49, 52, 49, 52, 48, 100, 101, 53, 100, 97, 101, 50, 50, 50, 51, 98, 48, 48, 51, 54, 49, 97, 51, 57, 54, 49, 55, 55, 97, 57, 99, 98, 52, 49, 48, 102, 102, 54, 49, 102, 50, 48, 48, 49, 53, 97, 100]⟩
def jefeX : ByteArray := ⟨#[53, 98, 100, 99, 99, 49, 52, 54, 98, 102, 54, 48, 55, 53, 52, 101, 54, 97, 48, 52, 50, 52, 50, 54, 48, 56, 57, 53, 55, 53, 99, 55, 53, 97, 48, 48, 51, 102, 48, 56, 57, 100, 50, 55, 51, 57, 56, 51, 57, 100, 101, 99, 53, 56, 98, 57, 54, 52, 101, 99, 51, 56, 52, 51]⟩
theorem hex_abc : hexS (sha [97, 98, 99]) = abcX := by rw [sha_abc]; decide +kernel
theorem hex_jefe : hexS (mac jefe want) = jefeX := by rw [mac_jefe]; decide +kernel
theorem mac_l {A A2 : Option Addr} {n c n2 c2 : Nat} {key b : List Int} {w : World} (hT : Tabs w) (hk : Bs w A n c key) (hb : Bs w A2 n2 c2 b) (hn2 : n2 ≤ 1099511627000) :
    Calls Tryz.prog 52 #[.slice A n c, .slice A2 n2 c2] w fun e w' => ∃ A1 c1, e = .returned (.slice A1 32 c1) ∧ Bs w' A1 32 c1 (mac key b) ∧ Below w.heap.size w w' :=
  (mac_any hT hk hb.bz hn2).mono fun e w' h => by
    obtain ⟨v, rfl, ho, hb⟩ := h
    obtain ⟨A, c, rfl, hbs⟩ := ho.bs (show Dig 256 (mac key b) from sha_dig _) (by unfold mac; rw [sha_len]; omega)
    rw [show (mac key b).length = 32 from sha_len _] at hbs ⊢
    exact ⟨A, c, rfl, hbs, hb⟩
/-- Bytes in a block just made and marked. -/
theorem bs_lit (W : World) (bs : List Int) (fr : Nat × Nat) {n q : Nat} (hl : bs.length = n) (hq : q = W.heap.size) (hd : Dig 256 bs) (hn : n ≤ 1099511627776) : Bs (W.alloc (.cells ((bs.map (Value.int .u8)).toArray) 5 fr)) (some ⟨q, 0, none⟩) n n bs :=
  ⟨⟨hl, fun _ => ⟨q, 0, rfl, by subst hq; simp, fun j x hx => by
    rw [Nat.zero_add, Joins.cell_alloc_mark_at W _ _ fr q j hq]; simp [hx]⟩⟩, hd, Nat.le_refl _, hn, (fun h => nomatch h), fun a ha => ⟨_, _, (Option.some.inj ha).symm⟩⟩
end Go.Proofs.YtjalncdllegfoaaGreatDoor
/-
  Contracts for the laws of layer 5, in one form: what is answered lies in new memory, and nothing that was there has turned.
-/
namespace Go.Proofs.YtjalncdllegfoaaGreatDoor
open Go.RowKit
set_option linter.unusedVariables false
/-- Nothing that was there has turned. -/
def Bw (W W' : World) : Prop := Below W.heap.size W W'
theorem Bw.refl (W : World) : Bw W W := Below.refl _ _
theorem Bw.drew (W : World) : Bw W W.drew := (Below.refl _ _).drew
theorem Bw.trans {a b c : World} (h : Bw a b) (k : Bw b c) : Bw a c := Below.trans h (Below.mono k h.size)
theorem Bw.alloc (W : World) (o : Obj) : Bw W (W.alloc o) := (Below.refl _ _).alloc (Nat.le_refl _) _
theorem Bs.bw {w w' : World} {A : Option Addr} {n c : Nat} {xs : List Int} (h : Bs w A n c xs) (hb : Bw w w') : Bs w' A n c xs := h.below hb
theorem Tabs.bw {w w' : World} (h : Tabs w) (hb : Bw w w') : Tabs w' := h.below hb
/-- A slice that came in has a plain address. -/
theorem spot_of_ok {P : Program} {W : World} {r : Reach} {base : Nat} {t e : TypeId} {A : Option Addr} {l c : Nat} (ht : P.underlying t = some (.slice e)) (h : Value.okWide P W r base t (.slice A l c)) : ∀ a, A = some a → a.spot = none := by
  rintro a rfl
  simp only [Value.okWide, ht, Cell.okWide, Cell.ok] at h
  exact h.2.2.2.1
theorem IsRow.bs_cut {w : World} {a : Option Addr} {len cap : Nat} {zs : List Int} (h : IsRow .u8 1 w a len cap zs) (hs : ∀ x, a = some x → x.spot = none) {m : Nat} (hm : m ≤ 1000000) : Bs w a (min len m) cap ((zs.take len).take (min len m)) := by
  have hnc := h.nc
  refine ⟨h.rd.take (Nat.min_le_left _ _), fun x hx => ?_, by omega, by omega, fun ha => ?_, fun x hx => ?_⟩
  · have := bounds_u8 (h.wf x (List.mem_of_mem_take hx)); omega
  · rcases h with ⟨-, -, h3, -⟩ | ⟨x, h1, -⟩
    · exact h3
    · rw [ha] at h1; cases h1
  · have := hs x hx
    obtain ⟨b, off, sp⟩ := x
    have e : sp = none := this
    subst e
    exact ⟨b, off, rfl⟩
/-- What a call of bytes answers. -/
def AnsBy (bs : List Int) (n : Nat) (W : World) (e : Ending) (W' : World) : Prop := ∃ A c, e = .returned (.slice A n c) ∧ Bs W' A n c bs ∧ Own8 W' W.heap.size (.slice A n c) bs ∧ Bw W W'
theorem AnsOb.b {bs : List Int} {n : Nat} {W W' : World} {e : Ending} (hl : bs.length = n) (hd : Dig 256 bs) (hn : n ≤ 1099511627776) (h : AnsOb bs W e W') : AnsBy bs n W e W' := by
  obtain ⟨v, rfl, ho, hb⟩ := h
  obtain ⟨A, c, rfl, hbs⟩ := ho.bs hd (by omega)
  subst hl
  exact ⟨A, c, rfl, hbs, ho, hb⟩
theorem mac_len (k b : List Int) : (mac k b).length = 32 := sha_len _
theorem mac_dig (k b : List Int) : Dig 256 (mac k b) := sha_dig _
theorem parts_len (L : List (List Int)) : (parts L).length = 32 := sha_len _
theorem parts_dig (L : List (List Int)) : Dig 256 (parts L) := sha_dig _
section
variable {W : World} {A A2 : Option Addr} {n c n2 c2 : Nat} {l k : List Int}
theorem sha_b (hT : Tabs W) (h : Bs W A n c l) : Calls Tryz.prog 81 #[.slice A n c] W (AnsBy (sha l) 32 W) :=
  (sha_any hT h).mono fun _ _ hh => hh.b (sha_len l) (sha_dig l) (by omega)
theorem sha_b0 (hT : Tabs W) : Calls Tryz.prog 81 #[.slice none 0 0] W (AnsBy (sha []) 32 W) :=
  sha_b (l := []) hT ⟨Rd.nil _ _ _, dig_nil _, Nat.le_refl _, Nat.zero_le _, fun _ => rfl, fun a ha => by cases ha⟩
theorem pts_none (W : World) : Pts W none 0 0 [] := ⟨rfl, Nat.le_refl _, fun h => absurd h (Nat.lt_irrefl 0)⟩
theorem parts_b0 (hT : Tabs W) : Calls Tryz.prog 49 #[.slice none 0 0] W (AnsBy (sha []) 32 W) :=
  (parts_any hT (pts_none W) (by decide) (by decide) (fun _ h => by cases h)).mono fun _ _ hh => AnsOb.b (sha_len []) (sha_dig []) (by omega) hh
theorem mac_b (hT : Tabs W) (hk : Bs W A n c k) (h : Bs W A2 n2 c2 l) (hn : n2 ≤ 1099511627000) : Calls Tryz.prog 52 #[.slice A n c, .slice A2 n2 c2] W (AnsBy (mac k l) 32 W) :=
  (mac_any hT hk h.bz hn).mono fun _ _ hh => hh.b (mac_len k l) (mac_dig k l) (by omega)
theorem conv_b (h : Bs W A n c l) : (convert 24 9 (.slice A n c)).run Tryz.prog W = .ok (.string (strOfNums l)) W := conv_any h.rd
/-- Bytes as a string, in any later world. -/
theorem conv_l (h : Bs W A n c l) : ∀ W', Bw W W' → (convert 24 9 (.slice A n c)).run Tryz.prog W' = .ok (.string (strOfNums l)) W' := fun _ hb => conv_b (h.bw hb)
theorem parts_b2 (hT : Tabs W) (h : Bs W A n c k) (h2 : Bs W A2 n2 c2 l) (hn : n ≤ 1000000) (hn2 : n2 ≤ 1000000) {g : Nat} (hg : W.heap.size = g) :
    Calls Tryz.prog 49 #[.slice (some ⟨g, 0, none⟩) 2 2] (W.alloc (.cells #[.slice A n c, .slice A2 n2 c2] 24)) (AnsBy (parts [k, l]) 32 W) := by
  subst hg
  have hlen : (fr [k, l]).length ≤ 1099511627776 := by
    rw [show ([k, l] : List (List Int)) = [k] ++ [l] from rfl, fr_append, fr_one, fr_one]
    simp only [List.length_append, be8_len, h.rd.len, h2.rd.len]
    omega
  have hdig : ∀ xs ∈ [k, l], Dig 256 xs := fun xs hx => by
    rcases List.mem_cons.1 hx with rfl | hx
    · exact h.dig_
    · obtain rfl := List.mem_singleton.1 hx
      exact h2.dig_
  refine (parts_any (hT.alloc _) (pts_two h h2.bz) hlen (by omega) hdig).mono fun e W' hh => ?_
  obtain ⟨A, c, e, hb, ho, hw⟩ := hh.b (parts_len _) (parts_dig _) (by omega)
  exact ⟨A, c, e, hb, ho.base (by simp), (Bw.alloc W _).trans hw⟩
end
end Go.Proofs.YtjalncdllegfoaaGreatDoor
/-
  What the document's Stream answers.
-/
namespace Go.Proofs.YtjalncdllegfoaaGreatDoor
open Go.RowKit
set_option linter.unusedVariables false
/-- The pieces, so far. -/
def RsS (key : List Int) (m s : Nat) (W0 : World) (v i : Value) (wr : World) : Prop :=
  ∃ k : Nat, k ≤ m ∧ i = .int .i64 k ∧ Own8 wr s v (strm key k) ∧ Below s W0 wr
theorem Own8.drew {w : World} {base : Nat} {v : Value} {xs : List Int} (h : Own8 w base v xs) : Own8 w.drew base v xs := h
theorem bw_cell {W W' : World} {b i : Nat} {x : Option Value} (h : Bw W W') (hp : b < W.heap.size) (e : W.cell? ⟨b, i, none⟩ = x) : W'.cell? ⟨b, i, none⟩ = x := (Below.cell h (p := ⟨b, i, none⟩) hp).trans e
theorem bw_lt {W W' : World} {b : Nat} (h : Bw W W') (hp : b < W.heap.size) : b < W'.heap.size := Nat.lt_of_lt_of_le hp (Below.size h)
theorem own_bw {W W' : World} {base n : Nat} {v : Value} {xs : List Value} (h : W.ownsRow base 5 1 v n xs) (hb : Bw W W') : W'.ownsRow base 5 1 v n xs := own_keep h fun g e => Below.block hb g (h.lt g e).2
theorem bw_le {W W' : World} {s : Nat} (hs : s ≤ W.heap.size) (h : Bw W W') : s ≤ W'.heap.size := Nat.le_trans hs (Below.size h)
theorem below_bw {s : Nat} {W0 W W' : World} (h : Below s W0 W) (hs : s ≤ W.heap.size) (hw : Bw W W') : Below s W0 W' := h.trans (Below.mono hw hs)
theorem Rd.thr {kd : IntKind} {s : Nat} {W0 W : World} {A : Option Addr} {n : Nat} {xs : List Int} (h : Rd kd W0 A n xs) (hs : W0.heap.size = s) (hb : Below s W0 W) : Rd kd W A n xs := h.below (by rw [hs]; exact hb)
theorem Bs.thr {s : Nat} {W0 W : World} {A : Option Addr} {n c : Nat} {xs : List Int} (h : Bs W0 A n c xs) (hs : W0.heap.size = s) (hb : Below s W0 W) : Bs W A n c xs := h.below (by rw [hs]; exact hb)
theorem rnum_b (N : Int) (h0 : 0 ≤ N) (h1 : N < 18446744073709551616) (W : World) : Calls Tryz.prog 91 #[.int .u64 N] W (AnsBy (be8 N) 8 W) :=
  (number_any N h0 h1 W).mono fun _ _ h => h.b (be8_len N) (be8_dig N) (by omega)
theorem rparts_b2 {W : World} {AK AH : Option Addr} {cK cH : Nat} {A A2 : Option Addr} {n c n2 c2 : Nat} {k l : List Int} (hK : Rd .u32 W AK 64 KT) (hH : Rd .u32 W AH 8 H0.l) (h : Bs W A n c k) (h2 : Bs W A2 n2 c2 l) (hn : n ≤ 100000) (hn2 : n2 ≤ 100000) {g : Nat} (hg : W.heap.size = g) :
    Calls Tryz.prog 57 #[.agg #[.slice AK 64 cK, .slice AH 8 cH], .slice (some ⟨g, 0, none⟩) 2 2] (W.alloc (.cells #[.slice A n c, .slice A2 n2 c2] 24)) (AnsBy (parts [k, l]) 32 W) := by
  subst hg
  have hlen : (fr [k, l]).length ≤ 1000000 := by
    rw [show ([k, l] : List (List Int)) = [k] ++ [l] from rfl, fr_append, fr_one, fr_one]
    simp only [List.length_append, be8_len, h.rd.len, h2.rd.len]
    omega
  have hdig : ∀ xs ∈ [k, l], Dig 256 xs := fun xs hx => by
    rcases List.mem_cons.1 hx with rfl | hx
    · exact h.dig_
    · obtain rfl := List.mem_singleton.1 hx
      exact h2.dig_
  refine (rparts_any (hK.alloc _) (hH.alloc _) (pts_two h h2.bz) hlen (by omega) hdig).mono fun e W' hh => ?_
  obtain ⟨A, c, e, hb, ho, hw⟩ := hh.b (parts_len _) (parts_dig _) (by omega)
  exact ⟨A, c, e, hb, ho.base (by simp), (Bw.alloc W _).trans hw⟩
set_option maxHeartbeats 8000000 in
set_option maxRecDepth 100000 in
theorem rstream_any {AK AH : Option Addr} {cK cH : Nat} {A : Option Addr} {l c : Nat} {key : List Int} {w : World} (hK : Rd .u32 w AK 64 KT) (hH : Rd .u32 w AH 8 H0.l) (hk : Bs w A l c key) (hl : l ≤ 1000) (n : Nat) (hn : n ≤ 10000) :
    Calls Tryz.prog 59 #[.agg #[.slice AK 64 cK, .slice AH 8 cH], .slice A l c, .int .i64 n] w fun e w' => ∃ A1 c1, e = .returned (.slice A1 n c1) ∧ Bs w' A1 n c1 (stream key n) ∧ Bw w w' := by
  obtain ⟨W0, hW0⟩ : ∃ W0, w.alloc (.cells #[.slice AK 64 cK, .slice AH 8 cH] 110) = W0 := ⟨_, rfl⟩
  obtain ⟨s, hs⟩ : ∃ s, w.heap.size + 1 = s := ⟨_, rfl⟩
  have S0 : W0.heap.size = s := by rw [← hW0, ← hs]; simp
  have HBX := Lib.hid (show W0.heap[w.heap.size]? = some (.cells #[.slice AK 64 cK, .slice AH 8 cH] 110 (0, 0)) by rw [← hW0]; exact heap_alloc_new w _)
  have HB0 := Lib.hid (show Below w.heap.size w W0 by rw [← hW0]; exact (Below.refl _ w).alloc (Nat.le_refl _) _)
  have HKy := Lib.hid (hk.below HB0.out)
  have HK0 := Lib.hid (hK.below HB0.out)
  have HH0 := Lib.hid (hH.below HB0.out)
  have HW0 := Lib.hid hW0
  have HS := Lib.hid hs
  have HS0 := Lib.hid S0
  obtain ⟨m, hm⟩ : ∃ m, (n + 31) / 32 = m := ⟨_, rfl⟩
  have hm2 : m ≤ 313 := by omega
  have HM := Lib.hid hm
  clear hW0 hK hH hk hs hm
  go_enter Tryz.func59, Tryz.ntmps59
  go_wp2_with fail
  rw [HW0.out]
  go_loopw [7, 8] (fun v i wr => RsS key m s W0 v i wr) (fun _ i _ => m - (intOf i).toNat)
  case atStart => exact ⟨0, Nat.zero_le _, rfl, Own8.nil _ _, Below.refl _ _⟩
  case round =>
    obtain ⟨k, hk, rfl, ho, hb⟩ := hrel
    have sb := hb.size
    rw [S0] at sb
    obtain ⟨Av, cv, rfl, hrv, hcv, -⟩ := ho.rd
    obtain ⟨q, hq⟩ : ∃ q, (strm key k).length = q := ⟨_, rfl⟩
    have hqk : q = 32 * k := by rw [← hq, strm_len]
    rw [hq] at hrv hcv ⊢
    have HQ := Lib.hid hq
    have HQK := Lib.hid hqk
    have HO := Lib.hid ho
    have HB := Lib.hid hb
    have HRV := Lib.hid hrv
    clear ho hb hq hrv hqk
    rcases Nat.lt_or_ge q n with hlt | hge
    · have hqi : (q : Int) < (n : Int) := by omega
      have hkm : k < m := by have := HM.out; have := HQK.out; omega
      obtain ⟨X, hX⟩ : ∃ X, parts [key, be8 (k : Int)] = X := ⟨_, rfl⟩
      have HX := Lib.hid hX
      have LX := Lib.hid (show X.length = 32 by rw [← hX]; exact parts_len _)
      have ki : IntKind.u64.wrap (k : Int) = (k : Int) := by rw [IntKind.wrap_u64]; omega
      have HKE := Lib.hid (show strm key (k + 1) = strm key k ++ X by rw [← hX]; rfl)
      clear hX
      go_wp2_with fail
      have swr : w.heap.size < wr.heap.size := by have := HS.out; omega
      have HN0 := Lib.hid (show Below s W0 wr.drew from HB.out.drew)
      have e0 : wr.drew.cell? ⟨w.heap.size, 0, none⟩ = some (.slice AK 64 cK) := (HN0.out.cell (p := ⟨w.heap.size, 0, none⟩) (by show w.heap.size < s; have := HS.out; omega)).trans (cell_of_row W0 _ 0 _ _ _ HBX.out)
      have e1 : wr.drew.cell? ⟨w.heap.size, 1, none⟩ = some (.slice AH 8 cH) := (HN0.out.cell (p := ⟨w.heap.size, 1, none⟩) (by show w.heap.size < s; have := HS.out; omega)).trans (cell_of_row W0 _ 1 _ _ _ HBX.out)
      have sbd : s ≤ wr.drew.heap.size := sb
      have l100 : l ≤ 100000 := by omega
      have q32 : q + 32 ≤ 8796093022208 := by have := HQK.out; omega
      have kk : k ≤ 313 := by omega
      have HNUM := Lib.hid (show ∀ W, Calls Tryz.prog 91 #[.int .u64 (k : Int)] W (AnsBy (be8 (k : Int)) 8 W) from fun W => rnum_b _ (by omega) (by omega) W)
      have HOd := Lib.hid (show wr.drew.ownsRow s 5 1 (.slice Av q cv) q ((strm key k).map (Value.int .u8)) from by have h := HO.out; unfold Own8 at h; rw [HQ.out] at h; exact h)
      go_region_law (first
        | (go_simp; go_at_call 91; (with_reducible refine (HNUM.out _).mono ?_); rintro e w1 ⟨A1, c1, rfl, hb1, -, hw1⟩; have f0 := bw_cell hw1 swr e0; have f1 := bw_cell hw1 swr e1; have sw1 := bw_lt hw1 swr; have HN1 := Lib.hid hb1; have HB1 := Lib.hid (below_bw HN0.out sbd hw1); have HO1 := Lib.hid (own_bw HOd.out hw1); have hs1 := bw_le sbd hw1; clear hb1 hw1)
        | (go_simp; go_at_call 57; (with_reducible refine (rparts_b2 (HK0.out.thr S0 HB1.out) (HH0.out.thr S0 HB1.out) (HKy.out.thr S0 HB1.out) HN1.out l100 (by decide) rfl).mono ?_); rintro e w2 ⟨A2, c2, rfl, hb2, -, hw2⟩; rw [HX.out] at hb2; have HN2 := Lib.hid hb2; have HB2 := Lib.hid (below_bw HB1.out hs1 hw2); have HO2 := Lib.hid (own_bw HO1.out hw2); have hs2 := bw_le hs1 hw2; clear hb2 hw2)
        | (refine step_catK _ rfl (.tmp 15) (.tmp 22) 24 rfl s 1 5 .u8 Tryz.underlying24 info8u (by omega) _ q (strm key k) rfl HO2.out _ 32 _ X rfl HN2.out.rd q32 hs2 ?_; intro vn wn hn gn; have H3 := Lib.hid hn; have G3 := Lib.hid gn; clear hn gn))
      all_goals
        have o3 : Own8 wn s vn (strm key (k + 1)) := by
          rw [HKE.out]
          unfold Own8
          rw [List.length_append, HQ.out, LX.out]
          exact H3.out
        have b3 := own_below HB2.out HO2.out G3.out hs2 (Nat.le_refl _)
        have HO3 := Lib.hid o3
        clear H3 G3 o3
        go_wp2_with fail
        go_roundw
        case rel => exact ⟨k + 1, by omega, by go_num, HO3.out, b3⟩
        case measure => simp [intOf]; omega
    · have hqi : decide ((q : Int) < (n : Int)) = false := by simp; omega
      obtain ⟨A2, c2, e2, bs⟩ := HO.out.bs (strm_dig key k) (by rw [HQ.out, HQK.out]; omega)
      rw [HQ.out] at bs e2
      injection e2 with e2 e3 e4
      subst e2 e4
      have BS := Lib.hid bs
      clear bs e3
      go_wp2_with fail
      go_ret
      have hs2 := HB.out
      refine ⟨_, _, rfl, ?_, HB0.out.trans (hs2.mono (by have := HS.out; omega))⟩
      have e : (strm key k).take n = stream key n := stream_of key (by have := HQK.out; omega)
      rw [← e]
      exact ⟨BS.out.rd.take hge, BS.out.dig_.take _, by have := BS.out.nc; omega, by omega, BS.out.none_, BS.out.plain⟩
end Go.Proofs.YtjalncdllegfoaaGreatDoor
