/-
  Several texts in one: Shn, Hs1, Cat, Arr, Cnv, Hs2, Cpy, Hs3, Catw, Mn.
-/
import Derived.Test.YtjalncdllegfoaaDoorPka
import Derived.Laws.BitsLemmas
import Derived.RegionTactic
import Derived.BigRegion
import Derived.StillTailTactics
import Derived.Test.YtjalncdllegfoaaDoorPkf
import Derived.OwnWalk
import Derived.Laws.CopyOwn
import Derived.Laws.PanicsMore
import Derived.Test.YtjalncdllegfoaaDoorPkg
import Derived.Deep.WholeRow
import Derived.Laws.Rows
import Derived.Laws.Tables
import Derived.Deep.DeepCutAuto
import Derived.Deep.DeepAppendWide
/-
  SHA-256 and what is made with it, over lists of integers; no program is spoken of here.
-/
namespace Go.Proofs.YtjalncdllegfoaaDoor
set_option linter.unusedVariables false
/-! ### Words -/
/-- Rotated to the right by n. -/
def rot (n : Nat) (x : Int) : Int := x / 2 ^ n + x % 2 ^ n * 2 ^ (32 - n)
def ad (x y : Int) : Int := IntKind.u32.wrap (x + y)
def xo (x y : Int) : Int := bits .xor .u32 x y
def an (x y : Int) : Int := bits .and .u32 x y
def sg0 (x : Int) : Int := xo (xo (rot 7 x) (rot 18 x)) (x / 8)
def sg1 (x : Int) : Int := xo (xo (rot 17 x) (rot 19 x)) (x / 1024)
def suE (e : Int) : Int := xo (xo (rot 6 e) (rot 11 e)) (rot 25 e)
def suA (a : Int) : Int := xo (xo (rot 2 a) (rot 13 a)) (rot 22 a)
def chE (e f g : Int) : Int := xo (an e f) (an (xo 4294967295 e) g)
def mjA (a b c : Int) : Int := xo (xo (an a b) (an a c)) (an b c)
/-- A word. -/
def Wd (x : Int) : Prop := 0 ≤ x ∧ x < 4294967296
theorem ad_wd (x y : Int) : Wd (ad x y) := by unfold Wd ad; rw [IntKind.wrap_u32]; omega
theorem xo_wd (x y : Int) : Wd (xo x y) := by unfold Wd xo bits; rw [IntKind.wrap_u32]; omega
theorem an_wd (x y : Int) : Wd (an x y) := by unfold Wd an bits; rw [IntKind.wrap_u32]; omega
/-- The state. -/
structure St where
  a : Int
  b : Int
  c : Int
  d : Int
  e : Int
  f : Int
  g : Int
  h : Int
def St.l (s : St) : List Int := [s.a, s.b, s.c, s.d, s.e, s.f, s.g, s.h]
def St.ok (s : St) : Prop := Wd s.a ∧ Wd s.b ∧ Wd s.c ∧ Wd s.d ∧ Wd s.e ∧ Wd s.f ∧ Wd s.g ∧ Wd s.h
def t1f (k w : Int) (s : St) : Int := ad (ad (ad (ad s.h (suE s.e)) (chE s.e s.f s.g)) k) w
def t2f (s : St) : Int := ad (suA s.a) (mjA s.a s.b s.c)
/-- One round. -/
def rnd (k w : Int) (s : St) : St := ⟨ad (t1f k w s) (t2f s), s.a, s.b, s.c, ad s.d (t1f k w s), s.e, s.f, s.g⟩
theorem rnd_ok {k w : Int} {s : St} (h : s.ok) : (rnd k w s).ok := ⟨ad_wd _ _, h.1, h.2.1, h.2.2.1, ad_wd _ _, h.2.2.2.2.1, h.2.2.2.2.2.1, h.2.2.2.2.2.2.1⟩
/-- The first n rounds. -/
def rnds (K M : List Int) (s : St) : Nat → St
  | 0 => s
  | n + 1 => rnd (dig K n) (dig M n) (rnds K M s n)
theorem rnds_ok {K M : List Int} {s : St} (h : s.ok) : ∀ n, (rnds K M s n).ok
  | 0 => h
  | n + 1 => rnd_ok (rnds_ok h n)
/-! ### A block's words -/
def nxt (m : List Int) : Int := ad (ad (ad (dig m (m.length - 16)) (sg0 (dig m (m.length - 15)))) (dig m (m.length - 7))) (sg1 (dig m (m.length - 2)))
def ext (m : List Int) : Nat → List Int
  | 0 => m
  | n + 1 => ext m n ++ [nxt (ext m n)]
theorem ext_len (m : List Int) : ∀ n, (ext m n).length = m.length + n
  | 0 => rfl
  | n + 1 => by simp only [ext, List.length_append, List.length_cons, List.length_nil, ext_len m n]; omega
/-- Word i of bytes. -/
def wdAt (b : List Int) (i : Nat) : Int := ((dig b (4 * i) * 256 + dig b (4 * i + 1)) * 256 + dig b (4 * i + 2)) * 256 + dig b (4 * i + 3)
def bwN (b : List Int) (n : Nat) : List Int := (List.range n).map (wdAt b)
theorem bwN_len (b : List Int) (n : Nat) : (bwN b n).length = n := by simp [bwN]
theorem bwN_succ (b : List Int) (n : Nat) : bwN b (n + 1) = bwN b n ++ [wdAt b n] := by simp [bwN, List.range_succ]
def sched (b : List Int) : List Int := ext (bwN b 16) 48
theorem sched_len (b : List Int) : (sched b).length = 64 := by unfold sched; rw [ext_len, bwN_len]
def Wds (m : List Int) : Prop := ∀ x ∈ m, Wd x
theorem wdAt_wd {b : List Int} (h : Dig 256 b) (i : Nat) : Wd (wdAt b i) := by
  have h0 := dig_bd (b := 256) (by decide) h (4 * i)
  have h1 := dig_bd (b := 256) (by decide) h (4 * i + 1)
  have h2 := dig_bd (b := 256) (by decide) h (4 * i + 2)
  have h3 := dig_bd (b := 256) (by decide) h (4 * i + 3)
  unfold Wd wdAt; omega
theorem bwN_wds {b : List Int} (h : Dig 256 b) (n : Nat) : Wds (bwN b n) := by
  intro x hx
  simp only [bwN, List.mem_map] at hx
  obtain ⟨i, _, rfl⟩ := hx
  exact wdAt_wd h i
theorem ext_wds {m : List Int} (h : Wds m) : ∀ n, Wds (ext m n)
  | 0 => h
  | n + 1 => fun x hx => by
    simp only [ext, List.mem_append, List.mem_singleton] at hx
    rcases hx with hx | rfl
    · exact ext_wds h n x hx
    · exact ad_wd _ _
theorem dig_wd {m : List Int} (h : Wds m) (i : Nat) : Wd (dig m i) := dig_bd (b := 4294967296) (by decide) h i
/-! ### Blocks -/
def KT : List Int := [1116352408, 1899447441, 3049323471, 3921009573, 961987163, 1508970993, 2453635748, 2870763221, 3624381080, 310598401, 607225278, 1426881987, 1925078388, 2162078206, 2614888103, 3248222580, 3835390401, 4022224774, 264347078, 604807628, 770255983, 1249150122, 1555081692, 1996064986, 2554220882, 2821834349, 2952996808, 3210313671, 3336571891, 3584528711, 113926993, 338241895, 666307205, 773529912, 1294757372, 1396182291, 1695183700, 1986661051, 2177026350, 2456956037, 2730485921, 2820302411, 3259730800, 3345764771, 3516065817, 3600352804, 4094571909, 275423344, 430227734, 506948616, 659060556, 883997877, 958139571, 1322822218, 1537002063, 1747873779, 1955562222, 2024104815, 2227730452, 2361852424, 2428436474, 2756734187, 3204031479, 3329325298]
def H0 : St := ⟨1779033703, 3144134277, 1013904242, 2773480762, 1359893119, 2600822924, 528734635, 1541459225⟩
theorem H0_ok : H0.ok := by unfold St.ok Wd H0; decide
theorem KT_wds : Wds KT := by unfold Wds Wd; decide
theorem KT_len : KT.length = 64 := rfl
def addS (s r : St) : St := ⟨ad s.a r.a, ad s.b r.b, ad s.c r.c, ad s.d r.d, ad s.e r.e, ad s.f r.f, ad s.g r.g, ad s.h r.h⟩
theorem addS_ok (s r : St) : (addS s r).ok := ⟨ad_wd _ _, ad_wd _ _, ad_wd _ _, ad_wd _ _, ad_wd _ _, ad_wd _ _, ad_wd _ _, ad_wd _ _⟩
/-- The state behind one block. -/
def comp (s : St) (b : List Int) : St := addS s (rnds KT (sched b) s 64)
/-- The state behind the first j blocks of bytes. -/
def absb (s : St) (l : List Int) : Nat → St
  | 0 => s
  | j + 1 => comp (absb s l j) ((l.drop (64 * j)).take 64)
theorem absb_ok {s : St} (h : s.ok) (l : List Int) : ∀ j, (absb s l j).ok
  | 0 => h
  | j + 1 => addS_ok _ _
theorem absb_take {s : St} {l m : List Int} : ∀ {j : Nat}, (∀ i, i < 64 * j → l[i]? = m[i]?) → absb s l j = absb s m j
  | 0, _ => rfl
  | j + 1, h => by
    have e : (l.drop (64 * j)).take 64 = (m.drop (64 * j)).take 64 := by
      apply List.ext_getElem?
      intro i
      rcases Nat.lt_or_ge i 64 with hi | hi
      · rw [List.getElem?_take_of_lt hi, List.getElem?_take_of_lt hi, List.getElem?_drop, List.getElem?_drop]
        exact h _ (by omega)
      · rw [List.getElem?_eq_none (by rw [List.length_take]; omega), List.getElem?_eq_none (by rw [List.length_take]; omega)]
    show comp (absb s l j) _ = comp (absb s m j) _
    rw [e, absb_take (fun i hi => h i (by omega))]
/-- Blocks behind whole blocks. -/
theorem absb_add (s : St) (l : List Int) (p : Nat) : ∀ j, absb s l (p + j) = absb (absb s l p) (l.drop (64 * p)) j
  | 0 => rfl
  | j + 1 => by
    show comp (absb s l (p + j)) _ = comp _ _
    rw [absb_add s l p j, List.drop_drop, show 64 * p + 64 * j = 64 * (p + j) by omega]
    rfl
theorem absb_append {s : St} {l m : List Int} {p : Nat} (hl : l.length = 64 * p) (j : Nat) : absb s (l ++ m) (p + j) = absb (absb s l p) m j := by
  rw [absb_add, List.drop_left' hl]
  congr 1
  exact absb_take fun i hi => List.getElem?_append_left (by omega)
/-! ### Bytes -/
/-- A number as eight bytes, the highest first. -/
def be8 (n : Int) : List Int := (List.range 8).map fun i => n / 256 ^ (7 - i) % 256
theorem be8_len (n : Int) : (be8 n).length = 8 := by simp [be8]
theorem be8_dig (n : Int) : Dig 256 (be8 n) := by
  intro x hx
  simp only [be8, List.mem_map] at hx
  obtain ⟨i, _, rfl⟩ := hx
  omega
def wb4 (x : Int) : List Int := [x / 16777216, x / 65536 % 256, x / 256 % 256, x % 256]
theorem wb4_dig {x : Int} (h : Wd x) : Dig 256 (wb4 x) := by
  unfold Wd at h
  intro y hy
  simp only [wb4, List.mem_cons, List.not_mem_nil, or_false] at hy
  rcases hy with rfl | rfl | rfl | rfl <;> omega
/-- The bytes of words. -/
def wbs (m : List Int) : List Int := m.flatMap wb4
theorem wbs_append (m k : List Int) : wbs (m ++ k) = wbs m ++ wbs k := by simp [wbs]
theorem wbs_len (m : List Int) : (wbs m).length = 4 * m.length := by
  induction m with
  | nil => rfl
  | cons x m ih => simp only [wbs, List.flatMap_cons, List.length_append, wb4, List.length_cons, List.length_nil] at ih ⊢; omega
theorem wbs_dig {m : List Int} (h : Wds m) : Dig 256 (wbs m) := by
  intro y hy
  simp only [wbs, List.mem_flatMap] at hy
  obtain ⟨x, hx, hy⟩ := hy
  exact wb4_dig (h x hx) y hy
theorem St.wds {s : St} (h : s.ok) : Wds s.l := by
  obtain ⟨h1, h2, h3, h4, h5, h6, h7, h8⟩ := h
  intro x hx
  simp only [St.l, List.mem_cons, List.not_mem_nil, or_false] at hx
  rcases hx with rfl | rfl | rfl | rfl | rfl | rfl | rfl | rfl <;> assumption
/-- How many noughts are filled in behind n bytes and 128. -/
def fillN (n : Nat) : Nat := (119 - n % 64) % 64
def pad (n : Nat) : List Int := 128 :: (List.replicate (fillN n) 0 ++ be8 (8 * (n : Int)))
theorem pad_len (n : Nat) : (pad n).length = 9 + fillN n := by simp [pad, be8_len]; omega
theorem pad_all (n : Nat) : (n + (pad n).length) % 64 = 0 := by rw [pad_len]; unfold fillN; omega
theorem pad_dig (n : Nat) : Dig 256 (pad n) := by
  intro x hx
  simp only [pad, List.mem_cons, List.mem_append, List.mem_replicate] at hx
  rcases hx with rfl | ⟨_, rfl⟩ | hx
  · decide
  · decide
  · exact be8_dig _ x hx
/-- The digest of bytes. -/
def shaS (l : List Int) : St := absb H0 (l ++ pad l.length) ((l.length + (pad l.length).length) / 64)
def sha (l : List Int) : List Int := wbs (shaS l).l
theorem shaS_ok (l : List Int) : (shaS l).ok := absb_ok H0_ok _ _
theorem sha_len (l : List Int) : (sha l).length = 32 := by unfold sha; rw [wbs_len]; rfl
theorem sha_dig (l : List Int) : Dig 256 (sha l) := wbs_dig (St.wds (shaS_ok l))
/-- Parts, each behind its length. -/
def fr (l : List (List Int)) : List Int := l.flatMap fun p => be8 p.length ++ p
theorem fr_nil : fr [] = [] := rfl
theorem fr_append (l m : List (List Int)) : fr (l ++ m) = fr l ++ fr m := by simp [fr]
theorem fr_one (p : List Int) : fr [p] = be8 p.length ++ p := by simp [fr]
def parts (l : List (List Int)) : List Int := sha (fr l)
/-- A key as a block of 64 bytes. -/
def keyB (k : List Int) : List Int := (if 64 < k.length then sha k else k) ++ List.replicate (64 - (if 64 < k.length then sha k else k).length) 0
def mask (m : Int) (b : List Int) : List Int := b.map fun x => bits .xor .u8 x m
def mac (k b : List Int) : List Int := sha (mask 92 (keyB k) ++ sha (mask 54 (keyB k) ++ b))
/-- The first m pieces of a key's row. -/
def strm (k : List Int) : Nat → List Int
  | 0 => []
  | m + 1 => strm k m ++ parts [k, be8 (m : Int)]
theorem strm_len (k : List Int) : ∀ m, (strm k m).length = 32 * m
  | 0 => rfl
  | m + 1 => by simp only [strm, List.length_append, strm_len k m, parts, sha_len]; omega
theorem strm_dig (k : List Int) : ∀ m, Dig 256 (strm k m)
  | 0 => dig_nil _
  | m + 1 => fun x hx => by
    simp only [strm, List.mem_append] at hx
    rcases hx with hx | hx
    · exact strm_dig k m x hx
    · exact sha_dig _ x hx
/-- The first n bytes of a key's row. -/
def stream (k : List Int) (n : Nat) : List Int := (strm k ((n + 31) / 32)).take n
theorem strm_take (k : List Int) {m : Nat} : ∀ {p : Nat}, m ≤ p → (strm k p).take (32 * m) = strm k m
  | 0, h => by obtain rfl : m = 0 := by omega
               rfl
  | p + 1, h => by
    rcases Nat.lt_or_ge p m with g | g
    · obtain rfl : m = p + 1 := by omega
      exact List.take_of_length_le (by rw [strm_len]; exact Nat.le_refl _)
    · simp only [strm]
      rw [List.take_append_of_le_length (by rw [strm_len]; omega), strm_take k g]
theorem stream_of (k : List Int) {m n : Nat} (h : n ≤ 32 * m) : (strm k m).take n = stream k n := by
  unfold stream
  rw [← strm_take k (show (n + 31) / 32 ≤ m by omega), List.take_take, Nat.min_eq_left (by omega)]
theorem stream_len (k : List Int) (n : Nat) : (stream k n).length = n := by unfold stream; rw [List.length_take, strm_len]; omega
theorem stream_take (k : List Int) {m n : Nat} (h : m ≤ n) : (stream k n).take m = stream k m := by
  have := stream_of k (m := (n + 31) / 32) (n := m) (by omega)
  rw [← this]
  unfold stream
  rw [List.take_take, Nat.min_eq_left h]
end Go.Proofs.YtjalncdllegfoaaDoor
/-
  What the small calls of package hash answer: right, wholeBlocks, eightBytes.
-/
namespace Go.Proofs.YtjalncdllegfoaaDoor
open Go.RowKit
set_option linter.unusedVariables false
theorem wraps_u32 (n : Int) (h0 : 0 ≤ n) (h1 : n < 2 ^ 32) : IntKind.u32.wrap n = n := by rw [IntKind.wrap_u32]; omega
theorem wraps_u64 (n : Int) (h0 : 0 ≤ n) (h1 : n < 2 ^ 64) : IntKind.u64.wrap n = n := by rw [IntKind.wrap_u64]; omega
theorem rot_by {n : Nat} (h1 : 1 ≤ n) (h2 : n ≤ 31) : bits .and .u64 (IntKind.u64.wrap (-(n : Int))) 31 = 32 - (n : Int) := by
  have h := bits_mask .u64 64 (by decide) wraps_u64 5 (by decide) (IntKind.u64.wrap (-(n : Int))) (by rw [IntKind.wrap_u64]; omega) (by rw [IntKind.wrap_u64]; omega)
  rw [show (2 : Int) ^ 5 - 1 = 31 by decide, show (2 : Int) ^ 5 = 32 by decide] at h
  rw [h, IntKind.wrap_u64]
  omega
theorem pow_split (n : Nat) (h : n ≤ 32) : (2 : Int) ^ n * 2 ^ (32 - n) = 4294967296 := by rw [← Int.pow_add, show n + (32 - n) = 32 by omega]; decide
theorem rot_or {n : Nat} (h2 : n ≤ 32) {x : Int} (hx : Wd x) : bits .or .u32 (IntKind.u32.wrap (x * 2 ^ (32 - n))) (x / 2 ^ n) = rot n x ∧ Wd (rot n x) := by
  have hm := pow_split n h2
  have hp : (0 : Int) < 2 ^ n := Int.pow_pos (by decide)
  have hq : (0 : Int) < 2 ^ (32 - n) := Int.pow_pos (by decide)
  have e : IntKind.u32.wrap (x * 2 ^ (32 - n)) = x % 2 ^ n * 2 ^ (32 - n) := by
    rw [IntKind.wrap_u32, ← hm, Int.mul_comm x, Int.mul_comm (2 ^ n), Int.mul_emod_mul_of_pos _ _ hq, Int.mul_comm]
  have r0 := Int.emod_nonneg x (show (2 : Int) ^ n ≠ 0 by omega)
  have r1 := Int.emod_lt_of_pos x hp
  have a0 := Int.mul_nonneg r0 (show (0 : Int) ≤ 2 ^ (32 - n) by omega)
  have a1 := Int.mul_le_mul_of_nonneg_right (show x % 2 ^ n + 1 ≤ 2 ^ n by omega) (show (0 : Int) ≤ 2 ^ (32 - n) by omega)
  rw [hm, Int.add_mul] at a1
  have b0 : 0 ≤ x / 2 ^ n := Int.ediv_nonneg hx.1 (by omega)
  have b1 : x / 2 ^ n < 2 ^ (32 - n) := Int.ediv_lt_of_lt_mul hp (by rw [Int.mul_comm, hm]; exact hx.2)
  rw [e]
  refine ⟨?_, ?_⟩
  · rw [bits_join .u32 32 (by decide) wraps_u32 (32 - n) _ _ a0 (Int.mul_emod_left _ _) (by omega) b0 b1 (by omega)]
    unfold rot; omega
  · unfold rot Wd; omega
theorem rotl_any {n : Nat} (h1 : 1 ≤ n) (h2 : n ≤ 31) (x : Int) (hx : Wd x) (w : World) :
    Calls Tryd.prog 99 #[.int .u32 x, .int .i64 (-(n : Int))] w fun e w' => e = .returned (.int .u32 (rot n x)) ∧ w = w' := by
  have e1 := rot_by h1 h2
  have e2 : (32 - (n : Int)).toNat = 32 - n := by omega
  have e3 : (32 : Int) - (32 - (n : Int)) = n := by omega
  have e4 := (rot_or (show n ≤ 32 by omega) hx).1
  have b1 : 0 ≤ 32 - (n : Int) := by omega
  have b2 : 32 - (n : Int) ≤ 31 := by omega
  have hx0 := hx.1
  have hx1 := hx.2
  go_enter Tryd.func99, Tryd.ntmps99
  go_wp2
  go_ret
  exact ⟨congrArg (fun v => Ending.returned (.int .u32 v)) e4, rfl⟩
theorem right_any {n : Nat} (h1 : 1 ≤ n) (h2 : n ≤ 31) (x : Int) (hx : Wd x) (w : World) :
    Calls Tryd.prog 96 #[.int .u32 x, .int .i64 n] w fun e w' => e = .returned (.int .u32 (rot n x)) ∧ w = w' := by
  go_enter Tryd.func96, Tryd.ntmps96
  go_wp2_with fail
  refine (rotl_any h1 h2 x hx w).mono ?_
  rintro e w1 ⟨rfl, rfl⟩
  go_wp2
  go_ret
  exact ⟨rfl, rfl⟩
theorem right_lit (n : Nat) {v : Int} (hv : v = n) (h1 : 1 ≤ n) (h2 : n ≤ 31) (x : Int) (hx : Wd x) (w : World) :
    Calls Tryd.prog 96 #[.int .u32 x, .int .i64 v] w fun e w' => e = .returned (.int .u32 (rot n x)) ∧ w = w' := by
  subst hv
  exact right_any h1 h2 x hx w
theorem whole_any (A : Option Addr) (n c : Nat) (w : World) (hn : n ≤ 281474976710656) :
    Calls Tryd.prog 64 #[.slice A n c] w fun e w' => e = .returned (.int .i64 ((64 * (n / 64) : Nat) : Int)) ∧ w = w' := by
  have e1 : (n : Int) - (n : Int) % 64 = ((64 * (n / 64) : Nat) : Int) := by omega
  have E1 := Lib.hid e1
  clear e1
  go_enter Tryd.func64, Tryd.ntmps64
  go_wp2
  go_ret
  exact ⟨congrArg (fun v => Ending.returned (.int .i64 v)) E1.out, rfl⟩
end Go.Proofs.YtjalncdllegfoaaDoor
/-
  Integers of any size appended to what the call itself makes.
-/
namespace Go.Proofs.YtjalncdllegfoaaDoor
open Go.RowKit
set_option linter.unusedVariables false
section
variable {P : Program} (w : World)
/-- All of a slice more, nil or not. -/
theorem wp_catK {o : Oper} {a : Act} {K : Act → World → Prop} {Q : Exit → Act → World → Prop} (s x : Operand) (t : TypeId)
    (ho : o.op = .call { callee := .builtin .append, args := #[s, x], argTypes := #[t, t] })
    (base : Nat) (by' : Nat) (e : TypeId) (k : IntKind) (ht : P.underlying t = some (.slice e)) (hi : (P.info? e).map (fun i => (i.zero, i.size, i.bytes)) = some (some (.int k 0), 1, by'))
    (hby : by' ≤ 16) (v : Value) (n : Nat) (L : List Int) (hs : a.eval s = v) (hown : w.ownsRow base e 1 v n (L.map (Value.int k)))
    (A : Option Addr) (m c : Nat) (xs : List Int) (hx : a.eval x = .slice A m c) (hr : Rd k w A m xs) (hn : n + m ≤ 8796093022208) (hbase : base ≤ w.heap.size)
    (h : ∀ v' w', w'.ownsRow base e 1 v' (n + m) ((L ++ xs).map (Value.int k)) → w.grownBy w' v.ownBlock → K (a.put o.dst v') w') : o.wp P a w K Q := by
  obtain ⟨i0, h1, h2, h3, h4⟩ := info_parts hi
  cases A with
  | none =>
    have hm : m = 0 := by
      rcases Nat.eq_zero_or_pos m with g | g
      · exact g
      · obtain ⟨b, off, e, _⟩ := hr.cells g; cases e
    subst hm
    obtain rfl : xs = [] := List.eq_nil_of_length_eq_zero hr.len
    have hrun := run_app_nil (P := P) w base t o.type e i0 1 ht h1 v n _ hown c
    have hh := h v w (by simpa using hown) (World.grownBy.refl w _)
    unfold Oper.wp execOp
    simp only [ho, resolve, invoke, builtin, Sem.run_bind, Sem.run_pure, Result.andThen_ok, List.map_toArray, List.map_cons, List.map_nil, hs, hx, hrun]
    exact hh
  | some ad =>
    refine wp_append_own w s x t ho base e i0 (.int k 0) 1 by' ht h1 h2 h3 h4 rfl (by decide) v n _ hs hown ad m c (xs.map (Value.int k)) hx (by simp [hr.len]) ?_ (ints_oneCell _ _) ?_ ?_ hbase (fun v' w' a b _ => h v' w' (by simpa using a) b)
    · intro j u hj
      rw [List.getElem?_map] at hj
      cases hxj : xs[j]? with
      | none => rw [hxj] at hj; cases hj
      | some x' =>
        rw [hxj] at hj
        injection hj with hj
        subst hj
        have hm : 0 < m := by
          rcases Nat.eq_zero_or_pos m with g | g
          · subst g
            rw [List.eq_nil_of_length_eq_zero hr.len] at hxj; simp at hxj
          · exact g
        obtain ⟨b, off, e, hb, hc⟩ := hr.cells hm
        injection e with e
        subst e
        rw [Addr.add_lit]
        exact hc j x' hxj
    · unfold maxLen; omega
    · have := Nat.mul_le_mul hn hby; omega
theorem wpList_catK {ops : Array Oper} {rest : List Oper} {o : Oper} {a : Act} {Q : Exit → Act → World → Prop} (hgd : o.guard = none) (s x : Operand) (t : TypeId)
    (ho : o.op = .call { callee := .builtin .append, args := #[s, x], argTypes := #[t, t] })
    (base : Nat) (by' : Nat) (e : TypeId) (k : IntKind) (ht : P.underlying t = some (.slice e)) (hi : (P.info? e).map (fun i => (i.zero, i.size, i.bytes)) = some (some (.int k 0), 1, by'))
    (hby : by' ≤ 16) (v : Value) (n : Nat) (L : List Int) (hs : a.eval s = v) (hown : w.ownsRow base e 1 v n (L.map (Value.int k)))
    (A : Option Addr) (m c : Nat) (xs : List Int) (hx : a.eval x = .slice A m c) (hr : Rd k w A m xs) (hn : n + m ≤ 8796093022208) (hbase : base ≤ w.heap.size)
    (h : ∀ v' w', w'.ownsRow base e 1 v' (n + m) ((L ++ xs).map (Value.int k)) → w.grownBy w' v.ownBlock → wpList P ops Q rest (a.put o.dst v') w') : wpList P ops Q (o :: rest) a w :=
  wpList_plain hgd fun _ hK => wp_catK w s x t ho base by' e k ht hi hby v n L hs hown A m c xs hx hr hn hbase fun v' w' a b => hK _ _ (h v' w' a b)
/-- As one step of a region that draws its order. -/
theorem step_catK {ops : Array Oper} {o : Oper} {a : Act} {K : Act → World → Prop} {Q : Exit → Act → World → Prop} {E : Prop} (hgd : o.guard = none) (s x : Operand) (t : TypeId)
    (ho : o.op = .call { callee := .builtin .append, args := #[s, x], argTypes := #[t, t] })
    (base : Nat) (by' : Nat) (e : TypeId) (k : IntKind) (ht : P.underlying t = some (.slice e)) (hi : (P.info? e).map (fun i => (i.zero, i.size, i.bytes)) = some (some (.int k 0), 1, by'))
    (hby : by' ≤ 16) (v : Value) (n : Nat) (L : List Int) (hs : a.eval s = v) (hown : w.ownsRow base e 1 v n (L.map (Value.int k)))
    (A : Option Addr) (m c : Nat) (xs : List Int) (hx : a.eval x = .slice A m c) (hr : Rd k w A m xs) (hn : n + m ≤ 8796093022208) (hbase : base ≤ w.heap.size)
    (h : ∀ v' w', w'.ownsRow base e 1 v' (n + m) ((L ++ xs).map (Value.int k)) → w.grownBy w' v.ownBlock → K (a.put o.dst v') w') :
    if Region.wanted o (yielded ops a.tmps) = true then Oper.wp P o a w K Q else E := by
  have hw : Region.wanted o (yielded ops a.tmps) = true := by simp [Region.wanted, hgd]
  rw [if_pos hw]
  exact wp_catK w s x t ho base by' e k ht hi hby v n L hs hown A m c xs hx hr hn hbase h
/-- All of a slice of bytes more, nil or not. -/
theorem wpList_cat8 {ops : Array Oper} {rest : List Oper} {o : Oper} {a : Act} {Q : Exit → Act → World → Prop} (hgd : o.guard = none) (s x : Operand) (t : TypeId)
    (ho : o.op = .call { callee := .builtin .append, args := #[s, x], argTypes := #[t, t] })
    (base : Nat) (e : TypeId) (k : IntKind) (ht : P.underlying t = some (.slice e)) (hi : (P.info? e).map (fun i => (i.zero, i.size, i.bytes)) = some (some (.int k 0), 1, 1))
    (v : Value) (n : Nat) (L : List Int) (hs : a.eval s = v) (hown : w.ownsRow base e 1 v n (L.map (Value.int k)))
    (A : Option Addr) (m c : Nat) (xs : List Int) (hx : a.eval x = .slice A m c) (hr : Rd k w A m xs) (hn : n + m ≤ 8796093022208) (hbase : base ≤ w.heap.size)
    (h : ∀ v' w', w'.ownsRow base e 1 v' (n + m) ((L ++ xs).map (Value.int k)) → w.grownBy w' v.ownBlock → wpList P ops Q rest (a.put o.dst v') w') : wpList P ops Q (o :: rest) a w :=
  wpList_catK w hgd s x t ho base 1 e k ht hi (by omega) v n L hs hown A m c xs hx hr hn hbase h
end
theorem info8u : (Tryd.prog.info? 5).map (fun i => (i.zero, i.size, i.bytes)) = some (some (.int .u8 0), 1, 1) := by kernel_rfl
end Go.Proofs.YtjalncdllegfoaaDoor
/-
  An array of integers by value: its cell at an index.
-/
namespace Go
theorem run_index_arr {P : Program} {t e : TypeId} {n : Nat} {kk : IntKind} (h : P.underlying t = some (.array n e)) (he : P.underlying e = some (.int kk)) (hs : (P.info? e).map (·.size) = some 1)
    (k : IntKind) {cs : Array Value} {i : Nat} {v : Value} (hi : i < n) (hv : cs[i]? = some v) (w : World) : (Instr.index t (.agg cs) (.int k i)).run P w = .ok v w := by
  have hn : (0 : Int) ≤ (i : Int) ∧ (i : Int) < (n : Int) := by omega
  cases hq : P.info? e with
  | none => rw [hq] at hs; cases hs
  | some r =>
    rw [hq] at hs
    have hr : r.size = 1 := by simpa using hs
    simp [Instr.index, run_underlying h, asIntOf, hn, go_sem, part, isAgg, run_underlying he, sizeOf, typeInfo, hq, hr, hv]
    intro hg; omega
end Go
/-
  Bytes as a string; strings that are the same.
-/
namespace Go.Proofs.YtjalncdllegfoaaDoor
open Go.RowKit
set_option linter.unusedVariables false
/-- string(b), whatever slice of bytes b is. -/
theorem conv_any {w : World} {A : Option Addr} {n c : Nat} {bs : List Int} (h : Rd .u8 w A n bs) : (convert 24 9 (.slice A n c)).run Tryd.prog w = .ok (.string (strOfNums bs)) w := by
  rcases Nat.eq_zero_or_pos n with g | g
  · subst g
    obtain rfl : bs = [] := List.eq_nil_of_length_eq_zero h.len
    cases A with
    | none => exact run_convert_bytes_nil (P := Tryd.prog) w 24 5 Tryd.underlying24 Tryd.underlying5 0 c 9 Tryd.underlying9
    | some ad =>
      rw [run_convert_bytes_string w 24 9 5 _ 0 c Tryd.underlying24 Tryd.underlying5 Tryd.underlying9]
      have hl : (loadCells ad 0).run Tryd.prog w = .ok (([] : List Int).map (Value.int .u8)).toArray w := by
        have := run_loadCells_list (P := Tryd.prog) w ad [] (fun j v hj => by simp at hj)
        simpa using this
      rw [run_bytesToString w ad 0 c [] hl]
      rfl
  · obtain ⟨b, off, rfl, hb, hc⟩ := h.cells g
    exact run_convert_bytes_arg w 24 5 Tryd.underlying24 Tryd.underlying5 b off n c bs h.len (fun i hi => hc i _ (by rw [List.getD_eq_getElem?_getD, getElem?_dig (by rw [h.len]; exact hi)]; rfl)) 9 Tryd.underlying9
theorem str_neq (s : ByteArray) : (s.toList != s.toList) = false := by simp
theorem str_eql (s : ByteArray) : (s.toList == s.toList) = true := by simp
theorem rowAll {w : World} {g : Nat} {t : TypeId} {k : IntKind} {bs : List Int} {n : Nat} (h : Row w g t k bs) (hl : bs.length = n) : Rd k w (some ⟨g, 0, none⟩) n bs := h.rd hl (fun j x hx => by rwa [Nat.zero_add])
end Go.Proofs.YtjalncdllegfoaaDoor
/-
  What eightBytes answers; a state's bytes.
-/
namespace Go.Proofs.YtjalncdllegfoaaDoor
open Go.RowKit
set_option linter.unusedVariables false
theorem be8_dig_at {n : Int} {j : Nat} (h : j < 8) : dig (be8 n) j = n / 256 ^ (7 - j) % 256 := by
  refine dig_lt ?_
  simp [be8, h]
def EbR (N : Int) (w : World) (i : Value) (wr : World) : Prop :=
  ∃ (k : Nat) (zs : List Int), k ≤ 8 ∧ i = .int .i64 k ∧ Row wr w.heap.size 5 .u8 zs ∧ zs.length = 8 ∧ (∀ j, j < k → dig zs j = N / 256 ^ (7 - j) % 256) ∧ Below w.heap.size w wr
/-- A slice of bytes of the call's own, as append takes it. -/
def Own8 (w : World) (base : Nat) (v : Value) (bs : List Int) : Prop := w.ownsRow base 5 1 v bs.length (bs.map (Value.int .u8))
/-- Bytes in a block of their own: the call's answer. -/
def AnsOb (bs : List Int) (w : World) (e : Ending) (w' : World) : Prop := ∃ v, e = .returned v ∧ Own8 w' w.heap.size v bs ∧ Below w.heap.size w w'
theorem Own8.rd {w : World} {base : Nat} {v : Value} {bs : List Int} (h : Own8 w base v bs) : ∃ A cap, v = .slice A bs.length cap ∧ Rd .u8 w A bs.length bs ∧ bs.length ≤ cap ∧ ∀ a, A = some a → base ≤ a.block := own_rd h
theorem Own8.below {w w' : World} {base : Nat} {v : Value} {bs : List Int} (h : Own8 w base v bs) (hb : Below w.heap.size w w') : Own8 w' base v bs := by
  refine ⟨h.1, ?_⟩
  rcases h.2 with g | ⟨g, cap, cur, h1, h2, h3, h4⟩
  · exact .inl g
  · exact .inr ⟨g, cap, cur, h1, h2, (hb.block g (Array.getElem?_eq_some_iff.1 h3).1).trans h3, h4⟩
theorem Own8.alloc {w : World} {base : Nat} {v : Value} {bs : List Int} (h : Own8 w base v bs) (o : Obj) : Own8 (w.alloc o) base v bs := h.below ((Below.refl _ _).alloc (Nat.le_refl _) _)
theorem Own8.base {w : World} {base base' : Nat} {v : Value} {bs : List Int} (h : Own8 w base v bs) (hb : base' ≤ base) : Own8 w base' v bs := by
  refine ⟨h.1, ?_⟩
  rcases h.2 with g | ⟨g, cap, cur, h1, h2, h3⟩
  · exact .inl g
  · exact .inr ⟨g, cap, cur, h1, Nat.le_trans hb h2, h3⟩
theorem Own8.of_row {w : World} {g base : Nat} {bs : List Int} (h : Row w g 5 .u8 bs) (hb : base ≤ g) (hl : bs.length ≤ 8796093022208) : Own8 w base (.slice (some ⟨g, 0, none⟩) bs.length bs.length) bs :=
  ⟨by simp, .inr ⟨g, bs.length, _, rfl, hb, h, Nat.le_refl _, by unfold maxLen; omega, by simp, by simp [List.take_of_length_le]⟩⟩
/-- A block just made with room for n bytes. -/
theorem Own8.room (w : World) (n : Nat) {base : Nat} (hb : base ≤ w.heap.size) (hn : n ≤ 8796093022208) : Own8 (w.alloc (.cells ((List.replicate n 0).map (Value.int .u8)).toArray 5)) base (.slice (some ⟨w.heap.size, 0, none⟩) 0 n) [] :=
  ⟨rfl, .inr ⟨w.heap.size, n, _, rfl, hb, heap_alloc_new w _, Nat.zero_le _, by unfold maxLen; omega, by simp, by simp⟩⟩
theorem Own8.nil (w : World) (base : Nat) : Own8 w base (.slice none 0 0) [] := ⟨rfl, .inl ⟨rfl, rfl⟩⟩
set_option maxHeartbeats 1000000 in
theorem eight_any (N : Int) (h0 : 0 ≤ N) (h1 : N < 18446744073709551616) (w : World) :
    Calls Tryd.prog 68 #[.int .u64 N] w (AnsOb (be8 N) w) := by
  have hmk := fun W => run_make8 8 (C := 8) rfl (by omega) W
  obtain ⟨Z, hZ⟩ : ∃ Z : List Int, Z = List.replicate 8 0 := ⟨_, rfl⟩
  rw [← hZ] at hmk
  have HZ := Lib.hid hZ
  clear hZ
  go_enter Tryd.func68, Tryd.ntmps68
  go_wp2_with fail
  clear hmk
  go_loopw [8] (fun i wr => EbR N w i wr) (fun i _ => 8 - (intOf i).toNat)
  case atStart =>
    exact ⟨0, Z, by omega, rfl, Row.new _ _ _ _, by rw [HZ.out]; simp, fun j h => by omega, (Below.refl _ _).alloc (Nat.le_refl _) _⟩
  case round =>
    obtain ⟨k, zs, hk, rfl, hrow, hzl, hz, hb⟩ := hrel
    have HZE := Lib.hid hz
    have HZL := Lib.hid hzl
    clear hz
    rcases Nat.lt_or_ge k 8 with hlt | hge
    · have fz := hrow.frozen k
      have cz := hrow.cell (getElem?_dig (show k < zs.length by omega))
      have g1 : 0 ≤ 56 - 8 * (k : Int) := by omega
      have g2 : (56 - 8 * (k : Int)).toNat = 56 - 8 * k := by omega
      have q0 : 0 ≤ N / 2 ^ (56 - 8 * k) := Int.ediv_nonneg h0 (Int.le_of_lt (Int.pow_pos (by decide)))
      have HLT := hlt
      clear hzl
      go_wp2_with fail
      go_roundw
      case rel =>
        refine ⟨k + 1, _, by omega, by go_num, hrow.set _ _, by simpa using HZL.out, fun j hj => ?_, hb.setCell (Nat.le_refl _) _⟩
        rcases Nat.lt_or_ge j k with g | g
        · rw [dig_set_ne (by omega)]; exact HZE.out j g
        · obtain rfl : j = k := by omega
          rw [dig_set_same (by rw [HZL.out]; exact HLT)]
          have e : (256 : Int) ^ (7 - j) = 2 ^ (56 - 8 * j) := by
            have : (256 : Int) = 2 ^ 8 := by decide
            rw [this, ← Int.pow_mul]; congr 1; omega
          rw [e]
      case measure => simp [intOf]; omega
    · obtain rfl : k = 8 := by omega
      have hbe : zs = be8 N := ext_dig (by rw [HZL.out, be8_len]) (fun j hj => by rw [HZL.out] at hj; rw [HZE.out j hj, be8_dig_at hj])
      have HBE := Lib.hid hbe
      clear hzl hbe
      go_wp2_with fail
      go_ret
      have hrow' : Row wr w.heap.size 5 .u8 (be8 N) := by rw [← HBE.out]; exact hrow
      have ho := Own8.of_row hrow' (Nat.le_refl _) (by rw [be8_len]; omega)
      rw [be8_len] at ho
      exact ⟨_, rfl, ho, hb⟩
/-- The same, with the slice told. -/
def AnsLb (bs : List Int) (n : Nat) (w : World) (e : Ending) (w' : World) : Prop :=
  ∃ A c, e = .returned (.slice A n c) ∧ Rd .u8 w' A n bs ∧ n ≤ c ∧ (∀ a, A = some a → w.heap.size ≤ a.block) ∧ Own8 w' w.heap.size (.slice A n c) bs ∧ Below w.heap.size w w'
theorem AnsOb.l {bs : List Int} {n : Nat} {w w' : World} {e : Ending} (hn : bs.length = n) (h : AnsOb bs w e w') : AnsLb bs n w e w' := by
  obtain ⟨v, rfl, ho, hb⟩ := h
  obtain ⟨A, c, rfl, h1, h2, h3⟩ := ho.rd
  subst hn
  exact ⟨A, c, rfl, h1, h2, h3, ho, hb⟩
theorem eight_l (N : Int) (h0 : 0 ≤ N) (h1 : N < 18446744073709551616) (w : World) :
    Calls Tryd.prog 68 #[.int .u64 N] w (AnsLb (be8 N) 8 w) := (eight_any N h0 h1 w).mono fun _ _ h => h.l (be8_len N)
/-- The cells of a state. -/
def St.v (s : St) : Array Value := (s.l.map (Value.int .u32)).toArray
theorem size46 : (Tryd.prog.info? 105).map (·.size) = some 1 := by kernel_rfl
theorem size48 : (Tryd.prog.info? 107).map (·.size) = some 8 := by kernel_rfl
theorem St.v_size (s : St) : s.v.size = 8 := rfl
theorem St.v_at (s : St) {k : Nat} (h : k < 8) : s.v[k]? = some (.int .u32 (dig s.l k)) := by
  have e : s.l[k]? = some (dig s.l k) := getElem?_dig (by simpa [St.l] using h)
  unfold St.v
  rw [List.getElem?_toArray, List.getElem?_map, e]; rfl
def WbR (s : St) (w : World) (v i : Value) (wr : World) : Prop :=
  ∃ k : Nat, k ≤ 8 ∧ i = .int .i64 k ∧ Own8 wr w.heap.size v (wbs (s.l.take k)) ∧ Below w.heap.size w wr
set_option maxHeartbeats 4000000 in
set_option maxRecDepth 100000 in
theorem wordBytes_any (s : St) (hs : s.ok) (w : World) :
    Calls Tryd.prog 83 #[.agg s.v] w (AnsOb (wbs s.l) w) := by
  have hwd := St.wds hs
  have h0 := heap_alloc_new w (.cells s.v 107)
  have hsz := St.v_size s
  obtain ⟨V, hV⟩ : ∃ V, V = s.v := ⟨_, rfl⟩
  rw [← hV] at h0 hsz ⊢
  have HV := Lib.hid hV
  have H0 := Lib.hid h0
  clear hV h0
  have hmk := fun W => run_make8c 32 (C := 32) rfl (by omega) W
  have hrm := Own8.room (w.alloc (.cells V 107)) 32 (base := w.heap.size) (by simp) (by omega)
  have h0' := (Below.heap_alloc (w.alloc (.cells V 107)) (.cells ((List.replicate 32 0).map (Value.int .u8)).toArray 5) w.heap.size (by simp)).trans H0.out
  rw [show (w.alloc (.cells V 107)).heap.size = w.heap.size + 1 by simp] at hrm
  obtain ⟨Z, hZ⟩ : ∃ Z : List Int, Z = List.replicate 32 0 := ⟨_, rfl⟩
  rw [← hZ] at hmk hrm h0'
  have HRM := Lib.hid hrm
  have H0' := Lib.hid h0'
  clear hZ hrm h0'
  go_enter Tryd.func83, Tryd.ntmps83
  go_wp2_with (refine wpList_load_row rfl 107 (.tmp 1) rfl w.heap.size rfl _ V _ _ H0'.out Tryd.underlying107 rfl (by rw [hsz]; exact size48) ?_)
  clear hmk
  go_loopw [3, 8] (fun v i wr => WbR s w v i wr) (fun _ i _ => 8 - (intOf i).toNat)
  case atStart =>
    exact ⟨0, by omega, rfl, HRM.out, ((Below.refl _ _).alloc (Nat.le_refl _) _).alloc (by simp) _⟩
  case round =>
    obtain ⟨k, hk, rfl, ho, hb⟩ := hrel
    have hlen := wbs_len (s.l.take k)
    rw [List.length_take, show s.l.length = 8 from rfl] at hlen
    rcases Nat.lt_or_ge k 8 with hlt | hge
    · obtain ⟨x, hx⟩ : ∃ x, dig s.l k = x := ⟨_, rfl⟩
      have hv := St.v_at s hlt
      rw [hx, ← HV.out] at hv
      have wx := dig_wd hwd k
      rw [hx] at wx
      have hidx := fun W => run_index_arr (P := Tryd.prog) Tryd.underlying107 Tryd.underlying105 size46 .i64 hlt hv W
      have HX := Lib.hid hx
      have hkV : (k : Int) < 8 := by omega
      have hk8 : decide ((k : Int) < 8) = true := by simp; omega
      have HO := Lib.hid ho
      have hbs := hb.size
      have wx0 := wx.1
      have wx1 := wx.2
      clear hx ho
      have HO4 := Lib.hid (HO.out.alloc (.cells ((wb4 x).map (Value.int .u8)).toArray 5))
      have HR4 := Lib.hid (rowAll (Row.new wr 5 .u8 (wb4 x)) rfl)
      go_wp2_with (at_builtin; refine wpList_cat8 _ rfl _ _ 24 rfl w.heap.size 5 .u8 Tryd.underlying24 info8u _ _ (wbs (s.l.take k)) rfl HO4.out _ _ _ (wb4 x) rfl HR4.out (by omega) ?hb ?_)
      case hb => simp; omega
      rintro v' w' h1 h2
      go_wp2_with fail
      go_roundw
      case rel =>
        refine ⟨k + 1, by omega, by go_num, ?_, ?_⟩
        · rw [List.take_succ_eq_append_getElem (show k < s.l.length from hlt), wbs_append]
          have e : s.l[k]'(show k < s.l.length from hlt) = x := by
            rw [← HX.out]; exact (dig_lt (List.getElem?_eq_getElem _)).symm
          rw [e]
          have e2 : wbs [x] = wb4 x := by simp [wbs]
          rw [e2]
          unfold Own8
          rw [List.length_append, hlen, Nat.min_eq_left (by omega), List.map_append]
          exact h1
        · exact own_below ((hb.alloc hbs _)) HO4.out h2 (by simp; omega) (Nat.le_refl _)
      case measure => simp [intOf]; omega
    · obtain rfl : k = 8 := by omega
      rw [show s.l.take 8 = s.l from rfl] at ho
      go_wp2_with fail
      go_ret
      exact ⟨_, rfl, ho, hb⟩
end Go.Proofs.YtjalncdllegfoaaDoor
/-
  The builtin copy of bytes into a row that the call itself made.
-/
namespace Go.Proofs.YtjalncdllegfoaaDoor
open Go.RowKit
set_option linter.unusedVariables false
theorem grown_setRow (w : World) (g : Nat) (cs : Array Value) : w.grownBy (w.setRow g cs) (some g) :=
  ⟨rfl, rfl, rfl, by rw [setRow_size]; exact Nat.le_refl _, fun i _ hi => setRow_other w g i cs (fun e => hi (by rw [e]))⟩
theorem Row.setRow {w : World} {g : Nat} {t : TypeId} {k : IntKind} {xs : List Int} (h : Row w g t k xs) (ys : List Int) : Row (w.setRow g (ys.map (Value.int k)).toArray) g t k ys := setRow_heap w g _ _ t (0, 0) h
theorem size5 : (Tryd.prog.info? 5).map (·.size) = some 1 := by kernel_rfl
set_option maxRecDepth 100000 in
theorem copy8 {w : World} {g : Nat} {t : TypeId} {zs : List Int} (hg : Row w g t .u8 zs) {A : Option Addr} {n c : Nat} {xs : List Int} (hr : Rd .u8 w A n xs) (off dLen dCap : Nat) (hd : n ≤ dLen) (hfit : off + n ≤ zs.length) :
    ∃ w', (∀ ty, (Builtin.copy_ #[24, 24] ty #[.slice (some ⟨g, off, none⟩) dLen dCap, .slice A n c]).run Tryd.prog w = .ok (goInt n) w') ∧ Row w' g t .u8 (zs.take off ++ xs ++ zs.drop (off + n)) ∧ w.grownBy w' (some g) := by
  rcases Nat.eq_zero_or_pos n with g0 | g0
  · subst g0
    obtain rfl : xs = [] := List.eq_nil_of_length_eq_zero hr.len
    refine ⟨w, fun ty => ?_, by simpa using hg, World.grownBy.refl w _⟩
    exact run_copy_none (P := Tryd.prog) w _ _ ty 5 _ _ dLen dCap 0 c Tryd.underlying24 size5 (by simp)
  · obtain ⟨b, o, rfl, hb, hc⟩ := hr.cells g0
    have hl : (xs.map (Value.int .u8)).length = n := by simp [hr.len]
    refine ⟨w.setRow g ((zs.take off ++ xs ++ zs.drop (off + n)).map (Value.int .u8)).toArray, fun ty => ?_, hg.setRow _, grown_setRow w g _⟩
    have h := run_copy_row (P := Tryd.prog) w 24 24 ty 5 g off dLen dCap ⟨b, o, none⟩ n c _ t (xs.map (Value.int .u8)) Tryd.underlying24 size5 hg (by rw [hl]; exact (Nat.min_eq_left hd).symm) ?_ (by rw [hl]; simpa using hfit) (ints_oneCell _ _)
    · rw [h, hl]
      congr 2
      simp [List.map_take, List.map_drop]
    · intro j v hv
      rw [List.getElem?_map] at hv
      cases hx : xs[j]? with
      | none => rw [hx] at hv; cases hv
      | some x =>
        rw [hx] at hv
        obtain rfl := Option.some.inj hv
        rw [Addr.add_lit]
        exact hc j x hx
end Go.Proofs.YtjalncdllegfoaaDoor
/-
  What masked and padded answer.
-/
namespace Go.Proofs.YtjalncdllegfoaaDoor
open Go.RowKit
set_option linter.unusedVariables false
/-- The cells of an array of integers. -/
def arrV (k : IntKind) (l : List Int) : Array Value := (l.map (Value.int k)).toArray
theorem arrV_size (k : IntKind) (l : List Int) : (arrV k l).size = l.length := by simp [arrV]
theorem arrV_at (kk : IntKind) (l : List Int) {k : Nat} (h : k < l.length) : (arrV kk l)[k]? = some (.int kk (dig l k)) := by
  have e := getElem?_dig h
  unfold arrV
  rw [List.getElem?_toArray, List.getElem?_map, e]; rfl
theorem arrV_one (kk : IntKind) (l : List Int) : (arrV kk l).all (·.oneCell') = true := by
  rw [Array.all_eq_true_iff_forall_mem]
  intro v hv
  obtain ⟨x, _, rfl⟩ := List.mem_map.1 (by simpa [arrV] using hv)
  rfl
theorem size55 : (Tryd.prog.info? 111).map (·.size) = some 64 := by kernel_rfl
theorem mask_len (m : Int) (b : List Int) : (mask m b).length = b.length := by simp [mask]
theorem mask_dig_at (m : Int) (b : List Int) {j : Nat} (h : j < b.length) : dig (mask m b) j = bits .xor .u8 (dig b j) m := by
  refine dig_lt ?_
  unfold mask
  rw [List.getElem?_map, getElem?_dig h]; rfl
theorem mask_dig (m : Int) (b : List Int) : Dig 256 (mask m b) := by
  intro x hx
  simp only [mask, List.mem_map] at hx
  obtain ⟨y, _, rfl⟩ := hx
  unfold bits; rw [IntKind.wrap_u8]; omega
def MkR (m : Int) (b : List Int) (w : World) (i : Value) (wr : World) : Prop :=
  ∃ (k : Nat) (zs : List Int), k ≤ 64 ∧ i = .int .i64 k ∧ Row wr (w.heap.size + 1) 5 .u8 zs ∧ zs.length = 64 ∧ (∀ j, j < k → dig zs j = bits .xor .u8 (dig b j) m) ∧ Below w.heap.size w wr
set_option maxHeartbeats 4000000 in
set_option maxRecDepth 100000 in
theorem masked_any (m : Int) (b : List Int) (hb : b.length = 64) (w : World) :
    Calls Tryd.prog 69 #[.agg (arrV .u8 b), .int .u8 m] w (AnsOb (mask m b) w) := by
  have h0 := heap_alloc_new w (.cells (arrV .u8 b) 111)
  have hsz := arrV_size .u8 b
  have hat := fun k (h : k < b.length) => arrV_at .u8 b h
  obtain ⟨V, hV⟩ : ∃ V, V = arrV .u8 b := ⟨_, rfl⟩
  rw [← hV] at h0 hsz ⊢
  rw [← hV] at hat
  have HAT := Lib.hid hat
  have H0 := Lib.hid h0
  have hmk := fun W => run_make8 64 (C := 64) rfl (by omega) W
  have h0' := (Below.heap_alloc (w.alloc (.cells V 111)) (.cells ((List.replicate 64 0).map (Value.int .u8)).toArray 5) w.heap.size (by simp)).trans H0.out
  obtain ⟨Z, hZ⟩ : ∃ Z : List Int, Z = List.replicate 64 0 := ⟨_, rfl⟩
  rw [← hZ] at hmk h0'
  have H0' := Lib.hid h0'
  have HZ := Lib.hid hZ
  have HB := Lib.hid hb
  clear hZ h0' hV h0 hat hb
  go_enter Tryd.func69, Tryd.ntmps69
  go_wp2_with (refine wpList_load_row rfl 111 (.tmp 2) rfl w.heap.size rfl _ V _ _ H0'.out Tryd.underlying111 rfl (by rw [hsz, HB.out]; exact size55) ?_)
  clear hmk hsz
  go_loopw [10] (fun i wr => MkR m b w i wr) (fun i _ => 64 - (intOf i).toNat)
  case atStart =>
    have hr := Row.new (w.alloc (.cells V 111)) 5 .u8 Z
    rw [show (w.alloc (.cells V 111)).heap.size = w.heap.size + 1 by simp] at hr
    exact ⟨0, Z, by omega, rfl, hr, by rw [HZ.out]; simp, fun j h => by omega, ((Below.refl _ _).alloc (Nat.le_refl _) _).alloc (by simp) _⟩
  case round =>
    obtain ⟨k, zs, hk, rfl, hrow, hzl, hz, hb⟩ := hrel
    have HZE := Lib.hid hz
    have HZL := Lib.hid hzl
    clear hz
    rcases Nat.lt_or_ge k 64 with hlt | hge
    · have fz := hrow.frozen k
      have cz := hrow.cell (getElem?_dig (show k < zs.length by omega))
      obtain ⟨x, hx⟩ : ∃ x, dig b k = x := ⟨_, rfl⟩
      have hv := HAT.out k (by rw [HB.out]; exact hlt)
      rw [hx] at hv
      have HX := Lib.hid hx
      have hidx := fun W => run_index_arr (P := Tryd.prog) Tryd.underlying111 Tryd.underlying5 size5 .i64 hlt hv W
      have HLT := hlt
      clear hzl hx hv
      go_wp2_with fail
      go_roundw
      case rel =>
        refine ⟨k + 1, _, by omega, by go_num, hrow.set _ _, by simpa using HZL.out, fun j hj => ?_, hb.setCell (by simp) _⟩
        rcases Nat.lt_or_ge j k with g | g
        · rw [dig_set_ne (by omega)]; exact HZE.out j g
        · obtain rfl : j = k := by omega
          rw [dig_set_same (by rw [HZL.out]; exact HLT), HX.out]
      case measure => simp [intOf]; omega
    · obtain rfl : k = 64 := by omega
      have hbe : zs = mask m b := ext_dig (by rw [HZL.out, mask_len, HB.out]) (fun j hj => by rw [HZL.out] at hj; rw [HZE.out j hj, mask_dig_at m b (by rw [HB.out]; exact hj)])
      have hrow' : Row wr (w.heap.size + 1) 5 .u8 (mask m b) := by rw [← hbe]; exact hrow
      have hml : (mask m b).length = 64 := by rw [mask_len, HB.out]
      have ho := Own8.of_row hrow' (show w.heap.size ≤ w.heap.size + 1 by omega) (by rw [hml]; omega)
      rw [hml] at ho
      clear hzl hbe hml hrow'
      go_wp2_with fail
      go_ret
      exact ⟨_, rfl, ho, hb⟩
/-! ### padded -/
theorem pad_steps {tail : List Int} {n S L : Nat} (hl : tail.length = n) (hS : S = 64 ∧ n + 9 ≤ 64 ∨ S = 128 ∧ 64 < n + 9) (hn : n < 64) (hL : L % 64 = n) :
    (((List.replicate S 0).take 0 ++ tail ++ (List.replicate S 0).drop (0 + n)).set n 128).take (S - 8) ++ be8 (8 * (L : Int)) ++ (((List.replicate S 0).take 0 ++ tail ++ (List.replicate S 0).drop (0 + n)).set n 128).drop (S - 8 + 8) = tail ++ pad L := by
  have hf : fillN L = S - n - 9 := by unfold fillN; omega
  have e1 : ((List.replicate S (0 : Int)).take 0 ++ tail ++ (List.replicate S 0).drop (0 + n)).set n 128 = tail ++ 128 :: List.replicate (S - n - 1) 0 := by
    rw [List.take_zero, List.nil_append, Nat.zero_add, List.drop_replicate, List.set_append_right _ _ (by omega), hl, Nat.sub_self]
    congr 1
    obtain ⟨p, hp⟩ : ∃ p, S - n = p + 1 := ⟨S - n - 1, by omega⟩
    rw [hp, List.replicate_succ]; rfl
  rw [e1]
  have e2 : (tail ++ 128 :: List.replicate (S - n - 1) (0 : Int)).take (S - 8) = tail ++ 128 :: List.replicate (S - n - 9) 0 := by
    rw [List.take_append, hl, List.take_of_length_le (by omega)]
    congr 1
    obtain ⟨p, hp⟩ : ∃ p, S - 8 - n = p + 1 := ⟨S - 8 - n - 1, by omega⟩
    rw [hp, List.take_succ_cons, List.take_replicate, Nat.min_eq_left (by omega), show S - n - 9 = p by omega]
  have e3 : (tail ++ 128 :: List.replicate (S - n - 1) (0 : Int)).drop (S - 8 + 8) = [] := by
    apply List.drop_of_length_le
    rw [List.length_append, List.length_cons, List.length_replicate]; omega
  rw [e2, e3, List.append_nil]
  unfold pad
  rw [hf]
  simp
set_option maxHeartbeats 4000000 in
set_option maxRecDepth 100000 in
theorem padded_any {A : Option Addr} {n c L : Nat} {tail : List Int} {w : World} (hr : Rd .u8 w A n tail) (hn : n < 64) (hL : L % 64 = n) (hL2 : L ≤ 1125899906842624) :
    Calls Tryd.prog 84 #[.slice A n c, .int .u64 L] w (AnsOb (tail ++ pad L) w) := by
  obtain ⟨S, hS, hS2⟩ : ∃ S : Nat, (S = 64 ∧ n + 9 ≤ 64 ∨ S = 128 ∧ 64 < n + 9) ∧ True := by
    rcases Nat.lt_or_ge 64 (n + 9) with g | g
    · exact ⟨128, .inr ⟨rfl, g⟩, trivial⟩
    · exact ⟨64, .inl ⟨rfl, g⟩, trivial⟩
  have hps := pad_steps hr.len hS hn hL
  have hmk := fun W => run_make8 S (C := (S : Int)) rfl (by omega) W
  have hz := Row.new w 5 .u8 (List.replicate S 0)
  have hra := hr.alloc (.cells ((List.replicate S 0).map (Value.int .u8)).toArray 5)
  have hzl : (List.replicate S (0 : Int)).length = S := by simp
  obtain ⟨Z, hZ⟩ : ∃ Z : List Int, Z = List.replicate S 0 := ⟨_, rfl⟩
  rw [← hZ] at hmk hps hz hra hzl
  obtain ⟨w1, hcp, hrow1, hg1⟩ := copy8 hz hra (c := c) 0 S S (by omega) (by omega)
  have hl1 : (Z.take 0 ++ tail ++ Z.drop (0 + n)).length = S := by
    rw [List.length_append, List.length_append, List.length_take, List.length_drop, hr.len]; omega
  generalize Z.take 0 ++ tail ++ Z.drop (0 + n) = ys at hps hrow1 hl1
  have fz := hrow1.frozen n
  have cz := hrow1.cell (getElem?_dig (show n < ys.length by omega))
  have b1 : Below w.heap.size w w1 := below_grown ((Below.refl _ _).alloc (Nat.le_refl _) _) hg1 (by simp) (Nat.le_refl _)
  have hrow2 := hrow1.set n 128
  have b2 : Below w.heap.size w (w1.setCell ⟨w.heap.size, n, none⟩ (.int .u8 128)) := b1.setCell (Nat.le_refl _) _
  have hl2 : (ys.set n 128).length = S := by rw [List.length_set]; exact hl1
  have HPS := Lib.hid hps
  have HS := Lib.hid hS
  have HL2 := Lib.hid hl2
  have HR2 := Lib.hid hrow2
  have HB2 := Lib.hid b2
  have HB1 := Lib.hid b1
  have s1 : 8 ≤ S := by omega
  have s2 : S ≤ 128 := by omega
  have e8 : IntKind.u64.wrap (8 * (L : Int)) = 8 * (L : Int) := by rw [IntKind.wrap_u64]; omega
  have e9 : (S : Int) - 8 = ((S - 8 : Nat) : Int) := by omega
  have t1 : decide ((64 : Int) < (n : Int) + 1 + 8) = decide (S = 128) := by
    rcases hS with ⟨h1, h2⟩ | ⟨h1, h2⟩
    · simp; omega
    · simp; omega
  clear hps hS hrow1 hrow2 b1 b2 hl1 hl2 hz hra hg1 hzl
  rcases HS.out with ⟨h1, h2⟩ | ⟨h1, h2⟩
  · subst h1
    have hmk' := fun W => (show (Instr.makeSlice 24 (.int .i64 64) (.int .i64 64)).run Tryd.prog W = .ok (.slice (some ⟨W.heap.size, 0, none⟩) 64 64) (W.alloc (.cells (Z.map (Value.int .u8)).toArray 5)) from hmk W)
    have hcp' := fun ty => hcp ty
    clear hmk e9 hcp hZ s1 s2
    go_enter Tryd.func84, Tryd.ntmps84
    go_wp2_with fail
    go_region_with (go_at_call 68; refine (eight_l _ (by omega) (by omega) _).mono ?_; rintro e w3 ⟨A3, c3, rfl, hr3, -, -, -, hb3⟩; obtain ⟨w4, hcp4, hrow4, hg4⟩ := copy8 (HR2.out.drew.below hb3 (Row.lt HR2.out.drew)) hr3 (c := c3) 56 8 8 (by omega) (by rw [HL2.out]; omega); have HR4 := Lib.hid hrow4; have HG4 := Lib.hid hg4; have HB3 := Lib.hid hb3; clear hrow4 hg4 hb3)
    all_goals
      go_wp2_with fail
      go_ret
      have hb3 := HB2.out.drew.trans (HB3.out.mono HB2.out.drew.size)
      have hb4 := below_grown hb3 HG4.out hb3.size (Nat.le_refl _)
      have hrow5 : Row w4 w.heap.size 5 .u8 (tail ++ pad L) := by rw [← HPS.out]; exact HR4.out
      have hl : (tail ++ pad L).length = 64 := by rw [← HPS.out, List.length_append, List.length_append, List.length_take, List.length_drop, HL2.out, be8_len]; omega
      have ho := Own8.of_row hrow5 (Nat.le_refl _) (by omega)
      rw [hl] at ho
      exact ⟨_, rfl, ho, hb4⟩
  · subst h1
    have hmk' := fun W => (show (Instr.makeSlice 24 (.int .i64 128) (.int .i64 128)).run Tryd.prog W = .ok (.slice (some ⟨W.heap.size, 0, none⟩) 128 128) (W.alloc (.cells (Z.map (Value.int .u8)).toArray 5)) from hmk W)
    have hcp' := fun ty => hcp ty
    clear hmk e9 hcp hZ s1 s2
    go_enter Tryd.func84, Tryd.ntmps84
    go_wp2_with fail
    go_region_with (go_at_call 68; refine (eight_l _ (by omega) (by omega) _).mono ?_; rintro e w3 ⟨A3, c3, rfl, hr3, -, -, -, hb3⟩; obtain ⟨w4, hcp4, hrow4, hg4⟩ := copy8 (HR2.out.drew.below hb3 (Row.lt HR2.out.drew)) hr3 (c := c3) 120 8 8 (by omega) (by rw [HL2.out]; omega); have HR4 := Lib.hid hrow4; have HG4 := Lib.hid hg4; have HB3 := Lib.hid hb3; clear hrow4 hg4 hb3)
    all_goals
      go_wp2_with fail
      go_ret
      have hb3 := HB2.out.drew.trans (HB3.out.mono HB2.out.drew.size)
      have hb4 := below_grown hb3 HG4.out hb3.size (Nat.le_refl _)
      have hrow5 : Row w4 w.heap.size 5 .u8 (tail ++ pad L) := by rw [← HPS.out]; exact HR4.out
      have hl : (tail ++ pad L).length = 128 := by rw [← HPS.out, List.length_append, List.length_append, List.length_take, List.length_drop, HL2.out, be8_len]; omega
      have ho := Own8.of_row hrow5 (Nat.le_refl _) (by omega)
      rw [hl] at ho
      exact ⟨_, rfl, ho, hb4⟩
end Go.Proofs.YtjalncdllegfoaaDoor
/-
  Bytes appended to what the call itself makes, be they ever so many.
-/
namespace Go.Proofs.YtjalncdllegfoaaDoor
open Go.RowKit
set_option linter.unusedVariables false
section
variable {P : Program} (w : World)
/-- All of a slice more, nil or not. -/
theorem wp_catKw {o : Oper} {a : Act} {K : Act → World → Prop} {Q : Exit → Act → World → Prop} (s x : Operand) (t : TypeId)
    (ho : o.op = .call { callee := .builtin .append, args := #[s, x], argTypes := #[t, t] })
    (base : Nat) (by' : Nat) (e : TypeId) (k : IntKind) (ht : P.underlying t = some (.slice e)) (hi : (P.info? e).map (fun i => (i.zero, i.size, i.bytes)) = some (some (.int k 0), 1, by'))
    (hby : by' = 1) (v : Value) (n : Nat) (L : List Int) (hs : a.eval s = v) (hown : w.ownsRow base e 1 v n (L.map (Value.int k)))
    (A : Option Addr) (m c : Nat) (xs : List Int) (hx : a.eval x = .slice A m c) (hr : Rd k w A m xs) (hn : n + m ≤ 140737490452480) (hbase : base ≤ w.heap.size)
    (h : ∀ v' w', w'.ownsRow base e 1 v' (n + m) ((L ++ xs).map (Value.int k)) → w.grownBy w' v.ownBlock → K (a.put o.dst v') w') : o.wp P a w K Q := by
  obtain ⟨i0, h1, h2, h3, h4⟩ := info_parts hi
  cases A with
  | none =>
    have hm : m = 0 := by
      rcases Nat.eq_zero_or_pos m with g | g
      · exact g
      · obtain ⟨b, off, e, _⟩ := hr.cells g; cases e
    subst hm
    obtain rfl : xs = [] := List.eq_nil_of_length_eq_zero hr.len
    have hrun := run_app_nil (P := P) w base t o.type e i0 1 ht h1 v n _ hown c
    have hh := h v w (by simpa using hown) (World.grownBy.refl w _)
    unfold Oper.wp execOp
    simp only [ho, resolve, invoke, builtin, Sem.run_bind, Sem.run_pure, Result.andThen_ok, List.map_toArray, List.map_cons, List.map_nil, hs, hx, hrun]
    exact hh
  | some ad =>
    refine wp_append_own_wide w s x t ho base e i0 (.int k 0) 1 by' ht h1 h2 h3 h4 rfl (by decide) v n _ hs hown ad m c (xs.map (Value.int k)) hx (by simp [hr.len]) ?_ (ints_oneCell _ _) ?_ ?_ hbase (fun v' w' a b _ => h v' w' (by simpa using a) b)
    · intro j u hj
      rw [List.getElem?_map] at hj
      cases hxj : xs[j]? with
      | none => rw [hxj] at hj; cases hj
      | some x' =>
        rw [hxj] at hj
        injection hj with hj
        subst hj
        have hm : 0 < m := by
          rcases Nat.eq_zero_or_pos m with g | g
          · subst g
            rw [List.eq_nil_of_length_eq_zero hr.len] at hxj; simp at hxj
          · exact g
        obtain ⟨b, off, e, hb, hc⟩ := hr.cells hm
        injection e with e
        subst e
        rw [Addr.add_lit]
        exact hc j x' hxj
    · unfold maxLen; omega
    · subst hby; omega
theorem wpList_cat8w {ops : Array Oper} {rest : List Oper} {o : Oper} {a : Act} {Q : Exit → Act → World → Prop} (hgd : o.guard = none) (s x : Operand) (t : TypeId)
    (ho : o.op = .call { callee := .builtin .append, args := #[s, x], argTypes := #[t, t] })
    (base : Nat) (e : TypeId) (k : IntKind) (ht : P.underlying t = some (.slice e)) (hi : (P.info? e).map (fun i => (i.zero, i.size, i.bytes)) = some (some (.int k 0), 1, 1))
    (v : Value) (n : Nat) (L : List Int) (hs : a.eval s = v) (hown : w.ownsRow base e 1 v n (L.map (Value.int k)))
    (A : Option Addr) (m c : Nat) (xs : List Int) (hx : a.eval x = .slice A m c) (hr : Rd k w A m xs) (hn : n + m ≤ 140737490452480) (hbase : base ≤ w.heap.size)
    (h : ∀ v' w', w'.ownsRow base e 1 v' (n + m) ((L ++ xs).map (Value.int k)) → w.grownBy w' v.ownBlock → wpList P ops Q rest (a.put o.dst v') w') : wpList P ops Q (o :: rest) a w :=
  wpList_plain hgd fun _ hK => wp_catKw w s x t ho base 1 e k ht hi rfl v n L hs hown A m c xs hx hr hn hbase fun v' w' a b => hK _ _ (h v' w' a b)
end
end Go.Proofs.YtjalncdllegfoaaDoor
/-
  Memory that stays: what lies outside of some blocks. Slices of the call's own, of any kind of integers, that are turned cell by cell.
-/
namespace Go.Proofs.YtjalncdllegfoaaDoor
open Go.RowKit
set_option linter.unusedVariables false
/-- All blocks outside of X are as they were. -/
structure Kept (X : Nat → Prop) (w0 w : World) : Prop where
  size : w0.heap.size ≤ w.heap.size
  block : ∀ b, b < w0.heap.size → ¬ X b → w.heap[b]? = w0.heap[b]?
/-- A slice lies outside of X. -/
def Free (X : Nat → Prop) (A : Option Addr) : Prop := ∀ a, A = some a → ¬ X a.block
section
variable {X : Nat → Prop} {w0 w1 w : World}
theorem Kept.refl (X : Nat → Prop) (w : World) : Kept X w w := ⟨Nat.le_refl _, fun _ _ _ => rfl⟩
theorem Kept.trans (h : Kept X w0 w1) (h' : Kept X w1 w) : Kept X w0 w := ⟨Nat.le_trans h.size h'.size, fun b hb hx => (h'.block b (Nat.lt_of_lt_of_le hb h.size) hx).trans (h.block b hb hx)⟩
theorem Kept.of_below (h : Below w0.heap.size w0 w) : Kept X w0 w := ⟨h.size, fun b hb _ => h.block b hb⟩
theorem Kept.cell (h : Kept X w0 w) {p : Addr} (hp : p.block < w0.heap.size) (hx : ¬ X p.block) : w.cell? p = w0.cell? p := World.cell?_of_block (h.block _ hp hx)
theorem Kept.rd {k : IntKind} {A : Option Addr} {n : Nat} {xs : List Int} (h : Kept X w0 w) (hr : Rd k w0 A n xs) (hx : ∀ a, A = some a → a.block < w0.heap.size → ¬ X a.block) : Rd k w A n xs :=
  ⟨hr.len, fun hn => by
    obtain ⟨b, off, e, hb, hc⟩ := hr.cells hn
    exact ⟨b, off, e, Nat.lt_of_lt_of_le hb h.size, fun j x hj => (h.cell (p := ⟨b, off + j, none⟩) hb (hx ⟨b, off, none⟩ e hb)).trans (hc j x hj)⟩⟩
end
/-- A slice of the call's own, from base on, that may be stored into. -/
structure Mn (t : TypeId) (k : IntKind) (w : World) (base : Nat) (A : Option Addr) (n c : Nat) (xs : List Int) : Prop where
  len : xs.length = n
  nc : n ≤ c
  new : ∀ a, A = some a → base ≤ a.block
  lt : ∀ a, A = some a → a.block < w.heap.size
  row : 0 < n → ∃ (g : Nat) (cur : Array Value), A = some ⟨g, 0, none⟩ ∧ w.heap[g]? = some (.cells cur t (0, 0)) ∧ ∀ (j : Nat) (x : Int), xs[j]? = some x → cur[j]? = some (Value.int k x)
section
variable {t : TypeId} {k : IntKind} {w w' : World} {base : Nat} {A : Option Addr} {n c : Nat} {xs : List Int}
theorem Mn.kept {X : Nat → Prop} (h : Mn t k w base A n c xs) (hk : Kept X w w') (hx : ∀ a, A = some a → ¬ X a.block) : Mn t k w' base A n c xs :=
  ⟨h.len, h.nc, h.new, fun a ha => Nat.lt_of_lt_of_le (h.lt a ha) hk.size, fun hn => by
    obtain ⟨g, cur, e, hg, hc⟩ := h.row hn
    exact ⟨g, cur, e, (hk.block g (Array.getElem?_eq_some_iff.1 hg).1 (hx _ e)).trans hg, hc⟩⟩
theorem Mn.below (h : Mn t k w base A n c xs) (hb : Below w.heap.size w w') : Mn t k w' base A n c xs := h.kept (X := fun _ => False) (Kept.of_below hb) (fun _ _ h => h)
theorem Mn.rd (h : Mn t k w base A n c xs) : Rd k w A n xs :=
  ⟨h.len, fun hn => by
    obtain ⟨g, cur, e, hg, hc⟩ := h.row hn
    exact ⟨g, 0, e, (Array.getElem?_eq_some_iff.1 hg).1, fun j x hx => by rw [Nat.zero_add, cell_of_row w g j cur _ _ hg]; exact hc j x hx⟩⟩
theorem mn_own {v : Value} (h : w.ownsRow base t 1 v n (xs.map (Value.int k))) : ∃ A c, v = .slice A n c ∧ Mn t k w base A n c xs := by
  have hl : xs.length = n := by have := h.1; simpa using this
  rcases h.2 with ⟨rfl, rfl⟩ | ⟨g, cap, cur, rfl, hb, hg, hnc, hm, hs, ht⟩
  · exact ⟨none, 0, rfl, hl, Nat.le_refl _, fun a ha => (by cases ha), fun a ha => (by cases ha), fun h => absurd h (by omega)⟩
  · refine ⟨_, cap, rfl, hl, hnc, fun a ha => by injection ha with ha; subst ha; exact hb, fun a ha => by injection ha with ha; subst ha; exact (Array.getElem?_eq_some_iff.1 hg).1, fun hn => ⟨g, cur, rfl, hg, fun j x hx => ?_⟩⟩
    have hj : j < n := by
      rcases Nat.lt_or_ge j n with q | q
      · exact q
      · rw [List.getElem?_eq_none (by omega)] at hx; cases hx
    have h1 : (cur.toList.take (n * 1))[j]? = some (.int k x) := by rw [ht, List.getElem?_map, hx]; rfl
    rw [List.getElem?_take_of_lt (by omega)] at h1
    simpa using h1
theorem mn_row {g : Nat} (h : Row w g t k xs) (hl : xs.length = n) (hnc : n ≤ c) (hb : base ≤ g) : Mn t k w base (some ⟨g, 0, none⟩) n c xs :=
  ⟨hl, hnc, fun a ha => by injection ha with ha; subst ha; exact hb, fun a ha => by injection ha with ha; subst ha; exact h.lt, fun _ => ⟨g, _, rfl, h, fun j x hx => by simp [hx]⟩⟩
end
/-- Only what the slice A has may have turned. -/
structure Trd (t : TypeId) (k : IntKind) (A : Option Addr) (n : Nat) (w0 w : World) : Prop where
  zero : n = 0 → w = w0
  row : 0 < n → ∃ (g : Nat) (cur : Array Value), A = some ⟨g, 0, none⟩ ∧ w.heap[g]? = some (.cells cur t (0, 0)) ∧ (∀ j, j < n → ∃ x : Int, cur[j]? = some (Value.int k x)) ∧ w0.grownBy w (some g)
section
variable {t : TypeId} {k : IntKind} {A : Option Addr} {n c : Nat} {w0 w a : World}
theorem Trd.start {base : Nat} {xs : List Int} (h : Mn t k w base A n c xs) : Trd t k A n w w :=
  ⟨fun _ => rfl, fun hn => by
    obtain ⟨g, cur, e, hg, hc⟩ := h.row hn
    exact ⟨g, cur, e, hg, fun j hj => ⟨_, hc j _ (getElem?_dig (by have := h.len; omega))⟩, World.grownBy.refl w _⟩⟩
theorem Trd.below {B : Nat} (h : Trd t k A n w0 w) (hb : Below B a w0) (hB : B ≤ w0.heap.size) (hg : ∀ x, A = some x → B ≤ x.block) : Below B a w := by
  rcases Nat.eq_zero_or_pos n with g | g
  · rw [h.zero g]; exact hb
  · obtain ⟨g, cur, e, -, -, gr⟩ := h.row g
    exact below_grown hb gr hB (hg _ e)
theorem Trd.kept {X : Nat → Prop} (h : Trd t k A n w0 w) (hx : ∀ a, A = some a → X a.block) : Kept X w0 w := by
  rcases Nat.eq_zero_or_pos n with g | g
  · rw [h.zero g]; exact Kept.refl _ _
  · obtain ⟨g, cur, e, -, -, gr⟩ := h.row g
    exact ⟨gr.size, fun b hb hn => gr.block b hb (fun he => hn (by injection he with he; rw [he]; exact hx _ e))⟩
/-- One cell more. -/
theorem Trd.step {j g : Nat} {cur : Array Value} {x : Int} (hA : A = some ⟨g, 0, none⟩) (hk : j < n) (hg : w.heap[g]? = some (.cells cur t (0, 0))) (hc : ∀ j, j < n → ∃ x : Int, cur[j]? = some (Value.int k x)) (gr : w0.grownBy w (some g)) :
    Trd t k A n w0 (w.setCell ⟨g, j, none⟩ (.int k x)) := by
  refine ⟨fun h => by omega, fun _ => ⟨g, cur.setIfInBounds j (.int k x), hA, ?_, fun i hi => ?_, grown_setCell gr j _⟩⟩
  · rw [setCell_eq_setRow w g j cur _ _ _ hg]; exact setRow_heap w g cur _ _ _ hg
  · rw [Array.getElem?_setIfInBounds]
    split
    · rename_i h
      subst h
      obtain ⟨y, hy⟩ := hc j hk
      have := (Array.getElem?_eq_some_iff.1 hy).1
      rw [if_pos this]
      exact ⟨x, rfl⟩
    · exact hc i hi
end
end Go.Proofs.YtjalncdllegfoaaDoor
