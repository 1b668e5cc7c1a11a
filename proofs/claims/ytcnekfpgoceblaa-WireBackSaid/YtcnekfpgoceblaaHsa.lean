/-
  Several texts in one: Shn, Hs1, Cat, Arr, Cnv, Hs2, Mn, Rnu, Rts, Rtc, Rpr, Shd0.
-/
import Derived.Test.YtcnekfpgoceblaaPka
import Derived.Laws.BitsLemmas
import Derived.RegionTactic
import Derived.BigRegion
import Derived.StillTailTactics
import Derived.Test.YtcnekfpgoceblaaPkf
import Derived.OwnWalk
import Derived.Laws.CopyOwn
import Derived.Laws.PanicsMore
import Derived.Test.YtcnekfpgoceblaaPkg
import Derived.Deep.WholeRow
import Derived.Laws.Rows
import Derived.Laws.Tables
import Derived.Deep.CutBlock
import Derived.Deep.DeepCutAuto
/-
  SHA-256 and what is made with it, over lists of integers; no program is spoken of here.
-/
namespace Go.Proofs.Ytcnekfpgoceblaa
set_option linter.unusedVariables false
/-! ### Words -/
/-- Rotated to the right by n. -/
def rot (n : Nat) (x : Int) : Int := x / 2 ^ n + x % 2 ^ n * 2 ^ (32 - n)
def ad (x y : Int) : Int := IntKind.u32.wrap (x + y)
def xo (x y : Int) : Int := bits .xor .u32 x y
def an (x y : Int) : Int := bits .and .u32 x y
def sg0 (x : Int) : Int := xo (xo (rot 7 x) (rot 18 x)) (x / 8)
def sg1 (x : Int) : Int := xo (xo (rot 17 x) (rot 19 x)) (x / 1024)
def suE (e : Int) : Int := xo (xo (rot 6 e) (rot 11 e)) (rot 25 e)
def suA (a : Int) : Int := xo (xo (rot 2 a) (rot 13 a)) (rot 22 a)
def chE (e f g : Int) : Int := xo (an e f) (an (xo 4294967295 e) g)
def mjA (a b c : Int) : Int := xo (xo (an a b) (an a c)) (an b c)
/-- A word. -/
def Wd (x : Int) : Prop := 0 ≤ x ∧ x < 4294967296
theorem ad_wd (x y : Int) : Wd (ad x y) := by unfold Wd ad; rw [IntKind.wrap_u32]; omega
theorem xo_wd (x y : Int) : Wd (xo x y) := by unfold Wd xo bits; rw [IntKind.wrap_u32]; omega
theorem an_wd (x y : Int) : Wd (an x y) := by unfold Wd an bits; rw [IntKind.wrap_u32]; omega
/-- The state. -/
structure St where
  a : Int
  b : Int
  c : Int
  d : Int
  e : Int
  f : Int
  g : Int
  h : Int
def St.l (s : St) : List Int := [s.a, s.b, s.c, s.d, s.e, s.f, s.g, s.h]
def St.ok (s : St) : Prop := Wd s.a ∧ Wd s.b ∧ Wd s.c ∧ Wd s.d ∧ Wd s.e ∧ Wd s.f ∧ Wd s.g ∧ Wd s.h
def t1f (k w : Int) (s : St) : Int := ad (ad (ad (ad s.h (suE s.e)) (chE s.e s.f s.g)) k) w
def t2f (s : St) : Int := ad (suA s.a) (mjA s.a s.b s.c)
/-- One round. -/
def rnd (k w : Int) (s : St) : St := ⟨ad (t1f k w s) (t2f s), s.a, s.b, s.c, ad s.d (t1f k w s), s.e, s.f, s.g⟩
theorem rnd_ok {k w : Int} {s : St} (h : s.ok) : (rnd k w s).ok := ⟨ad_wd _ _, h.1, h.2.1, h.2.2.1, ad_wd _ _, h.2.2.2.2.1, h.2.2.2.2.2.1, h.2.2.2.2.2.2.1⟩
/-- The first n rounds. -/
def rnds (K M : List Int) (s : St) : Nat → St
  | 0 => s
  | n + 1 => rnd (dig K n) (dig M n) (rnds K M s n)
theorem rnds_ok {K M : List Int} {s : St} (h : s.ok) : ∀ n, (rnds K M s n).ok
  | 0 => h
  | n + 1 => rnd_ok (rnds_ok h n)
/-! ### A block's words -/
def nxt (m : List Int) : Int := ad (ad (ad (dig m (m.length - 16)) (sg0 (dig m (m.length - 15)))) (dig m (m.length - 7))) (sg1 (dig m (m.length - 2)))
def ext (m : List Int) : Nat → List Int
  | 0 => m
  | n + 1 => ext m n ++ [nxt (ext m n)]
theorem ext_len (m : List Int) : ∀ n, (ext m n).length = m.length + n
  | 0 => rfl
  | n + 1 => by simp only [ext, List.length_append, List.length_cons, List.length_nil, ext_len m n]; omega
/-- Word i of bytes. -/
def wdAt (b : List Int) (i : Nat) : Int := ((dig b (4 * i) * 256 + dig b (4 * i + 1)) * 256 + dig b (4 * i + 2)) * 256 + dig b (4 * i + 3)
def bwN (b : List Int) (n : Nat) : List Int := (List.range n).map (wdAt b)
theorem bwN_len (b : List Int) (n : Nat) : (bwN b n).length = n := by simp [bwN]
theorem bwN_succ (b : List Int) (n : Nat) : bwN b (n + 1) = bwN b n ++ [wdAt b n] := by simp [bwN, List.range_succ]
def sched (b : List Int) : List Int := ext (bwN b 16) 48
theorem sched_len (b : List Int) : (sched b).length = 64 := by unfold sched; rw [ext_len, bwN_len]
def Wds (m : List Int) : Prop := ∀ x ∈ m, Wd x
theorem wdAt_wd {b : List Int} (h : Dig 256 b) (i : Nat) : Wd (wdAt b i) := by
  have h0 := dig_bd (b := 256) (by decide) h (4 * i)
  have h1 := dig_bd (b := 256) (by decide) h (4 * i + 1)
  have h2 := dig_bd (b := 256) (by decide) h (4 * i + 2)
  have h3 := dig_bd (b := 256) (by decide) h (4 * i + 3)
  unfold Wd wdAt; omega
theorem bwN_wds {b : List Int} (h : Dig 256 b) (n : Nat) : Wds (bwN b n) := by
  intro x hx
  simp only [bwN, List.mem_map] at hx
  obtain ⟨i, _, rfl⟩ := hx
  exact wdAt_wd h i
theorem ext_wds {m : List Int} (h : Wds m) : ∀ n, Wds (ext m n)
  | 0 => h
  | n + 1 => fun x hx => by
    simp only [ext, List.mem_append, List.mem_singleton] at hx
    rcases hx with hx | rfl
    · exact ext_wds h n x hx
    · exact ad_wd _ _
theorem dig_wd {m : List Int} (h : Wds m) (i : Nat) : Wd (dig m i) := dig_bd (b := 4294967296) (by decide) h i
/-! ### Blocks -/
def KT : List Int := [1116352408, 1899447441, 3049323471, 3921009573, 961987163, 1508970993, 2453635748, 2870763221, 3624381080, 310598401, 607225278, 1426881987, 1925078388, 2162078206, 2614888103, 3248222580, 3835390401, 4022224774, 264347078, 604807628, 770255983, 1249150122, 1555081692, 1996064986, 2554220882, 2821834349, 2952996808, 3210313671, 3336571891, 3584528711, 113926993, 338241895, 666307205, 773529912, 1294757372, 1396182291, 1695183700, 1986661051, 2177026350, 2456956037, 2730485921, 2820302411, 3259730800, 3345764771, 3516065817, 3600352804, 4094571909, 275423344, 430227734, 506948616, 659060556, 883997877, 958139571, 1322822218, 1537002063, 1747873779, 1955562222, 2024104815, 2227730452, 2361852424, 2428436474, 2756734187, 3204031479, 3329325298]
def H0 : St := ⟨1779033703, 3144134277, 1013904242, 2773480762, 1359893119, 2600822924, 528734635, 1541459225⟩
theorem H0_ok : H0.ok := by unfold St.ok Wd H0; decide
theorem KT_wds : Wds KT := by unfold Wds Wd; decide
theorem KT_len : KT.length = 64 := rfl
def addS (s r : St) : St := ⟨ad s.a r.a, ad s.b r.b, ad s.c r.c, ad s.d r.d, ad s.e r.e, ad s.f r.f, ad s.g r.g, ad s.h r.h⟩
theorem addS_ok (s r : St) : (addS s r).ok := ⟨ad_wd _ _, ad_wd _ _, ad_wd _ _, ad_wd _ _, ad_wd _ _, ad_wd _ _, ad_wd _ _, ad_wd _ _⟩
/-- The state behind one block. -/
def comp (s : St) (b : List Int) : St := addS s (rnds KT (sched b) s 64)
/-- The state behind the first j blocks of bytes. -/
def absb (s : St) (l : List Int) : Nat → St
  | 0 => s
  | j + 1 => comp (absb s l j) ((l.drop (64 * j)).take 64)
theorem absb_ok {s : St} (h : s.ok) (l : List Int) : ∀ j, (absb s l j).ok
  | 0 => h
  | j + 1 => addS_ok _ _
theorem absb_take {s : St} {l m : List Int} : ∀ {j : Nat}, (∀ i, i < 64 * j → l[i]? = m[i]?) → absb s l j = absb s m j
  | 0, _ => rfl
  | j + 1, h => by
    have e : (l.drop (64 * j)).take 64 = (m.drop (64 * j)).take 64 := by
      apply List.ext_getElem?
      intro i
      rcases Nat.lt_or_ge i 64 with hi | hi
      · rw [List.getElem?_take_of_lt hi, List.getElem?_take_of_lt hi, List.getElem?_drop, List.getElem?_drop]
        exact h _ (by omega)
      · rw [List.getElem?_eq_none (by rw [List.length_take]; omega), List.getElem?_eq_none (by rw [List.length_take]; omega)]
    show comp (absb s l j) _ = comp (absb s m j) _
    rw [e, absb_take (fun i hi => h i (by omega))]
/-- Blocks behind whole blocks. -/
theorem absb_add (s : St) (l : List Int) (p : Nat) : ∀ j, absb s l (p + j) = absb (absb s l p) (l.drop (64 * p)) j
  | 0 => rfl
  | j + 1 => by
    show comp (absb s l (p + j)) _ = comp _ _
    rw [absb_add s l p j, List.drop_drop, show 64 * p + 64 * j = 64 * (p + j) by omega]
    rfl
theorem absb_append {s : St} {l m : List Int} {p : Nat} (hl : l.length = 64 * p) (j : Nat) : absb s (l ++ m) (p + j) = absb (absb s l p) m j := by
  rw [absb_add, List.drop_left' hl]
  congr 1
  exact absb_take fun i hi => List.getElem?_append_left (by omega)
/-! ### Bytes -/
/-- A number as eight bytes, the highest first. -/
def be8 (n : Int) : List Int := (List.range 8).map fun i => n / 256 ^ (7 - i) % 256
theorem be8_len (n : Int) : (be8 n).length = 8 := by simp [be8]
theorem be8_dig (n : Int) : Dig 256 (be8 n) := by
  intro x hx
  simp only [be8, List.mem_map] at hx
  obtain ⟨i, _, rfl⟩ := hx
  omega
def wb4 (x : Int) : List Int := [x / 16777216, x / 65536 % 256, x / 256 % 256, x % 256]
theorem wb4_dig {x : Int} (h : Wd x) : Dig 256 (wb4 x) := by
  unfold Wd at h
  intro y hy
  simp only [wb4, List.mem_cons, List.not_mem_nil, or_false] at hy
  rcases hy with rfl | rfl | rfl | rfl <;> omega
/-- The bytes of words. -/
def wbs (m : List Int) : List Int := m.flatMap wb4
theorem wbs_append (m k : List Int) : wbs (m ++ k) = wbs m ++ wbs k := by simp [wbs]
theorem wbs_len (m : List Int) : (wbs m).length = 4 * m.length := by
  induction m with
  | nil => rfl
  | cons x m ih => simp only [wbs, List.flatMap_cons, List.length_append, wb4, List.length_cons, List.length_nil] at ih ⊢; omega
theorem wbs_dig {m : List Int} (h : Wds m) : Dig 256 (wbs m) := by
  intro y hy
  simp only [wbs, List.mem_flatMap] at hy
  obtain ⟨x, hx, hy⟩ := hy
  exact wb4_dig (h x hx) y hy
theorem St.wds {s : St} (h : s.ok) : Wds s.l := by
  obtain ⟨h1, h2, h3, h4, h5, h6, h7, h8⟩ := h
  intro x hx
  simp only [St.l, List.mem_cons, List.not_mem_nil, or_false] at hx
  rcases hx with rfl | rfl | rfl | rfl | rfl | rfl | rfl | rfl <;> assumption
/-- How many noughts are filled in behind n bytes and 128. -/
def fillN (n : Nat) : Nat := (119 - n % 64) % 64
def pad (n : Nat) : List Int := 128 :: (List.replicate (fillN n) 0 ++ be8 (8 * (n : Int)))
theorem pad_len (n : Nat) : (pad n).length = 9 + fillN n := by simp [pad, be8_len]; omega
theorem pad_all (n : Nat) : (n + (pad n).length) % 64 = 0 := by rw [pad_len]; unfold fillN; omega
theorem pad_dig (n : Nat) : Dig 256 (pad n) := by
  intro x hx
  simp only [pad, List.mem_cons, List.mem_append, List.mem_replicate] at hx
  rcases hx with rfl | ⟨_, rfl⟩ | hx
  · decide
  · decide
  · exact be8_dig _ x hx
/-- The digest of bytes. -/
def shaS (l : List Int) : St := absb H0 (l ++ pad l.length) ((l.length + (pad l.length).length) / 64)
def sha (l : List Int) : List Int := wbs (shaS l).l
theorem shaS_ok (l : List Int) : (shaS l).ok := absb_ok H0_ok _ _
theorem sha_len (l : List Int) : (sha l).length = 32 := by unfold sha; rw [wbs_len]; rfl
theorem sha_dig (l : List Int) : Dig 256 (sha l) := wbs_dig (St.wds (shaS_ok l))
/-- Parts, each behind its length. -/
def fr (l : List (List Int)) : List Int := l.flatMap fun p => be8 p.length ++ p
theorem fr_nil : fr [] = [] := rfl
theorem fr_append (l m : List (List Int)) : fr (l ++ m) = fr l ++ fr m := by simp [fr]
theorem fr_one (p : List Int) : fr [p] = be8 p.length ++ p := by simp [fr]
def parts (l : List (List Int)) : List Int := sha (fr l)
/-- A key as a block of 64 bytes. -/
def keyB (k : List Int) : List Int := (if 64 < k.length then sha k else k) ++ List.replicate (64 - (if 64 < k.length then sha k else k).length) 0
def mask (m : Int) (b : List Int) : List Int := b.map fun x => bits .xor .u8 x m
def mac (k b : List Int) : List Int := sha (mask 92 (keyB k) ++ sha (mask 54 (keyB k) ++ b))
/-- The first m pieces of a key's row. -/
def strm (k : List Int) : Nat → List Int
  | 0 => []
  | m + 1 => strm k m ++ parts [k, be8 (m : Int)]
theorem strm_len (k : List Int) : ∀ m, (strm k m).length = 32 * m
  | 0 => rfl
  | m + 1 => by simp only [strm, List.length_append, strm_len k m, parts, sha_len]; omega
theorem strm_dig (k : List Int) : ∀ m, Dig 256 (strm k m)
  | 0 => dig_nil _
  | m + 1 => fun x hx => by
    simp only [strm, List.mem_append] at hx
    rcases hx with hx | hx
    · exact strm_dig k m x hx
    · exact sha_dig _ x hx
/-- The first n bytes of a key's row. -/
def stream (k : List Int) (n : Nat) : List Int := (strm k ((n + 31) / 32)).take n
theorem strm_take (k : List Int) {m : Nat} : ∀ {p : Nat}, m ≤ p → (strm k p).take (32 * m) = strm k m
  | 0, h => by obtain rfl : m = 0 := by omega
               rfl
  | p + 1, h => by
    rcases Nat.lt_or_ge p m with g | g
    · obtain rfl : m = p + 1 := by omega
      exact List.take_of_length_le (by rw [strm_len]; exact Nat.le_refl _)
    · simp only [strm]
      rw [List.take_append_of_le_length (by rw [strm_len]; omega), strm_take k g]
theorem stream_of (k : List Int) {m n : Nat} (h : n ≤ 32 * m) : (strm k m).take n = stream k n := by
  unfold stream
  rw [← strm_take k (show (n + 31) / 32 ≤ m by omega), List.take_take, Nat.min_eq_left (by omega)]
theorem stream_len (k : List Int) (n : Nat) : (stream k n).length = n := by unfold stream; rw [List.length_take, strm_len]; omega
theorem stream_take (k : List Int) {m n : Nat} (h : m ≤ n) : (stream k n).take m = stream k m := by
  have := stream_of k (m := (n + 31) / 32) (n := m) (by omega)
  rw [← this]
  unfold stream
  rw [List.take_take, Nat.min_eq_left h]
end Go.Proofs.Ytcnekfpgoceblaa
/-
  What the small calls of package hash answer: right, wholeBlocks, eightBytes.
-/
namespace Go.Proofs.Ytcnekfpgoceblaa
open Go.RowKit
set_option linter.unusedVariables false
theorem wraps_u32 (n : Int) (h0 : 0 ≤ n) (h1 : n < 2 ^ 32) : IntKind.u32.wrap n = n := by rw [IntKind.wrap_u32]; omega
theorem wraps_u64 (n : Int) (h0 : 0 ≤ n) (h1 : n < 2 ^ 64) : IntKind.u64.wrap n = n := by rw [IntKind.wrap_u64]; omega
theorem rot_by {n : Nat} (h1 : 1 ≤ n) (h2 : n ≤ 31) : bits .and .u64 (IntKind.u64.wrap (-(n : Int))) 31 = 32 - (n : Int) := by
  have h := bits_mask .u64 64 (by decide) wraps_u64 5 (by decide) (IntKind.u64.wrap (-(n : Int))) (by rw [IntKind.wrap_u64]; omega) (by rw [IntKind.wrap_u64]; omega)
  rw [show (2 : Int) ^ 5 - 1 = 31 by decide, show (2 : Int) ^ 5 = 32 by decide] at h
  rw [h, IntKind.wrap_u64]
  omega
theorem pow_split (n : Nat) (h : n ≤ 32) : (2 : Int) ^ n * 2 ^ (32 - n) = 4294967296 := by rw [← Int.pow_add, show n + (32 - n) = 32 by omega]; decide
theorem rot_or {n : Nat} (h2 : n ≤ 32) {x : Int} (hx : Wd x) : bits .or .u32 (IntKind.u32.wrap (x * 2 ^ (32 - n))) (x / 2 ^ n) = rot n x ∧ Wd (rot n x) := by
  have hm := pow_split n h2
  have hp : (0 : Int) < 2 ^ n := Int.pow_pos (by decide)
  have hq : (0 : Int) < 2 ^ (32 - n) := Int.pow_pos (by decide)
  have e : IntKind.u32.wrap (x * 2 ^ (32 - n)) = x % 2 ^ n * 2 ^ (32 - n) := by
    rw [IntKind.wrap_u32, ← hm, Int.mul_comm x, Int.mul_comm (2 ^ n), Int.mul_emod_mul_of_pos _ _ hq, Int.mul_comm]
  have r0 := Int.emod_nonneg x (show (2 : Int) ^ n ≠ 0 by omega)
  have r1 := Int.emod_lt_of_pos x hp
  have a0 := Int.mul_nonneg r0 (show (0 : Int) ≤ 2 ^ (32 - n) by omega)
  have a1 := Int.mul_le_mul_of_nonneg_right (show x % 2 ^ n + 1 ≤ 2 ^ n by omega) (show (0 : Int) ≤ 2 ^ (32 - n) by omega)
  rw [hm, Int.add_mul] at a1
  have b0 : 0 ≤ x / 2 ^ n := Int.ediv_nonneg hx.1 (by omega)
  have b1 : x / 2 ^ n < 2 ^ (32 - n) := Int.ediv_lt_of_lt_mul hp (by rw [Int.mul_comm, hm]; exact hx.2)
  rw [e]
  refine ⟨?_, ?_⟩
  · rw [bits_join .u32 32 (by decide) wraps_u32 (32 - n) _ _ a0 (Int.mul_emod_left _ _) (by omega) b0 b1 (by omega)]
    unfold rot; omega
  · unfold rot Wd; omega
end Go.Proofs.Ytcnekfpgoceblaa
/-
  Integers of any size appended to what the call itself makes.
-/
namespace Go.Proofs.Ytcnekfpgoceblaa
open Go.RowKit
set_option linter.unusedVariables false
section
variable {P : Program} (w : World)
/-- All of a slice more, nil or not. -/
theorem wp_catK {o : Oper} {a : Act} {K : Act → World → Prop} {Q : Exit → Act → World → Prop} (s x : Operand) (t : TypeId)
    (ho : o.op = .call { callee := .builtin .append, args := #[s, x], argTypes := #[t, t] })
    (base : Nat) (by' : Nat) (e : TypeId) (k : IntKind) (ht : P.underlying t = some (.slice e)) (hi : (P.info? e).map (fun i => (i.zero, i.size, i.bytes)) = some (some (.int k 0), 1, by'))
    (hby : by' ≤ 16) (v : Value) (n : Nat) (L : List Int) (hs : a.eval s = v) (hown : w.ownsRow base e 1 v n (L.map (Value.int k)))
    (A : Option Addr) (m c : Nat) (xs : List Int) (hx : a.eval x = .slice A m c) (hr : Rd k w A m xs) (hn : n + m ≤ 8796093022208) (hbase : base ≤ w.heap.size)
    (h : ∀ v' w', w'.ownsRow base e 1 v' (n + m) ((L ++ xs).map (Value.int k)) → w.grownBy w' v.ownBlock → K (a.put o.dst v') w') : o.wp P a w K Q := by
  obtain ⟨i0, h1, h2, h3, h4⟩ := info_parts hi
  cases A with
  | none =>
    have hm : m = 0 := by
      rcases Nat.eq_zero_or_pos m with g | g
      · exact g
      · obtain ⟨b, off, e, _⟩ := hr.cells g; cases e
    subst hm
    obtain rfl : xs = [] := List.eq_nil_of_length_eq_zero hr.len
    have hrun := run_app_nil (P := P) w base t o.type e i0 1 ht h1 v n _ hown c
    have hh := h v w (by simpa using hown) (World.grownBy.refl w _)
    unfold Oper.wp execOp
    simp only [ho, resolve, invoke, builtin, Sem.run_bind, Sem.run_pure, Result.andThen_ok, List.map_toArray, List.map_cons, List.map_nil, hs, hx, hrun]
    exact hh
  | some ad =>
    refine wp_append_own w s x t ho base e i0 (.int k 0) 1 by' ht h1 h2 h3 h4 rfl (by decide) v n _ hs hown ad m c (xs.map (Value.int k)) hx (by simp [hr.len]) ?_ (ints_oneCell _ _) ?_ ?_ hbase (fun v' w' a b _ => h v' w' (by simpa using a) b)
    · intro j u hj
      rw [List.getElem?_map] at hj
      cases hxj : xs[j]? with
      | none => rw [hxj] at hj; cases hj
      | some x' =>
        rw [hxj] at hj
        injection hj with hj
        subst hj
        have hm : 0 < m := by
          rcases Nat.eq_zero_or_pos m with g | g
          · subst g
            rw [List.eq_nil_of_length_eq_zero hr.len] at hxj; simp at hxj
          · exact g
        obtain ⟨b, off, e, hb, hc⟩ := hr.cells hm
        injection e with e
        subst e
        rw [Addr.add_lit]
        exact hc j x' hxj
    · unfold maxLen; omega
    · have := Nat.mul_le_mul hn hby; omega
theorem wpList_catK {ops : Array Oper} {rest : List Oper} {o : Oper} {a : Act} {Q : Exit → Act → World → Prop} (hgd : o.guard = none) (s x : Operand) (t : TypeId)
    (ho : o.op = .call { callee := .builtin .append, args := #[s, x], argTypes := #[t, t] })
    (base : Nat) (by' : Nat) (e : TypeId) (k : IntKind) (ht : P.underlying t = some (.slice e)) (hi : (P.info? e).map (fun i => (i.zero, i.size, i.bytes)) = some (some (.int k 0), 1, by'))
    (hby : by' ≤ 16) (v : Value) (n : Nat) (L : List Int) (hs : a.eval s = v) (hown : w.ownsRow base e 1 v n (L.map (Value.int k)))
    (A : Option Addr) (m c : Nat) (xs : List Int) (hx : a.eval x = .slice A m c) (hr : Rd k w A m xs) (hn : n + m ≤ 8796093022208) (hbase : base ≤ w.heap.size)
    (h : ∀ v' w', w'.ownsRow base e 1 v' (n + m) ((L ++ xs).map (Value.int k)) → w.grownBy w' v.ownBlock → wpList P ops Q rest (a.put o.dst v') w') : wpList P ops Q (o :: rest) a w :=
  wpList_plain hgd fun _ hK => wp_catK w s x t ho base by' e k ht hi hby v n L hs hown A m c xs hx hr hn hbase fun v' w' a b => hK _ _ (h v' w' a b)
/-- As one step of a region that draws its order. -/
theorem step_catK {ops : Array Oper} {o : Oper} {a : Act} {K : Act → World → Prop} {Q : Exit → Act → World → Prop} {E : Prop} (hgd : o.guard = none) (s x : Operand) (t : TypeId)
    (ho : o.op = .call { callee := .builtin .append, args := #[s, x], argTypes := #[t, t] })
    (base : Nat) (by' : Nat) (e : TypeId) (k : IntKind) (ht : P.underlying t = some (.slice e)) (hi : (P.info? e).map (fun i => (i.zero, i.size, i.bytes)) = some (some (.int k 0), 1, by'))
    (hby : by' ≤ 16) (v : Value) (n : Nat) (L : List Int) (hs : a.eval s = v) (hown : w.ownsRow base e 1 v n (L.map (Value.int k)))
    (A : Option Addr) (m c : Nat) (xs : List Int) (hx : a.eval x = .slice A m c) (hr : Rd k w A m xs) (hn : n + m ≤ 8796093022208) (hbase : base ≤ w.heap.size)
    (h : ∀ v' w', w'.ownsRow base e 1 v' (n + m) ((L ++ xs).map (Value.int k)) → w.grownBy w' v.ownBlock → K (a.put o.dst v') w') :
    if Region.wanted o (yielded ops a.tmps) = true then Oper.wp P o a w K Q else E := by
  have hw : Region.wanted o (yielded ops a.tmps) = true := by simp [Region.wanted, hgd]
  rw [if_pos hw]
  exact wp_catK w s x t ho base by' e k ht hi hby v n L hs hown A m c xs hx hr hn hbase h
/-- All of a slice of bytes more, nil or not. -/
theorem wpList_cat8 {ops : Array Oper} {rest : List Oper} {o : Oper} {a : Act} {Q : Exit → Act → World → Prop} (hgd : o.guard = none) (s x : Operand) (t : TypeId)
    (ho : o.op = .call { callee := .builtin .append, args := #[s, x], argTypes := #[t, t] })
    (base : Nat) (e : TypeId) (k : IntKind) (ht : P.underlying t = some (.slice e)) (hi : (P.info? e).map (fun i => (i.zero, i.size, i.bytes)) = some (some (.int k 0), 1, 1))
    (v : Value) (n : Nat) (L : List Int) (hs : a.eval s = v) (hown : w.ownsRow base e 1 v n (L.map (Value.int k)))
    (A : Option Addr) (m c : Nat) (xs : List Int) (hx : a.eval x = .slice A m c) (hr : Rd k w A m xs) (hn : n + m ≤ 8796093022208) (hbase : base ≤ w.heap.size)
    (h : ∀ v' w', w'.ownsRow base e 1 v' (n + m) ((L ++ xs).map (Value.int k)) → w.grownBy w' v.ownBlock → wpList P ops Q rest (a.put o.dst v') w') : wpList P ops Q (o :: rest) a w :=
  wpList_catK w hgd s x t ho base 1 e k ht hi (by omega) v n L hs hown A m c xs hx hr hn hbase h
end
theorem info8u : (Try.prog.info? 5).map (fun i => (i.zero, i.size, i.bytes)) = some (some (.int .u8 0), 1, 1) := by kernel_rfl
end Go.Proofs.Ytcnekfpgoceblaa
/-
  An array of integers by value: its cell at an index.
-/
namespace Go
theorem run_index_arr {P : Program} {t e : TypeId} {n : Nat} {kk : IntKind} (h : P.underlying t = some (.array n e)) (he : P.underlying e = some (.int kk)) (hs : (P.info? e).map (·.size) = some 1)
    (k : IntKind) {cs : Array Value} {i : Nat} {v : Value} (hi : i < n) (hv : cs[i]? = some v) (w : World) : (Instr.index t (.agg cs) (.int k i)).run P w = .ok v w := by
  have hn : (0 : Int) ≤ (i : Int) ∧ (i : Int) < (n : Int) := by omega
  cases hq : P.info? e with
  | none => rw [hq] at hs; cases hs
  | some r =>
    rw [hq] at hs
    have hr : r.size = 1 := by simpa using hs
    simp [Instr.index, run_underlying h, asIntOf, hn, go_sem, part, isAgg, run_underlying he, sizeOf, typeInfo, hq, hr, hv]
    intro hg; omega
end Go
/-
  Bytes as a string; strings that are the same.
-/
namespace Go.Proofs.Ytcnekfpgoceblaa
open Go.RowKit
set_option linter.unusedVariables false
/-- string(b), whatever slice of bytes b is. -/
theorem conv_any {w : World} {A : Option Addr} {n c : Nat} {bs : List Int} (h : Rd .u8 w A n bs) : (convert 33 9 (.slice A n c)).run Try.prog w = .ok (.string (strOfNums bs)) w := by
  rcases Nat.eq_zero_or_pos n with g | g
  · subst g
    obtain rfl : bs = [] := List.eq_nil_of_length_eq_zero h.len
    cases A with
    | none => exact run_convert_bytes_nil (P := Try.prog) w 33 5 Try.underlying33 Try.underlying5 0 c 9 Try.underlying9
    | some ad =>
      rw [run_convert_bytes_string w 33 9 5 _ 0 c Try.underlying33 Try.underlying5 Try.underlying9]
      have hl : (loadCells ad 0).run Try.prog w = .ok (([] : List Int).map (Value.int .u8)).toArray w := by
        have := run_loadCells_list (P := Try.prog) w ad [] (fun j v hj => by simp at hj)
        simpa using this
      rw [run_bytesToString w ad 0 c [] hl]
      rfl
  · obtain ⟨b, off, rfl, hb, hc⟩ := h.cells g
    exact run_convert_bytes_arg w 33 5 Try.underlying33 Try.underlying5 b off n c bs h.len (fun i hi => hc i _ (by rw [List.getD_eq_getElem?_getD, getElem?_dig (by rw [h.len]; exact hi)]; rfl)) 9 Try.underlying9
theorem str_neq (s : ByteArray) : (s.toList != s.toList) = false := by simp
theorem str_eql (s : ByteArray) : (s.toList == s.toList) = true := by simp
theorem rowAll {w : World} {g : Nat} {t : TypeId} {k : IntKind} {bs : List Int} {n : Nat} (h : Row w g t k bs) (hl : bs.length = n) : Rd k w (some ⟨g, 0, none⟩) n bs := h.rd hl (fun j x hx => by rwa [Nat.zero_add])
end Go.Proofs.Ytcnekfpgoceblaa
/-
  What eightBytes answers; a state's bytes.
-/
namespace Go.Proofs.Ytcnekfpgoceblaa
open Go.RowKit
set_option linter.unusedVariables false
theorem be8_dig_at {n : Int} {j : Nat} (h : j < 8) : dig (be8 n) j = n / 256 ^ (7 - j) % 256 := by
  refine dig_lt ?_
  simp [be8, h]
def EbR (N : Int) (w : World) (i : Value) (wr : World) : Prop :=
  ∃ (k : Nat) (zs : List Int), k ≤ 8 ∧ i = .int .i64 k ∧ Row wr w.heap.size 5 .u8 zs ∧ zs.length = 8 ∧ (∀ j, j < k → dig zs j = N / 256 ^ (7 - j) % 256) ∧ Below w.heap.size w wr
/-- A slice of bytes of the call's own, as append takes it. -/
def Own8 (w : World) (base : Nat) (v : Value) (bs : List Int) : Prop := w.ownsRow base 5 1 v bs.length (bs.map (Value.int .u8))
/-- Bytes in a block of their own: the call's answer. -/
def AnsOb (bs : List Int) (w : World) (e : Ending) (w' : World) : Prop := ∃ v, e = .returned v ∧ Own8 w' w.heap.size v bs ∧ Below w.heap.size w w'
theorem Own8.rd {w : World} {base : Nat} {v : Value} {bs : List Int} (h : Own8 w base v bs) : ∃ A cap, v = .slice A bs.length cap ∧ Rd .u8 w A bs.length bs ∧ bs.length ≤ cap ∧ ∀ a, A = some a → base ≤ a.block := own_rd h
theorem Own8.below {w w' : World} {base : Nat} {v : Value} {bs : List Int} (h : Own8 w base v bs) (hb : Below w.heap.size w w') : Own8 w' base v bs := by
  refine ⟨h.1, ?_⟩
  rcases h.2 with g | ⟨g, cap, cur, h1, h2, h3, h4⟩
  · exact .inl g
  · exact .inr ⟨g, cap, cur, h1, h2, (hb.block g (Array.getElem?_eq_some_iff.1 h3).1).trans h3, h4⟩
theorem Own8.alloc {w : World} {base : Nat} {v : Value} {bs : List Int} (h : Own8 w base v bs) (o : Obj) : Own8 (w.alloc o) base v bs := h.below ((Below.refl _ _).alloc (Nat.le_refl _) _)
theorem Own8.base {w : World} {base base' : Nat} {v : Value} {bs : List Int} (h : Own8 w base v bs) (hb : base' ≤ base) : Own8 w base' v bs := by
  refine ⟨h.1, ?_⟩
  rcases h.2 with g | ⟨g, cap, cur, h1, h2, h3⟩
  · exact .inl g
  · exact .inr ⟨g, cap, cur, h1, Nat.le_trans hb h2, h3⟩
theorem Own8.of_row {w : World} {g base : Nat} {bs : List Int} (h : Row w g 5 .u8 bs) (hb : base ≤ g) (hl : bs.length ≤ 8796093022208) : Own8 w base (.slice (some ⟨g, 0, none⟩) bs.length bs.length) bs :=
  ⟨by simp, .inr ⟨g, bs.length, _, rfl, hb, h, Nat.le_refl _, by unfold maxLen; omega, by simp, by simp [List.take_of_length_le]⟩⟩
/-- A block just made with room for n bytes. -/
theorem Own8.room (w : World) (n : Nat) {base : Nat} (hb : base ≤ w.heap.size) (hn : n ≤ 8796093022208) : Own8 (w.alloc (.cells ((List.replicate n 0).map (Value.int .u8)).toArray 5)) base (.slice (some ⟨w.heap.size, 0, none⟩) 0 n) [] :=
  ⟨rfl, .inr ⟨w.heap.size, n, _, rfl, hb, heap_alloc_new w _, Nat.zero_le _, by unfold maxLen; omega, by simp, by simp⟩⟩
theorem Own8.nil (w : World) (base : Nat) : Own8 w base (.slice none 0 0) [] := ⟨rfl, .inl ⟨rfl, rfl⟩⟩
/-- The same, with the slice told. -/
def AnsLb (bs : List Int) (n : Nat) (w : World) (e : Ending) (w' : World) : Prop :=
  ∃ A c, e = .returned (.slice A n c) ∧ Rd .u8 w' A n bs ∧ n ≤ c ∧ (∀ a, A = some a → w.heap.size ≤ a.block) ∧ Own8 w' w.heap.size (.slice A n c) bs ∧ Below w.heap.size w w'
theorem AnsOb.l {bs : List Int} {n : Nat} {w w' : World} {e : Ending} (hn : bs.length = n) (h : AnsOb bs w e w') : AnsLb bs n w e w' := by
  obtain ⟨v, rfl, ho, hb⟩ := h
  obtain ⟨A, c, rfl, h1, h2, h3⟩ := ho.rd
  subst hn
  exact ⟨A, c, rfl, h1, h2, h3, ho, hb⟩
/-- The cells of a state. -/
def St.v (s : St) : Array Value := (s.l.map (Value.int .u32)).toArray
theorem size46 : (Try.prog.info? 136).map (·.size) = some 1 := by kernel_rfl
theorem St.v_size (s : St) : s.v.size = 8 := rfl
theorem St.v_at (s : St) {k : Nat} (h : k < 8) : s.v[k]? = some (.int .u32 (dig s.l k)) := by
  have e : s.l[k]? = some (dig s.l k) := getElem?_dig (by simpa [St.l] using h)
  unfold St.v
  rw [List.getElem?_toArray, List.getElem?_map, e]; rfl
def WbR (s : St) (w : World) (v i : Value) (wr : World) : Prop :=
  ∃ k : Nat, k ≤ 8 ∧ i = .int .i64 k ∧ Own8 wr w.heap.size v (wbs (s.l.take k)) ∧ Below w.heap.size w wr
end Go.Proofs.Ytcnekfpgoceblaa
/-
  Memory that stays: what lies outside of some blocks. Slices of the call's own, of any kind of integers, that are turned cell by cell.
-/
namespace Go.Proofs.Ytcnekfpgoceblaa
open Go.RowKit
set_option linter.unusedVariables false
/-- All blocks outside of X are as they were. -/
structure Kept (X : Nat → Prop) (w0 w : World) : Prop where
  size : w0.heap.size ≤ w.heap.size
  block : ∀ b, b < w0.heap.size → ¬ X b → w.heap[b]? = w0.heap[b]?
/-- A slice lies outside of X. -/
def Free (X : Nat → Prop) (A : Option Addr) : Prop := ∀ a, A = some a → ¬ X a.block
section
variable {X : Nat → Prop} {w0 w1 w : World}
theorem Kept.refl (X : Nat → Prop) (w : World) : Kept X w w := ⟨Nat.le_refl _, fun _ _ _ => rfl⟩
theorem Kept.trans (h : Kept X w0 w1) (h' : Kept X w1 w) : Kept X w0 w := ⟨Nat.le_trans h.size h'.size, fun b hb hx => (h'.block b (Nat.lt_of_lt_of_le hb h.size) hx).trans (h.block b hb hx)⟩
theorem Kept.of_below (h : Below w0.heap.size w0 w) : Kept X w0 w := ⟨h.size, fun b hb _ => h.block b hb⟩
theorem Kept.cell (h : Kept X w0 w) {p : Addr} (hp : p.block < w0.heap.size) (hx : ¬ X p.block) : w.cell? p = w0.cell? p := World.cell?_of_block (h.block _ hp hx)
theorem Kept.rd {k : IntKind} {A : Option Addr} {n : Nat} {xs : List Int} (h : Kept X w0 w) (hr : Rd k w0 A n xs) (hx : ∀ a, A = some a → a.block < w0.heap.size → ¬ X a.block) : Rd k w A n xs :=
  ⟨hr.len, fun hn => by
    obtain ⟨b, off, e, hb, hc⟩ := hr.cells hn
    exact ⟨b, off, e, Nat.lt_of_lt_of_le hb h.size, fun j x hj => (h.cell (p := ⟨b, off + j, none⟩) hb (hx ⟨b, off, none⟩ e hb)).trans (hc j x hj)⟩⟩
end
/-- A slice of the call's own, from base on, that may be stored into. -/
structure Mn (t : TypeId) (k : IntKind) (w : World) (base : Nat) (A : Option Addr) (n c : Nat) (xs : List Int) : Prop where
  len : xs.length = n
  nc : n ≤ c
  new : ∀ a, A = some a → base ≤ a.block
  lt : ∀ a, A = some a → a.block < w.heap.size
  row : 0 < n → ∃ (g : Nat) (cur : Array Value), A = some ⟨g, 0, none⟩ ∧ w.heap[g]? = some (.cells cur t (0, 0)) ∧ ∀ (j : Nat) (x : Int), xs[j]? = some x → cur[j]? = some (Value.int k x)
section
variable {t : TypeId} {k : IntKind} {w w' : World} {base : Nat} {A : Option Addr} {n c : Nat} {xs : List Int}
theorem Mn.kept {X : Nat → Prop} (h : Mn t k w base A n c xs) (hk : Kept X w w') (hx : ∀ a, A = some a → ¬ X a.block) : Mn t k w' base A n c xs :=
  ⟨h.len, h.nc, h.new, fun a ha => Nat.lt_of_lt_of_le (h.lt a ha) hk.size, fun hn => by
    obtain ⟨g, cur, e, hg, hc⟩ := h.row hn
    exact ⟨g, cur, e, (hk.block g (Array.getElem?_eq_some_iff.1 hg).1 (hx _ e)).trans hg, hc⟩⟩
theorem Mn.below (h : Mn t k w base A n c xs) (hb : Below w.heap.size w w') : Mn t k w' base A n c xs := h.kept (X := fun _ => False) (Kept.of_below hb) (fun _ _ h => h)
theorem Mn.rd (h : Mn t k w base A n c xs) : Rd k w A n xs :=
  ⟨h.len, fun hn => by
    obtain ⟨g, cur, e, hg, hc⟩ := h.row hn
    exact ⟨g, 0, e, (Array.getElem?_eq_some_iff.1 hg).1, fun j x hx => by rw [Nat.zero_add, cell_of_row w g j cur _ _ hg]; exact hc j x hx⟩⟩
theorem mn_own {v : Value} (h : w.ownsRow base t 1 v n (xs.map (Value.int k))) : ∃ A c, v = .slice A n c ∧ Mn t k w base A n c xs := by
  have hl : xs.length = n := by have := h.1; simpa using this
  rcases h.2 with ⟨rfl, rfl⟩ | ⟨g, cap, cur, rfl, hb, hg, hnc, hm, hs, ht⟩
  · exact ⟨none, 0, rfl, hl, Nat.le_refl _, fun a ha => (by cases ha), fun a ha => (by cases ha), fun h => absurd h (by omega)⟩
  · refine ⟨_, cap, rfl, hl, hnc, fun a ha => by injection ha with ha; subst ha; exact hb, fun a ha => by injection ha with ha; subst ha; exact (Array.getElem?_eq_some_iff.1 hg).1, fun hn => ⟨g, cur, rfl, hg, fun j x hx => ?_⟩⟩
    have hj : j < n := by
      rcases Nat.lt_or_ge j n with q | q
      · exact q
      · rw [List.getElem?_eq_none (by omega)] at hx; cases hx
    have h1 : (cur.toList.take (n * 1))[j]? = some (.int k x) := by rw [ht, List.getElem?_map, hx]; rfl
    rw [List.getElem?_take_of_lt (by omega)] at h1
    simpa using h1
theorem mn_row {g : Nat} (h : Row w g t k xs) (hl : xs.length = n) (hnc : n ≤ c) (hb : base ≤ g) : Mn t k w base (some ⟨g, 0, none⟩) n c xs :=
  ⟨hl, hnc, fun a ha => by injection ha with ha; subst ha; exact hb, fun a ha => by injection ha with ha; subst ha; exact h.lt, fun _ => ⟨g, _, rfl, h, fun j x hx => by simp [hx]⟩⟩
end
/-- Only what the slice A has may have turned. -/
structure Trd (t : TypeId) (k : IntKind) (A : Option Addr) (n : Nat) (w0 w : World) : Prop where
  zero : n = 0 → w = w0
  row : 0 < n → ∃ (g : Nat) (cur : Array Value), A = some ⟨g, 0, none⟩ ∧ w.heap[g]? = some (.cells cur t (0, 0)) ∧ (∀ j, j < n → ∃ x : Int, cur[j]? = some (Value.int k x)) ∧ w0.grownBy w (some g)
section
variable {t : TypeId} {k : IntKind} {A : Option Addr} {n c : Nat} {w0 w a : World}
theorem Trd.start {base : Nat} {xs : List Int} (h : Mn t k w base A n c xs) : Trd t k A n w w :=
  ⟨fun _ => rfl, fun hn => by
    obtain ⟨g, cur, e, hg, hc⟩ := h.row hn
    exact ⟨g, cur, e, hg, fun j hj => ⟨_, hc j _ (getElem?_dig (by have := h.len; omega))⟩, World.grownBy.refl w _⟩⟩
theorem Trd.below {B : Nat} (h : Trd t k A n w0 w) (hb : Below B a w0) (hB : B ≤ w0.heap.size) (hg : ∀ x, A = some x → B ≤ x.block) : Below B a w := by
  rcases Nat.eq_zero_or_pos n with g | g
  · rw [h.zero g]; exact hb
  · obtain ⟨g, cur, e, -, -, gr⟩ := h.row g
    exact below_grown hb gr hB (hg _ e)
theorem Trd.kept {X : Nat → Prop} (h : Trd t k A n w0 w) (hx : ∀ a, A = some a → X a.block) : Kept X w0 w := by
  rcases Nat.eq_zero_or_pos n with g | g
  · rw [h.zero g]; exact Kept.refl _ _
  · obtain ⟨g, cur, e, -, -, gr⟩ := h.row g
    exact ⟨gr.size, fun b hb hn => gr.block b hb (fun he => hn (by injection he with he; rw [he]; exact hx _ e))⟩
/-- One cell more. -/
theorem Trd.step {j g : Nat} {cur : Array Value} {x : Int} (hA : A = some ⟨g, 0, none⟩) (hk : j < n) (hg : w.heap[g]? = some (.cells cur t (0, 0))) (hc : ∀ j, j < n → ∃ x : Int, cur[j]? = some (Value.int k x)) (gr : w0.grownBy w (some g)) :
    Trd t k A n w0 (w.setCell ⟨g, j, none⟩ (.int k x)) := by
  refine ⟨fun h => by omega, fun _ => ⟨g, cur.setIfInBounds j (.int k x), hA, ?_, fun i hi => ?_, grown_setCell gr j _⟩⟩
  · rw [setCell_eq_setRow w g j cur _ _ _ hg]; exact setRow_heap w g cur _ _ _ hg
  · rw [Array.getElem?_setIfInBounds]
    split
    · rename_i h
      subst h
      obtain ⟨y, hy⟩ := hc j hk
      have := (Array.getElem?_eq_some_iff.1 hy).1
      rw [if_pos this]
      exact ⟨x, rfl⟩
    · exact hc i hi
end
end Go.Proofs.Ytcnekfpgoceblaa
/-
  What the document's number, turn and times answer, and the law's number.
-/
namespace Go.Proofs.Ytcnekfpgoceblaa
open Go.RowKit
set_option linter.unusedVariables false
def NuR (N : Int) (kk : IntKind) (w : World) (n i : Value) (wr : World) : Prop :=
  ∃ (p : Nat) (v : Int) (zs : List Int), p ≤ 8 ∧ i = .int .i64 v ∧ v = (p : Int) - 1 ∧ n = .int kk (N / 256 ^ (8 - p)) ∧ Row wr w.heap.size 5 .u8 zs ∧ zs.length = 8 ∧ (∀ j, p ≤ j → j < 8 → dig zs j = N / 256 ^ (7 - j) % 256) ∧ Below w.heap.size w wr
theorem div_next {N : Int} (h0 : 0 ≤ N) {p : Nat} (hp : p + 1 ≤ 8) : N / 256 ^ (8 - (p + 1)) / 256 = N / 256 ^ (8 - p) := by
  rw [Int.ediv_ediv_of_nonneg (Int.le_of_lt (Int.pow_pos (by decide))), ← Int.pow_succ, show (8 - (p + 1)).succ = 8 - p by omega]
/-! ### turn -/
theorem rot_zero (x : Int) : rot 0 x = x := by unfold rot; simp
theorem rot_step {n : Nat} (hn : n + 1 ≤ 32) {x : Int} (hx : Wd x) : rot n x / 2 + rot n x % 2 * 2147483648 = rot (n + 1) x := by
  have hp : (0 : Int) < 2 ^ n := Int.pow_pos (by decide)
  have e1 : (2 : Int) ^ (32 - n) = 2 ^ (32 - (n + 1)) * 2 := by rw [← Int.pow_succ, show (32 - (n + 1)).succ = 32 - n by omega]
  have e2 : (2 : Int) ^ (n + 1) = 2 ^ n * 2 := Int.pow_succ _ _
  have e3 : (2 : Int) ^ n * 2 ^ (32 - (n + 1)) = 2147483648 := by rw [← Int.pow_add, show n + (32 - (n + 1)) = 31 by omega]; decide
  have d1 : x / 2 ^ (n + 1) = x / 2 ^ n / 2 := by rw [e2, Int.ediv_ediv_of_nonneg (Int.le_of_lt hp)]
  have d2 : x % 2 ^ (n + 1) = x % 2 ^ n + x / 2 ^ n % 2 * 2 ^ n := by
    rw [e2]
    have a := Int.emod_add_mul_ediv x (2 ^ n)
    have b := Int.emod_add_mul_ediv x (2 ^ n * 2)
    have c := Int.emod_add_mul_ediv (x / 2 ^ n) 2
    rw [← Int.ediv_ediv_of_nonneg (Int.le_of_lt hp)] at b
    generalize x / 2 ^ n = y at *
    generalize (2 : Int) ^ n = t at *
    have e : t * 2 * (y / 2) = t * (y - y % 2) := by
      have : y - y % 2 = 2 * (y / 2) := by omega
      rw [this]; grind
    rw [e, Int.mul_sub] at b
    have f : y % 2 * t = t * (y % 2) := Int.mul_comm _ _
    omega
  unfold rot
  rw [d1, d2, e1]
  generalize x / 2 ^ n = y
  generalize x % 2 ^ n = z
  have e4 : y + z * (2 ^ (32 - (n + 1)) * 2) = y + z * 2 ^ (32 - (n + 1)) * 2 := by grind
  rw [e4, Int.add_mul_ediv_right _ _ (by decide), Int.add_mul_emod_self_right, Int.add_mul, show y % 2 * 2 ^ n * 2 ^ (32 - (n + 1)) = y % 2 * 2147483648 by rw [Int.mul_assoc, e3]]
  omega
theorem rot_wd {n : Nat} (hn : n ≤ 32) {x : Int} (hx : Wd x) : Wd (rot n x) := (rot_or hn hx).2
def TuR (x : Int) (n : Nat) (w : World) (y i : Value) (wr : World) : Prop := ∃ k : Nat, k ≤ n ∧ i = .int .i64 k ∧ y = .int .u32 (rot k x) ∧ w = wr
end Go.Proofs.Ytcnekfpgoceblaa
/-
  What the document's times and root answer.
-/
namespace Go.Proofs.Ytcnekfpgoceblaa
open Go.RowKit
set_option linter.unusedVariables false
theorem mask32 {a : Int} (h0 : 0 ≤ a) (h1 : a < 18446744073709551616) : bits .and .u64 a 4294967295 = a % 4294967296 := by
  have h := bits_mask .u64 64 (by decide) wraps_u64 32 (by decide) a h0 (by omega)
  rw [show (2 : Int) ^ 32 - 1 = 4294967295 by decide, show (2 : Int) ^ 32 = 4294967296 by decide] at h
  exact h
theorem tup2 {k : IntKind} {a b c d : Int} (h : a = c) (h' : b = d) : Ending.returned (.tuple #[.int k a, .int k b]) = Ending.returned (.tuple #[.int k c, .int k d]) := by rw [h, h']
theorem hi_bd {a b : Int} (a0 : 0 ≤ a) (a1 : a < 1099511627776) (b0 : 0 ≤ b) (b1 : b < 1099511627776) : 0 ≤ a * b / 18446744073709551616 ∧ a * b / 18446744073709551616 < 65536 := by
  have h := Int.mul_nonneg a0 b0
  have h' := Int.mul_le_mul (show a ≤ 1099511627775 by omega) (show b ≤ 1099511627775 by omega) b0 (by omega)
  generalize a * b = c at *
  omega
/-! ### root -/
/-- r is the root of p. -/
def SqR (p r : Int) : Prop := 0 ≤ r ∧ r < 1099511627776 ∧ r * r ≤ p * 18446744073709551616 ∧ p * 18446744073709551616 < (r + 1) * (r + 1)
theorem mul_mono {a b : Int} (h0 : 0 ≤ a) (h : a ≤ b) : a * a ≤ b * b := Int.mul_le_mul h h h0 (by omega)
theorem sq_test {p r y : Int} (h : SqR p r) (y0 : 0 ≤ y) : (y * y / 18446744073709551616 < p ∨ y * y / 18446744073709551616 = p ∧ y * y % 18446744073709551616 = 0) ↔ y ≤ r := by
  obtain ⟨r0, -, h1, h2⟩ := h
  constructor
  · intro g
    rcases Int.lt_or_le r y with k | k
    · have := mul_mono (show 0 ≤ r + 1 by omega) (show r + 1 ≤ y by omega)
      generalize y * y = Y at *
      generalize (r + 1) * (r + 1) = R at *
      omega
    · exact k
  · intro g
    have := mul_mono y0 g
    generalize y * y = Y at *
    generalize r * r = R at *
    omega
/-- What the loop knows: the bits that are found, and that the root lies not further on. -/
def RtS (r : Int) (w : World) (x i : Value) (wr : World) : Prop :=
  ∃ (k : Nat) (v X : Int), k ≤ 40 ∧ i = .int .i64 v ∧ v = (k : Int) - 1 ∧ x = .int .u64 X ∧ 0 ≤ X ∧ X ≤ r ∧ r < X + 2 ^ k ∧ X + 2 ^ k ≤ 1099511627776 ∧ w = wr
end Go.Proofs.Ytcnekfpgoceblaa
/-
  What the document's root answers of cubes.
-/
namespace Go.Proofs.Ytcnekfpgoceblaa
open Go.RowKit
set_option linter.unusedVariables false
/-- r is the third root of p. -/
def CbR (p r : Int) : Prop := 0 ≤ r ∧ r < 1099511627776 ∧ r * r * r ≤ p * 79228162514264337593543950336 ∧ p * 79228162514264337593543950336 < (r + 1) * (r + 1) * (r + 1)
theorem cb_mono {a b : Int} (h0 : 0 ≤ a) (h : a ≤ b) : a * a * a ≤ b * b * b := Int.mul_le_mul (mul_mono h0 h) h h0 (Int.mul_nonneg (by omega) (by omega))
theorem cb_test {p r y w1 w0 : Int} (h : CbR p r) (y0 : 0 ≤ y) (e : y * y * y = w1 * 18446744073709551616 + w0) (z0 : 0 ≤ w0) (z1 : w0 < 18446744073709551616) :
    (w1 / 4294967296 < p ∨ w1 / 4294967296 = p ∧ w1 % 4294967296 = 0 ∧ w0 = 0) ↔ y ≤ r := by
  obtain ⟨r0, -, h1, h2⟩ := h
  constructor
  · intro g
    rcases Int.lt_or_le r y with k | k
    · have := cb_mono (show 0 ≤ r + 1 by omega) (show r + 1 ≤ y by omega)
      generalize y * y * y = Y at *
      generalize (r + 1) * (r + 1) * (r + 1) = R at *
      omega
    · exact k
  · intro g
    have := cb_mono y0 g
    generalize y * y * y = Y at *
    generalize r * r * r = R at *
    omega
end Go.Proofs.Ytcnekfpgoceblaa
/-
  What the document's primes and Made answer.
-/
namespace Go.Proofs.Ytcnekfpgoceblaa
open Go.RowKit
set_option linter.unusedVariables false
/-- The first 64 primes. -/
def PL : List Int := [2, 3, 5, 7, 11, 13, 17, 19, 23, 29, 31, 37, 41, 43, 47, 53, 59, 61, 67, 71, 73, 79, 83, 89, 97, 101, 103, 107, 109, 113, 127, 131, 137, 139, 149, 151, 157, 163, 167, 173, 179, 181, 191, 193, 197, 199, 211, 223, 227, 229, 233, 239, 241, 251, 257, 263, 269, 271, 277, 281, 283, 293, 307, 311]
/-- Those below k. -/
def PLi (k : Nat) : List Int := PL.filter fun p => decide (p < (k : Int))
def nod (k : Nat) (l : List Int) : Bool := l.all fun p => !((k : Int) % p == 0)
theorem PLi_two : PLi 2 = [] := by decide
theorem PLi_end : PLi 312 = PL := by decide +kernel
theorem PLi_len : ∀ k, k < 313 → ((PLi k).length < 64 ↔ k < 312) := by decide +kernel
theorem PLi_next : ∀ k, k < 312 → 2 ≤ k → PLi (k + 1) = if nod k (PLi k) then PLi k ++ [(k : Int)] else PLi k := by decide +kernel
theorem PLi_bd {k : Nat} {x : Int} (h : x ∈ PLi k) : 2 ≤ x ∧ x ≤ 311 := by
  have h1 : x ∈ PL := (List.mem_filter.1 h).1
  have h2 : ∀ y ∈ PL, 2 ≤ y ∧ y ≤ 311 := by decide
  exact h2 x h1
theorem PLi_len_le (k : Nat) : (PLi k).length ≤ 64 := List.length_filter_le _ PL
def PrR (w : World) (v k : Value) (wr : World) : Prop :=
  ∃ m : Nat, 2 ≤ m ∧ m ≤ 312 ∧ k = .int .i64 m ∧ wr.ownsRow w.heap.size 3 1 v (PLi m).length ((PLi m).map (Value.int .i64)) ∧ Below w.heap.size w wr
def PrI (m : Nat) (w : World) (ok i : Value) (wr : World) : Prop :=
  ∃ j : Nat, j ≤ (PLi m).length ∧ i = .int .i64 j ∧ ok = .bool (nod m ((PLi m).take j)) ∧ w = wr
theorem nod_snoc (m : Nat) (l : List Int) (x : Int) : nod m (l ++ [x]) = (nod m l && !((m : Int) % x == 0)) := by simp [nod]
theorem own_alloc1 {w : World} {base : Nat} {e : TypeId} {v : Value} {n : Nat} {xs : List Value} (h : w.ownsRow base e 1 v n xs) (o : Obj) : (w.alloc o).ownsRow base e 1 v n xs := by
  refine ⟨h.1, ?_⟩
  rcases h.2 with g | ⟨g, cap, cur, h1, h2, h3, h4⟩
  · exact .inl g
  · exact .inr ⟨g, cap, cur, h1, h2, (Below.heap_alloc w o g (Array.getElem?_eq_some_iff.1 h3).1).trans h3, h4⟩
theorem info_int : (Try.prog.info? 3).map (fun i => (i.zero, i.size, i.bytes)) = some (some (.int .i64 0), 1, 8) := by kernel_rfl
end Go.Proofs.Ytcnekfpgoceblaa
/-
  The document's way of reckoning a digest, over lists; small laws for what it appends.
-/
namespace Go.Proofs.Ytcnekfpgoceblaa
open Go.RowKit
set_option linter.unusedVariables false
/-! ### A block's words, one by one -/
theorem ext_take (m : List Int) : ∀ {n j : Nat}, j ≤ n → (ext m n).take (m.length + j) = ext m j
  | 0, j, h => by
    obtain rfl : j = 0 := by omega
    exact List.take_of_length_le (by show m.length ≤ _; omega)
  | n + 1, j, h => by
    rcases Nat.lt_or_ge n j with g | g
    · obtain rfl : j = n + 1 := by omega
      exact List.take_of_length_le (by rw [ext_len]; omega)
    · show (ext m n ++ [nxt (ext m n)]).take (m.length + j) = ext m j
      rw [List.take_append_of_le_length (by rw [ext_len]; omega)]
      exact ext_take m g
theorem bwN_take (b : List Int) {n k : Nat} (h : k ≤ n) : (bwN b n).take k = bwN b k := by
  unfold bwN; rw [← List.map_take, List.take_range, Nat.min_eq_left h]
theorem sched_hi (b : List Int) {j : Nat} (h : j ≤ 48) : (sched b).take (16 + j) = ext (bwN b 16) j := by
  have := ext_take (bwN b 16) h
  rw [bwN_len] at this
  exact this
theorem sched_lo (b : List Int) {k : Nat} (h : k ≤ 16) : (sched b).take k = bwN b k := by
  have e := sched_hi b (j := 0) (by omega)
  have e2 : (sched b).take k = ((sched b).take (16 + 0)).take k := by rw [List.take_take, show min k (16 + 0) = k by omega]
  rw [e2, e]
  exact bwN_take b (by omega)
theorem sched_next_lo (b : List Int) {k : Nat} (h : k < 16) : (sched b).take (k + 1) = (sched b).take k ++ [wdAt b k] := by
  rw [sched_lo b (by omega), sched_lo b (by omega), bwN_succ]
theorem sched_next_hi (b : List Int) {k : Nat} (h : 16 ≤ k) (h2 : k < 64) : (sched b).take (k + 1) = (sched b).take k ++ [nxt ((sched b).take k)] := by
  obtain ⟨j, rfl⟩ : ∃ j, k = 16 + j := ⟨k - 16, by omega⟩
  rw [show 16 + j + 1 = 16 + (j + 1) by omega, sched_hi b (by omega), sched_hi b (by omega)]
  rfl
theorem sched_take_len (b : List Int) {k : Nat} (h : k ≤ 64) : ((sched b).take k).length = k := by rw [List.length_take, sched_len]; omega
theorem sched_wds {b : List Int} (h : Dig 256 b) : Wds (sched b) := ext_wds (bwN_wds h 16) 48
/-- A word, byte by byte. -/
def px (b : List Int) (i : Nat) : Nat → Int
  | 0 => 0
  | k + 1 => 256 * px b i k + dig b (4 * i + k)
theorem px_end (b : List Int) (i : Nat) : px b i 4 = wdAt b i := by simp only [px, wdAt]; rw [Nat.add_zero]; omega
theorem px_bd {b : List Int} (h : Dig 256 b) (i : Nat) : ∀ k, 0 ≤ px b i k ∧ px b i k < 256 ^ k
  | 0 => by simp [px]
  | k + 1 => by
    have h1 := px_bd h i k
    have h2 := dig_bd (b := 256) (by decide) h (4 * i + k)
    rw [Int.pow_succ]
    simp only [px]
    generalize (256 : Int) ^ k = p at *
    omega
theorem px_bd3 {b : List Int} (h : Dig 256 b) (i : Nat) {k : Nat} (hk : k < 4) : 0 ≤ px b i k ∧ px b i k < 16777216 := by
  have h1 := px_bd h i k
  have h2 : (256 : Int) ^ k ≤ 256 ^ 3 := by
    match k, hk with
    | 0, _ => decide
    | 1, _ => decide
    | 2, _ => decide
    | 3, _ => decide
  have h3 : (256 : Int) ^ 3 = 16777216 := by decide
  omega
/-- The state's words, the first k of them added. -/
def hmx (s r : St) (k : Nat) : List Int := (addS s r).l.take k ++ s.l.drop k
theorem hmx_zero (s r : St) : hmx s r 0 = s.l := rfl
theorem hmx_end (s r : St) : hmx s r 8 = (addS s r).l := rfl
theorem lt8 {k : Nat} (h : k < 8) : k = 0 ∨ k = 1 ∨ k = 2 ∨ k = 3 ∨ k = 4 ∨ k = 5 ∨ k = 6 ∨ k = 7 := by omega
theorem hmx_dig (s r : St) {k : Nat} (h : k < 8) : dig (hmx s r k) k = dig s.l k := by
  rcases lt8 h with rfl | rfl | rfl | rfl | rfl | rfl | rfl | rfl <;> rfl
theorem hmx_set (s r : St) {k : Nat} (h : k < 8) : (hmx s r k).set k (ad (dig s.l k) (dig r.l k)) = hmx s r (k + 1) := by
  rcases lt8 h with rfl | rfl | rfl | rfl | rfl | rfl | rfl | rfl <;> rfl
theorem hmx_len (s r : St) {k : Nat} (h : k ≤ 8) : (hmx s r k).length = 8 := by
  unfold hmx
  rw [List.length_append, List.length_take, List.length_drop]
  show min k 8 + (8 - k) = 8
  omega
theorem stl_at (s : St) : s.l = [s.a, s.b, s.c, s.d, s.e, s.f, s.g, s.h] := rfl
theorem fill_test (n j : Nat) (h : j ≤ fillN n) : ((n + 1 + j) % 64 = 56 ↔ j = fillN n) := by unfold fillN at *; omega
theorem fillN_lt (n : Nat) : fillN n < 64 := by unfold fillN; omega
theorem blk_dig (L : List Int) (j i : Nat) (h : i < 64) : dig ((L.drop (64 * j)).take 64) i = dig L (64 * j + i) := by rw [dig_take h, dig_drop]
/-! ### Appends -/
theorem cell_one (w : World) (v : Value) (t : TypeId) : (w.alloc (.cells #[v] t)).cell? ⟨w.heap.size, 0, none⟩ = some v := by simp [World.cell?_alloc_at]
/-- A slice just made with nothing in it. -/
theorem own_none (w : World) (t : TypeId) (k : IntKind) {base : Nat} (hb : base ≤ w.heap.size) : (w.alloc (.cells #[] t)).ownsRow base t 1 (.slice (some ⟨w.heap.size, 0, none⟩) 0 0) 0 (([] : List Int).map (Value.int k)) :=
  ⟨rfl, .inr ⟨w.heap.size, 0, _, rfl, hb, heap_alloc_new w _, Nat.zero_le _, by unfold maxLen; omega, by simp, by simp⟩⟩
theorem own_none_at (w : World) (t : TypeId) (k : IntKind) {base q : Nat} (hq : w.heap.size = q) (hb : base ≤ q) : (w.alloc (.cells #[] t)).ownsRow base t 1 (.slice (some ⟨q, 0, none⟩) 0 0) 0 (([] : List Int).map (Value.int k)) := by
  subst hq
  exact own_none w t k hb
theorem own_base {w : World} {base base' : Nat} {t : TypeId} {v : Value} {n : Nat} {xs : List Value} (h : w.ownsRow base t 1 v n xs) (hb : base' ≤ base) : w.ownsRow base' t 1 v n xs := by
  refine ⟨h.1, ?_⟩
  rcases h.2 with g | ⟨g, cap, cur, h1, h2, h3⟩
  · exact .inl g
  · exact .inr ⟨g, cap, cur, h1, Nat.le_trans hb h2, h3⟩
section
variable {P : Program} (w : World)
theorem rd_one {k : IntKind} {g : Nat} {y : Int} (hc : w.cell? ⟨g, 0, none⟩ = some (.int k y)) (hl : g < w.heap.size) : Rd k w (some ⟨g, 0, none⟩) 1 [y] :=
  ⟨rfl, fun _ => ⟨g, 0, rfl, hl, fun j x hx => by
    match j, hx with
    | 0, hx => injection hx with hx; subst hx; exact hc⟩⟩
/-- One integer more. -/
theorem wpList_app1 {ops : Array Oper} {rest : List Oper} {o : Oper} {a : Act} {Q : Exit → Act → World → Prop} (hgd : o.guard = none) (s x : Operand) (t : TypeId)
    (ho : o.op = .call { callee := .builtin .append, args := #[s, x], argTypes := #[t, t] })
    (base : Nat) (by' : Nat) (e : TypeId) (k : IntKind) (ht : P.underlying t = some (.slice e)) (hi : (P.info? e).map (fun i => (i.zero, i.size, i.bytes)) = some (some (.int k 0), 1, by'))
    (hby : by' ≤ 16) (v : Value) (n : Nat) (L : List Int) (hs : a.eval s = v) (hown : w.ownsRow base e 1 v n (L.map (Value.int k)))
    (g : Nat) (y : Int) (hx : a.eval x = .slice (some ⟨g, 0, none⟩) 1 1) (hc : w.cell? ⟨g, 0, none⟩ = some (.int k y)) (hl : g < w.heap.size) (hn : n ≤ 4398046511104) (hbase : base ≤ w.heap.size)
    (h : ∀ v' w', w'.ownsRow base e 1 v' (n + 1) ((L ++ [y]).map (Value.int k)) → w.grownBy w' v.ownBlock → wpList P ops Q rest (a.put o.dst v') w') : wpList P ops Q (o :: rest) a w :=
  wpList_catK w hgd s x t ho base by' e k ht hi hby v n L hs hown _ 1 1 [y] hx (rd_one w hc hl) (by omega) hbase h
theorem step_app1 {ops : Array Oper} {o : Oper} {a : Act} {K : Act → World → Prop} {Q : Exit → Act → World → Prop} {E : Prop} (hgd : o.guard = none) (s x : Operand) (t : TypeId)
    (ho : o.op = .call { callee := .builtin .append, args := #[s, x], argTypes := #[t, t] })
    (base : Nat) (by' : Nat) (e : TypeId) (k : IntKind) (ht : P.underlying t = some (.slice e)) (hi : (P.info? e).map (fun i => (i.zero, i.size, i.bytes)) = some (some (.int k 0), 1, by'))
    (hby : by' ≤ 16) (v : Value) (n : Nat) (L : List Int) (hs : a.eval s = v) (hown : w.ownsRow base e 1 v n (L.map (Value.int k)))
    (g : Nat) (y : Int) (hx : a.eval x = .slice (some ⟨g, 0, none⟩) 1 1) (hc : w.cell? ⟨g, 0, none⟩ = some (.int k y)) (hl : g < w.heap.size) (hn : n ≤ 4398046511104) (hbase : base ≤ w.heap.size)
    (h : ∀ v' w', w'.ownsRow base e 1 v' (n + 1) ((L ++ [y]).map (Value.int k)) → w.grownBy w' v.ownBlock → K (a.put o.dst v') w') :
    if Region.wanted o (yielded ops a.tmps) = true then Oper.wp P o a w K Q else E :=
  step_catK w hgd s x t ho base by' e k ht hi hby v n L hs hown _ 1 1 [y] hx (rd_one w hc hl) (by omega) hbase h
end
theorem info32 : (Try.prog.info? 136).map (fun i => (i.zero, i.size, i.bytes)) = some (some (.int .u32 0), 1, 4) := by kernel_rfl
/-! ### A slice that is turned -/
section
variable {t : TypeId} {k : IntKind} {w : World} {base : Nat} {n c : Nat} {xs : List Int}
theorem Mn.at0 {A : Option Addr} (h : Mn t k w base A n c xs) (hn : 0 < n) : ∃ g, A = some ⟨g, 0, none⟩ ∧ base ≤ g ∧ g < w.heap.size := by
  obtain ⟨g, cur, e, hg, -⟩ := h.row hn
  exact ⟨g, e, h.new _ e, (Array.getElem?_eq_some_iff.1 hg).1⟩
theorem Mn.cell {g j : Nat} (h : Mn t k w base (some ⟨g, 0, none⟩) n c xs) (hj : j < n) : w.cell? ⟨g, j, none⟩ = some (.int k (dig xs j)) := by
  obtain ⟨g', cur, e, hg, hc⟩ := h.row (by omega)
  injection e with e; injection e with e; subst e
  rw [cell_of_row w g j cur _ _ hg]
  exact hc j _ (getElem?_dig (by have := h.len; omega))
theorem Mn.frozen {g j : Nat} (h : Mn t k w base (some ⟨g, 0, none⟩) n c xs) (hj : j < n) : w.frozen? ⟨g, j, none⟩ = false := by
  obtain ⟨g', cur, e, hg, hc⟩ := h.row (by omega)
  injection e with e; injection e with e; subst e
  exact frozen_of_row w g j cur _ hg
theorem Mn.set {g j : Nat} (h : Mn t k w base (some ⟨g, 0, none⟩) n c xs) (hj : j < n) (x : Int) : Mn t k (w.setCell ⟨g, j, none⟩ (.int k x)) base (some ⟨g, 0, none⟩) n c (xs.set j x) := by
  obtain ⟨g', cur, e, hg, hc⟩ := h.row (by omega)
  have e2 := e
  injection e2 with e2; injection e2 with e2; subst e2
  refine ⟨by rw [List.length_set]; exact h.len, h.nc, h.new, fun a ha => by simp only [World.setCell, Array.size_modify]; exact h.lt a ha, fun _ => ⟨g, cur.setIfInBounds j (.int k x), rfl, ?_, fun i y hi => ?_⟩⟩
  · rw [setCell_eq_setRow w g j cur _ _ _ hg]; exact setRow_heap w g cur _ _ _ hg
  · rw [Array.getElem?_setIfInBounds]
    rw [List.getElem?_set] at hi
    have hl := h.len
    have hcj := (Array.getElem?_eq_some_iff.1 (hc j _ (getElem?_dig (by omega)))).1
    split
    · rename_i q
      subst q
      rw [if_pos rfl, if_pos (by omega)] at hi
      injection hi with hi
      subst hi
      rfl
    · rename_i q
      rw [if_neg q] at hi
      exact hc i y hi
theorem Mn.drew {A : Option Addr} (h : Mn t k w base A n c xs) : Mn t k w.drew base A n c xs := ⟨h.len, h.nc, h.new, h.lt, h.row⟩
theorem Mn.drewN {A : Option Addr} (h : Mn t k w base A n c xs) (m : Nat) : Mn t k (w.drewN m) base A n c xs := ⟨h.len, h.nc, h.new, h.lt, h.row⟩
theorem Mn.base_ {A : Option Addr} {base' : Nat} (h : Mn t k w base A n c xs) (hb : base' ≤ base) : Mn t k w base' A n c xs := ⟨h.len, h.nc, fun a ha => Nat.le_trans hb (h.new a ha), h.lt, h.row⟩
theorem Kept.set {X : Nat → Prop} {w0 : World} (h : Kept X w0 w) {g : Nat} (hg : X g) (j : Nat) (u : Value) : Kept X w0 (w.setCell ⟨g, j, none⟩ u) :=
  ⟨by simp only [World.setCell, Array.size_modify]; exact h.size, fun b hb hx => (Below.heap_setCell w ⟨g, j, none⟩ u b (by rintro rfl; exact hx hg)).trans (h.block b hb hx)⟩
theorem Kept.drew {X : Nat → Prop} {w0 : World} (h : Kept X w0 w) : Kept X w0 w.drew := ⟨h.size, h.block⟩
theorem Kept.below {X : Nat → Prop} {w0 w' : World} (h : Kept X w0 w) (hb : Below w.heap.size w w') : Kept X w0 w' := h.trans (Kept.of_below hb)
end
end Go.Proofs.Ytcnekfpgoceblaa
