/-
  SHA-256 and what is made with it, over lists of integers; no program is spoken of here.
-/
import Derived.Test.YtbffcgnefkkhoaaDoorPka
import Derived.Laws.BitsLemmas
namespace Go.Proofs.YtbffcgnefkkhoaaDoor
set_option linter.unusedVariables false
/-! ### Words -/
/-- Rotated to the right by n. -/
def rot (n : Nat) (x : Int) : Int := x / 2 ^ n + x % 2 ^ n * 2 ^ (32 - n)
def ad (x y : Int) : Int := IntKind.u32.wrap (x + y)
def xo (x y : Int) : Int := bits .xor .u32 x y
def an (x y : Int) : Int := bits .and .u32 x y
def sg0 (x : Int) : Int := xo (xo (rot 7 x) (rot 18 x)) (x / 8)
def sg1 (x : Int) : Int := xo (xo (rot 17 x) (rot 19 x)) (x / 1024)
def suE (e : Int) : Int := xo (xo (rot 6 e) (rot 11 e)) (rot 25 e)
def suA (a : Int) : Int := xo (xo (rot 2 a) (rot 13 a)) (rot 22 a)
def chE (e f g : Int) : Int := xo (an e f) (an (xo 4294967295 e) g)
def mjA (a b c : Int) : Int := xo (xo (an a b) (an a c)) (an b c)
/-- A word. -/
def Wd (x : Int) : Prop := 0 ≤ x ∧ x < 4294967296
theorem ad_wd (x y : Int) : Wd (ad x y) := by unfold Wd ad; rw [IntKind.wrap_u32]; omega
theorem xo_wd (x y : Int) : Wd (xo x y) := by unfold Wd xo bits; rw [IntKind.wrap_u32]; omega
theorem an_wd (x y : Int) : Wd (an x y) := by unfold Wd an bits; rw [IntKind.wrap_u32]; omega
/-- The state. -/
structure St where
  a : Int
  b : Int
  c : Int
  d : Int
  e : Int
  f : Int
  g : Int
  h : Int
def St.l (s : St) : List Int := [s.a, s.b, s.c, s.d, s.e, s.f, s.g, s.h]
def St.ok (s : St) : Prop := Wd s.a ∧ Wd s.b ∧ Wd s.c ∧ Wd s.d ∧ Wd s.e ∧ Wd s.f ∧ Wd s.g ∧ Wd s.h
def t1f (k w : Int) (s : St) : Int := ad (ad (ad (ad s.h (suE s.e)) (chE s.e s.f s.g)) k) w
def t2f (s : St) : Int := ad (suA s.a) (mjA s.a s.b s.c)
/-- One round. -/
def rnd (k w : Int) (s : St) : St := ⟨ad (t1f k w s) (t2f s), s.a, s.b, s.c, ad s.d (t1f k w s), s.e, s.f, s.g⟩
theorem rnd_ok {k w : Int} {s : St} (h : s.ok) : (rnd k w s).ok := ⟨ad_wd _ _, h.1, h.2.1, h.2.2.1, ad_wd _ _, h.2.2.2.2.1, h.2.2.2.2.2.1, h.2.2.2.2.2.2.1⟩
/-- The first n rounds. -/
def rnds (K M : List Int) (s : St) : Nat → St
  | 0 => s
  | n + 1 => rnd (dig K n) (dig M n) (rnds K M s n)
theorem rnds_ok {K M : List Int} {s : St} (h : s.ok) : ∀ n, (rnds K M s n).ok
  | 0 => h
  | n + 1 => rnd_ok (rnds_ok h n)
/-! ### A block's words -/
def nxt (m : List Int) : Int := ad (ad (ad (dig m (m.length - 16)) (sg0 (dig m (m.length - 15)))) (dig m (m.length - 7))) (sg1 (dig m (m.length - 2)))
def ext (m : List Int) : Nat → List Int
  | 0 => m
  | n + 1 => ext m n ++ [nxt (ext m n)]
theorem ext_len (m : List Int) : ∀ n, (ext m n).length = m.length + n
  | 0 => rfl
  | n + 1 => by simp only [ext, List.length_append, List.length_cons, List.length_nil, ext_len m n]; omega
/-- Word i of bytes. -/
def wdAt (b : List Int) (i : Nat) : Int := ((dig b (4 * i) * 256 + dig b (4 * i + 1)) * 256 + dig b (4 * i + 2)) * 256 + dig b (4 * i + 3)
def bwN (b : List Int) (n : Nat) : List Int := (List.range n).map (wdAt b)
theorem bwN_len (b : List Int) (n : Nat) : (bwN b n).length = n := by simp [bwN]
theorem bwN_succ (b : List Int) (n : Nat) : bwN b (n + 1) = bwN b n ++ [wdAt b n] := by simp [bwN, List.range_succ]
def sched (b : List Int) : List Int := ext (bwN b 16) 48
theorem sched_len (b : List Int) : (sched b).length = 64 := by unfold sched; rw [ext_len, bwN_len]
def Wds (m : List Int) : Prop := ∀ x ∈ m, Wd x
theorem wdAt_wd {b : List Int} (h : Dig 256 b) (i : Nat) : Wd (wdAt b i) := by
  have h0 := dig_bd (b := 256) (by decide) h (4 * i)
  have h1 := dig_bd (b := 256) (by decide) h (4 * i + 1)
  have h2 := dig_bd (b := 256) (by decide) h (4 * i + 2)
  have h3 := dig_bd (b := 256) (by decide) h (4 * i + 3)
  unfold Wd wdAt; omega
theorem bwN_wds {b : List Int} (h : Dig 256 b) (n : Nat) : Wds (bwN b n) := by
  intro x hx
  simp only [bwN, List.mem_map] at hx
  obtain ⟨i, _, rfl⟩ := hx
  exact wdAt_wd h i
theorem ext_wds {m : List Int} (h : Wds m) : ∀ n, Wds (ext m n)
  | 0 => h
  | n + 1 => fun x hx => by
    simp only [ext, List.mem_append, List.mem_singleton] at hx
    rcases hx with hx | rfl
    · exact ext_wds h n x hx
    · exact ad_wd _ _
theorem dig_wd {m : List Int} (h : Wds m) (i : Nat) : Wd (dig m i) := dig_bd (b := 4294967296) (by decide) h i
/-! ### Blocks -/
def KT : List Int := [1116352408, 1899447441, 3049323471, 3921009573, 961987163, 1508970993, 2453635748, 2870763221, 3624381080, 310598401, 607225278, 1426881987, 1925078388, 2162078206, 2614888103, 3248222580, 3835390401, 4022224774, 264347078, 604807628, 770255983, 1249150122, 1555081692, 1996064986, 2554220882, 2821834349, 2952996808, 3210313671, 3336571891, 3584528711, 113926993, 338241895, 666307205, 773529912, 1294757372, 1396182291, 1695183700, 1986661051, 2177026350, 2456956037, 2730485921, 2820302411, 3259730800, 3345764771, 3516065817, 3600352804, 4094571909, 275423344, 430227734, 506948616, 659060556, 883997877, 958139571, 1322822218, 1537002063, 1747873779, 1955562222, 2024104815, 2227730452, 2361852424, 2428436474, 2756734187, 3204031479, 3329325298]
def H0 : St := ⟨1779033703, 3144134277, 1013904242, 2773480762, 1359893119, 2600822924, 528734635, 1541459225⟩
theorem H0_ok : H0.ok := by unfold St.ok Wd H0; decide
theorem KT_wds : Wds KT := by unfold Wds Wd; decide
theorem KT_len : KT.length = 64 := rfl
def addS (s r : St) : St := ⟨ad s.a r.a, ad s.b r.b, ad s.c r.c, ad s.d r.d, ad s.e r.e, ad s.f r.f, ad s.g r.g, ad s.h r.h⟩
theorem addS_ok (s r : St) : (addS s r).ok := ⟨ad_wd _ _, ad_wd _ _, ad_wd _ _, ad_wd _ _, ad_wd _ _, ad_wd _ _, ad_wd _ _, ad_wd _ _⟩
/-- The state behind one block. -/
def comp (s : St) (b : List Int) : St := addS s (rnds KT (sched b) s 64)
/-- The state behind the first j blocks of bytes. -/
def absb (s : St) (l : List Int) : Nat → St
  | 0 => s
  | j + 1 => comp (absb s l j) ((l.drop (64 * j)).take 64)
theorem absb_ok {s : St} (h : s.ok) (l : List Int) : ∀ j, (absb s l j).ok
  | 0 => h
  | j + 1 => addS_ok _ _
theorem absb_take {s : St} {l m : List Int} : ∀ {j : Nat}, (∀ i, i < 64 * j → l[i]? = m[i]?) → absb s l j = absb s m j
  | 0, _ => rfl
  | j + 1, h => by
    have e : (l.drop (64 * j)).take 64 = (m.drop (64 * j)).take 64 := by
      apply List.ext_getElem?
      intro i
      rcases Nat.lt_or_ge i 64 with hi | hi
      · rw [List.getElem?_take_of_lt hi, List.getElem?_take_of_lt hi, List.getElem?_drop, List.getElem?_drop]
        exact h _ (by omega)
      · rw [List.getElem?_eq_none (by rw [List.length_take]; omega), List.getElem?_eq_none (by rw [List.length_take]; omega)]
    show comp (absb s l j) _ = comp (absb s m j) _
    rw [e, absb_take (fun i hi => h i (by omega))]
/-- Blocks behind whole blocks. -/
theorem absb_add (s : St) (l : List Int) (p : Nat) : ∀ j, absb s l (p + j) = absb (absb s l p) (l.drop (64 * p)) j
  | 0 => rfl
  | j + 1 => by
    show comp (absb s l (p + j)) _ = comp _ _
    rw [absb_add s l p j, List.drop_drop, show 64 * p + 64 * j = 64 * (p + j) by omega]
    rfl
theorem absb_append {s : St} {l m : List Int} {p : Nat} (hl : l.length = 64 * p) (j : Nat) : absb s (l ++ m) (p + j) = absb (absb s l p) m j := by
  rw [absb_add, List.drop_left' hl]
  congr 1
  exact absb_take fun i hi => List.getElem?_append_left (by omega)
/-! ### Bytes -/
/-- A number as eight bytes, the highest first. -/
def be8 (n : Int) : List Int := (List.range 8).map fun i => n / 256 ^ (7 - i) % 256
theorem be8_len (n : Int) : (be8 n).length = 8 := by simp [be8]
theorem be8_dig (n : Int) : Dig 256 (be8 n) := by
  intro x hx
  simp only [be8, List.mem_map] at hx
  obtain ⟨i, _, rfl⟩ := hx
  omega
def wb4 (x : Int) : List Int := [x / 16777216, x / 65536 % 256, x / 256 % 256, x % 256]
theorem wb4_dig {x : Int} (h : Wd x) : Dig 256 (wb4 x) := by
  unfold Wd at h
  intro y hy
  simp only [wb4, List.mem_cons, List.not_mem_nil, or_false] at hy
  rcases hy with rfl | rfl | rfl | rfl <;> omega
/-- The bytes of words. -/
def wbs (m : List Int) : List Int := m.flatMap wb4
theorem wbs_append (m k : List Int) : wbs (m ++ k) = wbs m ++ wbs k := by simp [wbs]
theorem wbs_len (m : List Int) : (wbs m).length = 4 * m.length := by
  induction m with
  | nil => rfl
  | cons x m ih => simp only [wbs, List.flatMap_cons, List.length_append, wb4, List.length_cons, List.length_nil] at ih ⊢; omega
theorem wbs_dig {m : List Int} (h : Wds m) : Dig 256 (wbs m) := by
  intro y hy
  simp only [wbs, List.mem_flatMap] at hy
  obtain ⟨x, hx, hy⟩ := hy
  exact wb4_dig (h x hx) y hy
theorem St.wds {s : St} (h : s.ok) : Wds s.l := by
  obtain ⟨h1, h2, h3, h4, h5, h6, h7, h8⟩ := h
  intro x hx
  simp only [St.l, List.mem_cons, List.not_mem_nil, or_false] at hx
  rcases hx with rfl | rfl | rfl | rfl | rfl | rfl | rfl | rfl <;> assumption
/-- How many noughts are filled in behind n bytes and 128. -/
def fillN (n : Nat) : Nat := (119 - n % 64) % 64
def pad (n : Nat) : List Int := 128 :: (List.replicate (fillN n) 0 ++ be8 (8 * (n : Int)))
theorem pad_len (n : Nat) : (pad n).length = 9 + fillN n := by simp [pad, be8_len]; omega
theorem pad_all (n : Nat) : (n + (pad n).length) % 64 = 0 := by rw [pad_len]; unfold fillN; omega
theorem pad_dig (n : Nat) : Dig 256 (pad n) := by
  intro x hx
  simp only [pad, List.mem_cons, List.mem_append, List.mem_replicate] at hx
  rcases hx with rfl | ⟨_, rfl⟩ | hx
  · decide
  · decide
  · exact be8_dig _ x hx
/-- The digest of bytes. -/
def shaS (l : List Int) : St := absb H0 (l ++ pad l.length) ((l.length + (pad l.length).length) / 64)
def sha (l : List Int) : List Int := wbs (shaS l).l
theorem shaS_ok (l : List Int) : (shaS l).ok := absb_ok H0_ok _ _
theorem sha_len (l : List Int) : (sha l).length = 32 := by unfold sha; rw [wbs_len]; rfl
theorem sha_dig (l : List Int) : Dig 256 (sha l) := wbs_dig (St.wds (shaS_ok l))
/-- Parts, each behind its length. -/
def fr (l : List (List Int)) : List Int := l.flatMap fun p => be8 p.length ++ p
theorem fr_nil : fr [] = [] := rfl
theorem fr_append (l m : List (List Int)) : fr (l ++ m) = fr l ++ fr m := by simp [fr]
theorem fr_one (p : List Int) : fr [p] = be8 p.length ++ p := by simp [fr]
def parts (l : List (List Int)) : List Int := sha (fr l)
/-- A key as a block of 64 bytes. -/
def keyB (k : List Int) : List Int := (if 64 < k.length then sha k else k) ++ List.replicate (64 - (if 64 < k.length then sha k else k).length) 0
def mask (m : Int) (b : List Int) : List Int := b.map fun x => bits .xor .u8 x m
def mac (k b : List Int) : List Int := sha (mask 92 (keyB k) ++ sha (mask 54 (keyB k) ++ b))
/-- The first m pieces of a key's row. -/
def strm (k : List Int) : Nat → List Int
  | 0 => []
  | m + 1 => strm k m ++ parts [k, be8 (m : Int)]
theorem strm_len (k : List Int) : ∀ m, (strm k m).length = 32 * m
  | 0 => rfl
  | m + 1 => by simp only [strm, List.length_append, strm_len k m, parts, sha_len]; omega
theorem strm_dig (k : List Int) : ∀ m, Dig 256 (strm k m)
  | 0 => dig_nil _
  | m + 1 => fun x hx => by
    simp only [strm, List.mem_append] at hx
    rcases hx with hx | hx
    · exact strm_dig k m x hx
    · exact sha_dig _ x hx
/-- The first n bytes of a key's row. -/
def stream (k : List Int) (n : Nat) : List Int := (strm k ((n + 31) / 32)).take n
theorem strm_take (k : List Int) {m : Nat} : ∀ {p : Nat}, m ≤ p → (strm k p).take (32 * m) = strm k m
  | 0, h => by obtain rfl : m = 0 := by omega
               rfl
  | p + 1, h => by
    rcases Nat.lt_or_ge p m with g | g
    · obtain rfl : m = p + 1 := by omega
      exact List.take_of_length_le (by rw [strm_len]; exact Nat.le_refl _)
    · simp only [strm]
      rw [List.take_append_of_le_length (by rw [strm_len]; omega), strm_take k g]
theorem stream_of (k : List Int) {m n : Nat} (h : n ≤ 32 * m) : (strm k m).take n = stream k n := by
  unfold stream
  rw [← strm_take k (show (n + 31) / 32 ≤ m by omega), List.take_take, Nat.min_eq_left (by omega)]
theorem stream_len (k : List Int) (n : Nat) : (stream k n).length = n := by unfold stream; rw [List.length_take, strm_len]; omega
theorem stream_take (k : List Int) {m n : Nat} (h : m ≤ n) : (stream k n).take m = stream k m := by
  have := stream_of k (m := (n + 31) / 32) (n := m) (by omega)
  rw [← this]
  unfold stream
  rw [List.take_take, Nat.min_eq_left h]
end Go.Proofs.YtbffcgnefkkhoaaDoor
