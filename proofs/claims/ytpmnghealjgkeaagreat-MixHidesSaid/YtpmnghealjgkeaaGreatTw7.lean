/-
  Letters of one pair: sealed, and mixed.
-/
import Derived.Test.YtpmnghealjgkeaaGreatB7
import Derived.Test.YtpmnghealjgkeaaGreatOwm
import Derived.Test.YtpmnghealjgkeaaGreatPmx
import Derived.Test.YtpmnghealjgkeaaGreatGg
import Derived.Test.YtpmnghealjgkeaaGreatPkm
namespace Go.Proofs.YtpmnghealjgkeaaGreat
open Go.RowKit
set_option linter.unusedVariables false
/-- Where a list of scalars lies. -/
theorem sc_bl {W : World} {k base c : Nat} {A : Option Addr} {F : Nat → Int} {S' : Nat → Nsl} (hA : ∀ a, A = some a → W.heap.size ≤ a.block)
    (hS : ∀ j, j < k → (S' j).N = F j ∧ (S' j).n ≤ 40 ∧ ∀ a, (S' j).A = some a → 0 < (S' j).n → a.block < base ∨ W.heap.size ≤ a.block) {b : Nat} (hb : BlS ⟨A, k, c, S'⟩ b) : b < base ∨ W.heap.size ≤ b := by
  rcases hb with ⟨a, e, -, rfl⟩ | ⟨i, hi, a, e, h0, rfl⟩
  · exact .inr (hA a e)
  · exact (hS i hi).2.2 a e h0
/-- What was there ahead of a time has no colour. -/
def Old (w : World) (c : Nat → Nat) : Prop := ∀ b, b < w.heap.size → c b = 0
theorem Old.same {w W : World} {c c' : Nat → Nat} (h : Old w c) (hs : SameC W c c') (hb : w.heap.size ≤ W.heap.size) : Old w c' := fun b g => (hs b (by omega)).trans (h b g)
theorem infoR7 : (Tryz.prog.info? 24).map (fun i => (i.zero, i.size, i.bytes)) = some (some (.slice none 0 0), 1, 24) := by kernel_rfl
theorem infoI7 : (Tryz.prog.info? 3).map (fun i => (i.zero, i.size, i.bytes)) = some (some (.int .i64 0), 1, 8) := by kernel_rfl
section
variable {P Q K : Int} {B : Nat → Lsl} {nb : Nat} {f : Nat → Int} {Rs : Nat → Rsl}
theorem mixF_one (hB : ∀ i, i < nb → (B i).n = 1) (hR : ∀ i, i < nb → (Rs i).n = 1) (h256 : nb ≤ 256) : MixF B nb f nb Rs nb ↔ PermF nb f := by
  constructor
  · intro g
    exact ⟨fun i hi => ⟨(g.2.2.2.1 i hi).2.2.2.2.1, (g.2.2.2.1 i hi).2.2.2.2.2⟩, g.2.2.2.2⟩
  · intro g
    refine ⟨h256, rfl, rfl, fun i hi => ?_, g.2⟩
    have h1 := hB i hi
    have h2 := hR i hi
    have h3 := hB 0 (by omega)
    exact ⟨by omega, by omega, by omega, by omega, (g.1 i hi).1, (g.1 i hi).2⟩
end
/-- A batch of letters of one pair. -/
def BatA (T : Nat → Trp) (n : Nat) (w : World) (e : Ending) (w' : World) : Prop :=
  ∃ A c L, e = .returned (.tuple #[.slice A n c, .nilIface]) ∧ Bat w' A n c L ∧ (∀ i, i < n → (L i).n = 1 ∧ CanL (L i).S 1 ∧ Trp.of ((L i).S 0) = T i) ∧ B7 w w'
section
variable {w : World} {b : Nat} {d : Gd} {Ak Ar Ap Ab Am : Option Addr} {nk ck cr cp nb cb cm : Nat} {K : Int} {B : Nat → Lsl} {Rs : Nat → Rsl} {ps : List Int} {R : Nat → Nsl} {s : Nsl}
theorem mix_yes (h : Gr w b d) (hk : Nm w Ak nk ck K) (hb : Bat w Ab nb cb B) (hp : Rd .i64 w Ap nb ps) (hr : Rls w Ar nb cr Rs) (hB : ∀ i, i < nb → (B i).n = 1) (hR : ∀ i, i < nb → (Rs i).n = 1) (h256 : nb ≤ 256)
    (hp2 : PermF nb (dig ps)) (ek : El d.P d.Q K) (hE : ∀ i, i < nb → ElT d.P d.Q (Trp.of ((B i).S 0))) (hL : ∀ i, i < nb → dl ((Rs i).S 0).N ≤ 64) :
    Calls Tryz.prog 22 #[.pointer (some ⟨b, 0, none⟩), .slice Ak nk ck, .slice Ab nb cb, .slice Ap nb cp, .slice Ar nb cr] w
      (BatA (fun i => anewN d.P d.Q d.G K (Trp.of ((B (dig ps i).toNat).S 0)) ((Rs i).S 0).N) nb w) := by
  have hc : mixC d.P d.Q K B nb (dig ps) nb Rs nb = 0 := by
    refine mixC_ok ((mixF_one hB hR h256).2 hp2) (fun ⟨i, hi, t, ht, g⟩ => ?_) ⟨ek, fun i hi t ht => ?_⟩
    · rw [hR i hi] at ht
      obtain rfl : t = 0 := by omega
      have := hL i hi
      omega
    · rw [hB i hi] at ht
      obtain rfl : t = 0 := by omega
      exact hE i hi
  refine (pm_mix (cp := cp) h hk hb hp hr).mono fun e w' g => ?_
  rcases g with ⟨-, A, c, L, h1, h2, h3, h4, h5⟩ | ⟨h0, -⟩
  · refine ⟨A, c, L, h1, h2, fun i hi => ?_, h5⟩
    obtain ⟨k1, k2, k3⟩ := h3 i hi
    have k0 := hB 0 (by omega)
    have k4 := k2.can
    rw [k1, k0] at k4
    exact ⟨k1.trans k0, k4, k3 0 (by omega)⟩
  · exact absurd hc h0
theorem mix_no (h : Gr w b d) (hk : Nm w Ak nk ck K) (hb : Bat w Ab nb cb B) (hp : Rd .i64 w Ap nb ps) (hr : Rls w Ar nb cr Rs) (hB : ∀ i, i < nb → (B i).n = 1) (hR : ∀ i, i < nb → (Rs i).n = 1) (h256 : nb ≤ 256) (hp2 : ¬ PermF nb (dig ps)) :
    Calls Tryz.prog 22 #[.pointer (some ⟨b, 0, none⟩), .slice Ak nk ck, .slice Ab nb cb, .slice Ap nb cp, .slice Ar nb cr] w (Err1 1 w) := by
  have hc : mixC d.P d.Q K B nb (dig ps) nb Rs nb = 1 := mixC_arg fun g => hp2 ((mixF_one hB hR h256).1 g)
  refine (pm_mix (cp := cp) h hk hb hp hr).mono fun e w' g => ?_
  rw [hc] at g
  rcases g with ⟨h0, -⟩ | ⟨-, h1⟩
  · exact absurd h0 (by decide)
  · exact h1
/-- One pair, sealed. -/
def LetO (T : Trp) (w : World) (e : Ending) (w' : World) : Prop :=
  ∃ A c S, e = .returned (.tuple #[.slice A 1 c, .nilIface]) ∧ Lo w' w.heap.size A 1 c S ∧ Trp.of (S 0) = T ∧ B7 w w'
theorem seal_one (h : Gr w b d) (hk : Nm w Ak nk ck K) (hm : Ns w Am 1 cm (fun _ => s)) (hr : Ns w Ar 1 cr R) (hl : dl (R 0).N ≤ 64) (ek : El d.P d.Q K) (em : El d.P d.Q s.N) :
    Calls Tryz.prog 16 #[.pointer (some ⟨b, 0, none⟩), .slice Ak nk ck, .slice Am 1 cm, .slice Ar 1 cr] w (LetO (sealN d.P d.Q d.G K s.N (R 0).N) w) :=
  (seal_ok h hk hm hr (by decide) (by decide) (fun i hi => by obtain rfl : i = 0 := (by omega); exact hl) ek (fun i hi => em)).mono fun e w' ⟨A, c, S, h1, h2, h3, h4⟩ => ⟨A, c, S, h1, h2, h3 0 (by decide), h4⟩
end
theorem permF_dig {n : Nat} {f g : Nat → Int} (h : ∀ i, i < n → f i = g i) : PermF n f ↔ PermF n g := by
  constructor
  · intro k
    exact ⟨fun i hi => by rw [← h i hi]; exact k.1 i hi, fun i j hj hi => by rw [← h i hi, ← h j (by omega)]; exact k.2 i j hj hi⟩
  · intro k
    exact ⟨fun i hi => by rw [h i hi]; exact k.1 i hi, fun i j hj hi => by rw [h i hi, h j (by omega)]; exact k.2 i j hj hi⟩
theorem dig_map {n i : Nat} {S : Nat → Int} (h : i < n) : dig ((List.range n).map S) i = S i := by
  unfold dig
  rw [List.getD_eq_getElem?_getD]
  simp [h]
end Go.Proofs.YtpmnghealjgkeaaGreat
