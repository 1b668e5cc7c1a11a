/-
  What the program's calls of layer 7 answer where nothing is amiss.
-/
import Derived.Test.YtpmnghealjgkeaaGreatPm0
import Derived.Test.YtpmnghealjgkeaaGreatGro
namespace Go.Proofs.YtpmnghealjgkeaaGreat
open Go.RowKit
set_option linter.unusedVariables false
theorem LetP.ok {code : Int} {T : Nat → Trp} {n : Nat} {w w' : World} {e : Ending} (h : LetP code T n w e w') (h0 : code = 0) : LetA T n w e w' := h.elim (fun g => g.2) (fun g => absurd h0 g.1)
theorem LetP.bad {code : Int} {T : Nat → Trp} {n : Nat} {w w' : World} {e : Ending} (h : LetP code T n w e w') (h0 : code ≠ 0) : Err1 code w e w' := h.elim (fun g => absurd g.1 h0) (fun g => g.2)
section
variable {w : World} {b : Nat} {d : Gd} {Ak Am Ar Al As : Option Addr} {nk ck nm cm nr cr nl cl ns cs n : Nat} {K s : Int} {M R : Nat → Nsl} {S : Nat → Stp}
theorem not_lgs (hl : ∀ i, i < n → dl (R i).N ≤ 64) : ¬ LgS R n := fun ⟨i, h1, h2⟩ => by have := hl i h1; omega
theorem seal_ok (h : Gr w b d) (hk : Nm w Ak nk ck K) (hm : Ns w Am n cm M) (hr : Ns w Ar n cr R) (h1 : 1 ≤ n) (h32 : n ≤ 32) (hl : ∀ i, i < n → dl (R i).N ≤ 64) (ek : El d.P d.Q K) (em : ElS d.P d.Q M n) :
    Calls Tryz.prog 16 #[.pointer (some ⟨b, 0, none⟩), .slice Ak nk ck, .slice Am n cm, .slice Ar n cr] w (LetA (fun i => sealN d.P d.Q d.G K (M i).N (R i).N) n w) :=
  (pm_seal h hk hm hr).mono fun _ _ g => g.ok (fitC_ok ⟨h1, h32, rfl⟩ (not_lgs hl) ⟨ek, em⟩)
theorem anew_ok (h : Gr w b d) (hk : Nm w Ak nk ck K) (hm : Ch w Al n cl S) (hr : Ns w Ar n cr R) (h1 : 1 ≤ n) (h32 : n ≤ 32) (hl : ∀ i, i < n → dl (R i).N ≤ 64) (ek : El d.P d.Q K) (em : ElL d.P d.Q S n) :
    Calls Tryz.prog 17 #[.pointer (some ⟨b, 0, none⟩), .slice Ak nk ck, .slice Al n cl, .slice Ar n cr] w (LetA (fun i => anewN d.P d.Q d.G K (Trp.of (S i)) (R i).N) n w) :=
  (pm_anew h hk hm hr).mono fun _ _ g => g.ok (fitC_ok ⟨h1, h32, rfl⟩ (not_lgs hl) ⟨ek, em⟩)
theorem strip_ok (h : Gr w b d) (hs : Nm w As ns cs s) (hk : Nm w Ak nk ck K) (hm : Ch w Al n cl S) (hr : Ns w Ar n cr R) (h1 : 1 ≤ n) (h32 : n ≤ 32) (ls : dl s ≤ 64) (hl : ∀ i, i < n → dl (R i).N ≤ 64) (ek : El d.P d.Q K) (em : ElL d.P d.Q S n) :
    Calls Tryz.prog 24 #[.pointer (some ⟨b, 0, none⟩), .slice As ns cs, .slice Ak nk ck, .slice Al n cl, .slice Ar n cr] w (LetA (fun i => stripN d.P d.Q d.G s K (Trp.of (S i)) (R i).N) n w) :=
  (pm_strip h hs hk hm hr).mono fun _ _ g => g.ok (fitC_ok ⟨h1, h32, rfl⟩ (fun q => q.elim (fun q => by omega) (not_lgs hl)) ⟨ek, em⟩)
theorem turn_ok (h : Gr w b d) (hm : Ch w Al n cl S) (h1 : 1 ≤ n) (h32 : n ≤ 32) (em : ElL d.P d.Q S n) :
    Calls Tryz.prog 25 #[.pointer (some ⟨b, 0, none⟩), .slice Al n cl] w (LetA (fun i => turnN (Trp.of (S i))) n w) :=
  (pm_turn h hm).mono fun _ _ g => g.ok (fitC_ok ⟨h1, h32, rfl⟩ (fun q => q) em)
theorem open_ok (h : Gr w b d) (hm : Ch w Al n cl S) (h1 : 1 ≤ n) (h32 : n ≤ 32) (em : ElL d.P d.Q S n) :
    Calls Tryz.prog 26 #[.pointer (some ⟨b, 0, none⟩), .slice Al n cl] w fun e w' =>
      ∃ A c S', e = .returned (.tuple #[.slice A n c, .nilIface]) ∧ Ns w' A n c S' ∧ CanS S' n ∧ (∀ i, i < n → (S' i).N = (S i).Q) ∧ (∀ a, A = some a → w.heap.size ≤ a.block) ∧ Below w.heap.size w w' :=
  (pm_open h hm).mono fun _ _ g => g.elim (fun q => q.2) (fun q => absurd (fitC_ok ⟨h1, h32, rfl⟩ (fun q => q) em) q.1)
/-- A power of G, as numbers go. -/
theorem base_gx (h : Gr w b d) {A' : Option Addr} {n' c' : Nat} {Y : Int} (ha' : Nm w A' n' c' Y) (ly : dl Y ≤ 64) :
    Calls Tryz.prog 36 #[.pointer (some ⟨b, 0, none⟩), .slice A' n' c'] w (Ans (gx d.P d.Q d.G Y) w) := by
  have e : gx d.P d.Q d.G Y = d.G ^ Y.toNat % d.P := h.el.red h.safe.p2 h.safe.q1 ha'.pos
  rw [e]
  exact gbase_any h ha' ly
end
end Go.Proofs.YtpmnghealjgkeaaGreat
