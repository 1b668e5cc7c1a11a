/-
  What the group's G answers.
-/
import Derived.Test.YtpmnghealjgkeaaGreatGro
import Derived.Test.YtpmnghealjgkeaaGreatPka
namespace Go.Proofs.YtpmnghealjgkeaaGreat
open Go.RowKit
set_option linter.unusedVariables false
theorem gg_any {w : World} {b : Nat} {d : Gd} (h : Gr w b d) : Calls Tryz.prog 39 #[.pointer (some ⟨b, 0, none⟩)] w (Ans1 d.G w) := by
  have q2 := h.c2
  have HG := Lib.hid h.g
  clear h
  go_enter Tryz.func39, Tryz.ntmps39
  go_wp2_with fail
  refine (norm_any HG.out.nm).mono ?_
  rintro e w1 ⟨B, m, cap, rfl, hc, hb, hn⟩
  have HC := Lib.hid hc
  have HB := Lib.hid hb
  have HN := Lib.hid hn
  clear hc hb hn q2
  go_wp2_with fail
  go_ret
  exact ⟨_, _, _, rfl, HC.out, HB.out, HN.out⟩
end Go.Proofs.YtpmnghealjgkeaaGreat
