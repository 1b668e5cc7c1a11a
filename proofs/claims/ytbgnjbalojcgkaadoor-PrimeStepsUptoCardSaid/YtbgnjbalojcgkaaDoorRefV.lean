/-
  What the document's Cmp answers, in the form of the laws' walks.
-/
import Derived.Test.YtbgnjbalojcgkaaDoorRefW
import Derived.Test.YtbgnjbalojcgkaaDoorRCmp
namespace Go.Proofs.YtbgnjbalojcgkaaDoor
open Go.RowKit
set_option linter.unusedVariables false
theorem rcmp_v {A A' : Option Addr} {n c n' c' : Nat} {N M : Int} {w : World} (h : Rn w A n c N) (h' : Rn w A' n' c' M) (hn : n ≤ 100000) (hn' : n' ≤ 100000) :
    Calls Tryd.prog 21 #[.slice A n c, .slice A' n' c'] w (AnsV (.int .i64 (cmpI N M)) w) :=
  (rcmp_any h h' hn hn').mono fun e w' ⟨he, q, hq⟩ => ⟨he, hq ▸ below_drewN (Below.refl _ _) q⟩
end Go.Proofs.YtbgnjbalojcgkaaDoor
