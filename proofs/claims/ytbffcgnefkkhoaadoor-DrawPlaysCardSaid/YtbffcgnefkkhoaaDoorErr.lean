/-
  Errors that are Codes, held against one another: what treenaillaw00.Code and Same answer. errors.As is walked through, at a target that is a Spot's.
-/
import Derived.Test.YtbffcgnefkkhoaaDoorPkf
import Derived.Stop.Asserts
import Derived.RowKitTokens
namespace Go.Proofs.YtbffcgnefkkhoaaDoor
open Go.RowKit Go.Extern.Stop Go.Stop Go.Extern
set_option linter.unusedVariables false
theorem rlm (z : Sem Value) (f : TypeId → Addr → Nat → Nat → Sem Value) (v : Value) :
    ReflectliteValue.method z f #[v] = (do match ← ReflectliteValue.parts v with | none => z | some (t, a, fl) => f t a fl (fl % 32)) := rfl
end Go.Proofs.YtbffcgnefkkhoaaDoor
