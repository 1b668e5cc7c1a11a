/-
  What is known of errors' own variable stays.
-/
import Derived.Test.YtbffcgnefkkhoaaDoorErr
import Derived.Test.YtbffcgnefkkhoaaDoorPkf
namespace Go.Proofs.YtbffcgnefkkhoaaDoor
open Go.RowKit
set_option linter.unusedVariables false
end Go.Proofs.YtbffcgnefkkhoaaDoor
