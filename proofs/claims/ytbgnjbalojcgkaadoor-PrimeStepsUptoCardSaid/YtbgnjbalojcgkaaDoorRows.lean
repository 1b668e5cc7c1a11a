/-
  NARROWER THAN 'FOR EVERY INPUT', by the rows' own cells (each row's printed sentence says how): PrimeSmall: laid · PrimeProves: laid · PrimeSteps: laid.
  DERIVED. THE GIVEN ROWS OF THIS SEAT. 3 by the template 'for every input the law returns true; each argument reads behind the call as it read before'; 0 by the template 'total and deterministic' (their statements: YtbgnjbalojcgkaaDoorTotals.lean).
  GIVEN WITH THE SEED: the statements are not yours to turn. If you find one false, say at which input.
  Laid BY PROGRAM, IN A SANDBOX (cutbox-rows.mjs): the forced cells as the released guide's own fill.sh prints them over the translation 0015e8cd7de57be5… (all of the seat's roots in one cut). By AI agents, Wed Nov 11 2026. No macro, syntax, notation, axiom, sorry.
-/
import Derived.Test.YtbgnjbalojcgkaaDoorChecked
import GoSem.Claim
import GoSem.ClaimJoined
import GoSem.ClaimMapViews
import Derived.JoinedTies
import Derived.KernelRfl
namespace Go.Proofs.YtbgnjbalojcgkaaDoor
/- THE CELL 'sum', in the pinned program and in every row, IS THE sha256 OF THE DUMP (.gsa) THAT YtbgnjbalojcgkaaDoorProg.lean LOADS. Nothing in Lean hashes anything: it is a label: what it is worth is what the hold of that sum in a sandbox is worth. -/
noncomputable def Tryd.pinned : Pinned := { name := "ytbgnjbalojcgkaadoor", sum := "0015e8cd7de57be53c496c10b628c2557805351ba7f20d0a2979ac1d22a41396", checked := Tryd.checked }
namespace Rows
def none {H : Type} : Left H := { results := [], args := [] }

/- WHAT THE LISTED PACKAGE-LEVEL VARIABLES READ AS WHEN THE CALL BEGINS. Each datum BY PROGRAM (the guide's laid-datum.mjs) off the statement by which the dump's own 'gosem.cut.vars' lays the variable. In a bare row this is a premise. The card (YtbgnjbalojcgkaaDoorCards.lean) ties it to the program's text. -/
def laid_errors_errorType {H : Type} : DataW H := .iface "internal/reflectlite.rtype" (.agg [.ptr (.lit (.string [101, 114, 114, 111, 114]))])

/-- 'treenaillaw03.PrimeSmall': WHATEVER THE INPUT: true; the input reads as it did. -/
def primeSmallSpec : ChangeSpec := { name := "primeSmall", fn := fun _ => fun
  | [d] => { results := [.lit (.bool true)], args := [d] }
  | _ => none }
def primeSmallRow : OpenClaim := { program := "ytbgnjbalojcgkaadoor", sum := "0015e8cd7de57be53c496c10b628c2557805351ba7f20d0a2979ac1d22a41396", func := "treenail/treenaillaw03.PrimeSmall", spec := "primeSmall", inPlace := ["math/bits.Add64", "math/bits.Sub64", "internal/reflectlite.ValueOf", "(internal/reflectlite.Value).Type", "(internal/reflectlite.Value).IsNil", "internal/reflectlite.TypeOf", "(internal/reflectlite.Value).Elem", "(internal/reflectlite.Value).Set"], unfollowed := true, recurses := true, named := ["math/bits.divideError", "math/bits.overflowError", "errors.errorType"], apart := false, laid := [("errors.errorType", laid_errors_errorType)] }
def PrimeSmallSaid : Prop := primeSmallRow.holds Tryd.pinned (OpenSpec.ofChange primeSmallSpec)

/-- ITS FALSE NEIGHBOUR: 'it returns false'. Refute it at one input. -/
def primeSmallWrong : ChangeSpec := { name := "primeSmall", fn := fun _ => fun
  | [d] => { results := [.lit (.bool false)], args := [d] }
  | _ => none }
def PrimeSmallWrongFalsely : Prop := primeSmallRow.holds Tryd.pinned (OpenSpec.ofChange primeSmallWrong)

/-- 'treenaillaw03.PrimeProves': WHATEVER THE INPUT: true; the input reads as it did. -/
def primeProvesSpec : ChangeSpec := { name := "primeProves", fn := fun _ => fun
  | [d1, d2] => { results := [.lit (.bool true)], args := [d1, d2] }
  | _ => none }
def primeProvesRow : OpenClaim := { program := "ytbgnjbalojcgkaadoor", sum := "0015e8cd7de57be53c496c10b628c2557805351ba7f20d0a2979ac1d22a41396", func := "treenail/treenaillaw03.PrimeProves", spec := "primeProves", inPlace := ["math/bits.Add64", "math/bits.Sub64", "internal/reflectlite.ValueOf", "(internal/reflectlite.Value).Type", "(internal/reflectlite.Value).IsNil", "internal/reflectlite.TypeOf", "(internal/reflectlite.Value).Elem", "(internal/reflectlite.Value).Set"], unfollowed := true, recurses := true, named := ["math/bits.divideError", "math/bits.overflowError", "errors.errorType"], apart := false, laid := [("errors.errorType", laid_errors_errorType)] }
def PrimeProvesSaid : Prop := primeProvesRow.holds Tryd.pinned (OpenSpec.ofChange primeProvesSpec)

/-- ITS FALSE NEIGHBOUR: 'it returns false'. Refute it at one input. -/
def primeProvesWrong : ChangeSpec := { name := "primeProves", fn := fun _ => fun
  | [d1, d2] => { results := [.lit (.bool false)], args := [d1, d2] }
  | _ => none }
def PrimeProvesWrongFalsely : Prop := primeProvesRow.holds Tryd.pinned (OpenSpec.ofChange primeProvesWrong)

/-- 'treenaillaw03.PrimeSteps': WHATEVER THE INPUT: true; the input reads as it did. -/
def primeStepsSpec : ChangeSpec := { name := "primeSteps", fn := fun _ => fun
  | [d] => { results := [.lit (.bool true)], args := [d] }
  | _ => none }
def primeStepsRow : OpenClaim := { program := "ytbgnjbalojcgkaadoor", sum := "0015e8cd7de57be53c496c10b628c2557805351ba7f20d0a2979ac1d22a41396", func := "treenail/treenaillaw03.PrimeSteps", spec := "primeSteps", inPlace := ["math/bits.Add64", "math/bits.Sub64", "internal/reflectlite.ValueOf", "(internal/reflectlite.Value).Type", "(internal/reflectlite.Value).IsNil", "internal/reflectlite.TypeOf", "(internal/reflectlite.Value).Elem", "(internal/reflectlite.Value).Set"], unfollowed := true, recurses := true, named := ["math/bits.divideError", "math/bits.overflowError", "errors.errorType"], apart := false, laid := [("errors.errorType", laid_errors_errorType)] }
def PrimeStepsSaid : Prop := primeStepsRow.holds Tryd.pinned (OpenSpec.ofChange primeStepsSpec)

/-- ITS FALSE NEIGHBOUR: 'it returns false'. Refute it at one input. -/
def primeStepsWrong : ChangeSpec := { name := "primeSteps", fn := fun _ => fun
  | [d] => { results := [.lit (.bool false)], args := [d] }
  | _ => none }
def PrimeStepsWrongFalsely : Prop := primeStepsRow.holds Tryd.pinned (OpenSpec.ofChange primeStepsWrong)

/- THE SECOND FORM. 'bulk': how many values and letters a reading holds, each counted each time it is reached (what is shared counts as often as it is met; a slice's spare places count too). A statement '..UptoSaid' is the law's where the arguments, and the package variables that the reading takes, are together of bulk at most 1048576: NARROWER than '..Said'. Prove '..Said' where nothing that the law and all that it calls make is longer than what came in: it says more and counts as full. Else prove '..UptoSaid'. A law counts once. -/
mutual
def uptoBulk {H : Type} : DataW H → Nat
  | .lit (.string bytes) => bytes.length + 1
  | .lit _ => 1
  | .nil => 1
  | .ptr d => uptoBulk d + 1
  | .slice elems spare => uptoBulkAll elems + uptoBulkAll spare + 1
  | .agg parts => uptoBulkAll parts + 1
  | .iface _ d => uptoBulk d + 1
  | .map entries => uptoBulkEntries entries + 1
  | .held _ => 1
def uptoBulkAll {H : Type} : List (DataW H) → Nat
  | [] => 0
  | d :: r => uptoBulk d + uptoBulkAll r
def uptoBulkEntries {H : Type} : List (Lit × DataW H) → Nat
  | [] => 0
  | x :: r => uptoBulkEntry x + uptoBulkEntries r
def uptoBulkEntry {H : Type} : Lit × DataW H → Nat
  | (.string bytes, d) => bytes.length + uptoBulk d + 1
  | (_, d) => uptoBulk d + 1
 end
def uptoSmall : (H : Type) → List (DataW H) → Bool := fun _ ds => decide (uptoBulkAll ds ≤ 1048576)
def OpenSpec.upto (s : _root_.Go.ChangeSpec) : _root_.Go.OpenSpec := { _root_.Go.OpenSpec.ofChange s with cond := some uptoSmall }

/-- 'treenaillaw03.PrimeSmall', WHERE WHAT IT READS IS OF BULK AT MOST 1048576: true; the input reads as it did. -/
def primeSmallUptoRow : OpenClaim := { program := "ytbgnjbalojcgkaadoor", sum := "0015e8cd7de57be53c496c10b628c2557805351ba7f20d0a2979ac1d22a41396", func := "treenail/treenaillaw03.PrimeSmall", spec := "primeSmall", inPlace := ["math/bits.Add64", "math/bits.Sub64", "internal/reflectlite.ValueOf", "(internal/reflectlite.Value).Type", "(internal/reflectlite.Value).IsNil", "internal/reflectlite.TypeOf", "(internal/reflectlite.Value).Elem", "(internal/reflectlite.Value).Set"], unfollowed := true, recurses := true, named := ["math/bits.divideError", "math/bits.overflowError", "errors.errorType"], apart := false, laid := [("errors.errorType", laid_errors_errorType)], narrowed := true }
def PrimeSmallUptoSaid : Prop := primeSmallUptoRow.holds Tryd.pinned (OpenSpec.upto primeSmallSpec)

/-- 'treenaillaw03.PrimeProves', WHERE WHAT IT READS IS OF BULK AT MOST 1048576: true; the input reads as it did. -/
def primeProvesUptoRow : OpenClaim := { program := "ytbgnjbalojcgkaadoor", sum := "0015e8cd7de57be53c496c10b628c2557805351ba7f20d0a2979ac1d22a41396", func := "treenail/treenaillaw03.PrimeProves", spec := "primeProves", inPlace := ["math/bits.Add64", "math/bits.Sub64", "internal/reflectlite.ValueOf", "(internal/reflectlite.Value).Type", "(internal/reflectlite.Value).IsNil", "internal/reflectlite.TypeOf", "(internal/reflectlite.Value).Elem", "(internal/reflectlite.Value).Set"], unfollowed := true, recurses := true, named := ["math/bits.divideError", "math/bits.overflowError", "errors.errorType"], apart := false, laid := [("errors.errorType", laid_errors_errorType)], narrowed := true }
def PrimeProvesUptoSaid : Prop := primeProvesUptoRow.holds Tryd.pinned (OpenSpec.upto primeProvesSpec)

/-- 'treenaillaw03.PrimeSteps', WHERE WHAT IT READS IS OF BULK AT MOST 1048576: true; the input reads as it did. -/
def primeStepsUptoRow : OpenClaim := { program := "ytbgnjbalojcgkaadoor", sum := "0015e8cd7de57be53c496c10b628c2557805351ba7f20d0a2979ac1d22a41396", func := "treenail/treenaillaw03.PrimeSteps", spec := "primeSteps", inPlace := ["math/bits.Add64", "math/bits.Sub64", "internal/reflectlite.ValueOf", "(internal/reflectlite.Value).Type", "(internal/reflectlite.Value).IsNil", "internal/reflectlite.TypeOf", "(internal/reflectlite.Value).Elem", "(internal/reflectlite.Value).Set"], unfollowed := true, recurses := true, named := ["math/bits.divideError", "math/bits.overflowError", "errors.errorType"], apart := false, laid := [("errors.errorType", laid_errors_errorType)], narrowed := true }
def PrimeStepsUptoSaid : Prop := primeStepsUptoRow.holds Tryd.pinned (OpenSpec.upto primeStepsSpec)

end Rows
end Go.Proofs.YtbgnjbalojcgkaaDoor
