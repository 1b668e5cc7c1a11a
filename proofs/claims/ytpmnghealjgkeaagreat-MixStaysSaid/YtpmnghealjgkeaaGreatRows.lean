/-
  No cell of these rows narrows 'for every input' (looked for: loops, veiled, ifaces, maps, wideKeys, modest, calm, conditions, laid).
  DERIVED. THE GIVEN ROWS OF THIS SEAT. 8 by the template 'for every input the law returns true; each argument reads behind the call as it read before'; 0 by the template 'total and deterministic' (their statements: YtpmnghealjgkeaaGreatTotals.lean).
  GIVEN WITH THE SEED: the statements are not yours to turn. If you find one false, say at which input.
  Laid BY PROGRAM, IN A SANDBOX (cutbox-rows.mjs): the forced cells as the released guide's own fill.sh prints them over the translation a33c552f9745fdda… (all of the seat's roots in one cut). By AI agents, Wed Nov 11 2026. No macro, syntax, notation, axiom, sorry.
-/
import Derived.Test.YtpmnghealjgkeaaGreatChecked
import GoSem.Claim
import GoSem.ClaimJoined
import GoSem.ClaimMapViews
import Derived.JoinedTies
import Derived.KernelRfl
namespace Go.Proofs.YtpmnghealjgkeaaGreat
/- THE CELL 'sum', in the pinned program and in every row, IS THE sha256 OF THE DUMP (.gsa) THAT YtpmnghealjgkeaaGreatProg.lean LOADS. Nothing in Lean hashes anything: it is a label: what it is worth is what the hold of that sum in a sandbox is worth. -/
noncomputable def Tryz.pinned : Pinned := { name := "ytpmnghealjgkeaagreat", sum := "a33c552f9745fddaa888a33977c56eb19b91bde0183651e2c498a0fceec181b6", checked := Tryz.checked }
namespace Rows
def none {H : Type} : Left H := { results := [], args := [] }

/-- 'treenaillaw07.MixSeals': WHATEVER THE INPUT: true; the input reads as it did. -/
def mixSealsSpec : ChangeSpec := { name := "mixSeals", fn := fun _ => fun
  | [d1, d2, d3, d4, d5] => { results := [.lit (.bool true)], args := [d1, d2, d3, d4, d5] }
  | _ => none }
def mixSealsRow : OpenClaim := { program := "ytpmnghealjgkeaagreat", sum := "a33c552f9745fddaa888a33977c56eb19b91bde0183651e2c498a0fceec181b6", func := "treenail/treenaillaw07.MixSeals", spec := "mixSeals", inPlace := ["math/bits.Add64", "math/bits.Sub64"], unfollowed := true, recurses := true, named := ["math/bits.divideError", "math/bits.overflowError"], apart := false }
def MixSealsSaid : Prop := mixSealsRow.holds Tryz.pinned (OpenSpec.ofChange mixSealsSpec)

/-- ITS FALSE NEIGHBOUR: 'it returns false'. Refute it at one input. -/
def mixSealsWrong : ChangeSpec := { name := "mixSeals", fn := fun _ => fun
  | [d1, d2, d3, d4, d5] => { results := [.lit (.bool false)], args := [d1, d2, d3, d4, d5] }
  | _ => none }
def MixSealsWrongFalsely : Prop := mixSealsRow.holds Tryz.pinned (OpenSpec.ofChange mixSealsWrong)

/-- 'treenaillaw07.MixMixes': WHATEVER THE INPUT: true; the input reads as it did. -/
def mixMixesSpec : ChangeSpec := { name := "mixMixes", fn := fun _ => fun
  | [d1, d2, d3, d4, d5] => { results := [.lit (.bool true)], args := [d1, d2, d3, d4, d5] }
  | _ => none }
def mixMixesRow : OpenClaim := { program := "ytpmnghealjgkeaagreat", sum := "a33c552f9745fddaa888a33977c56eb19b91bde0183651e2c498a0fceec181b6", func := "treenail/treenaillaw07.MixMixes", spec := "mixMixes", inPlace := ["math/bits.Add64", "math/bits.Sub64"], unfollowed := true, recurses := true, named := ["math/bits.divideError", "math/bits.overflowError"], apart := false }
def MixMixesSaid : Prop := mixMixesRow.holds Tryz.pinned (OpenSpec.ofChange mixMixesSpec)

/-- ITS FALSE NEIGHBOUR: 'it returns false'. Refute it at one input. -/
def mixMixesWrong : ChangeSpec := { name := "mixMixes", fn := fun _ => fun
  | [d1, d2, d3, d4, d5] => { results := [.lit (.bool false)], args := [d1, d2, d3, d4, d5] }
  | _ => none }
def MixMixesWrongFalsely : Prop := mixMixesRow.holds Tryz.pinned (OpenSpec.ofChange mixMixesWrong)

/-- 'treenaillaw07.MixStrips': WHATEVER THE INPUT: true; the input reads as it did. -/
def mixStripsSpec : ChangeSpec := { name := "mixStrips", fn := fun _ => fun
  | [d1, d2, d3, d4, d5] => { results := [.lit (.bool true)], args := [d1, d2, d3, d4, d5] }
  | _ => none }
def mixStripsRow : OpenClaim := { program := "ytpmnghealjgkeaagreat", sum := "a33c552f9745fddaa888a33977c56eb19b91bde0183651e2c498a0fceec181b6", func := "treenail/treenaillaw07.MixStrips", spec := "mixStrips", inPlace := ["math/bits.Add64", "math/bits.Sub64"], unfollowed := true, recurses := true, named := ["math/bits.divideError", "math/bits.overflowError"], apart := false }
def MixStripsSaid : Prop := mixStripsRow.holds Tryz.pinned (OpenSpec.ofChange mixStripsSpec)

/-- ITS FALSE NEIGHBOUR: 'it returns false'. Refute it at one input. -/
def mixStripsWrong : ChangeSpec := { name := "mixStrips", fn := fun _ => fun
  | [d1, d2, d3, d4, d5] => { results := [.lit (.bool false)], args := [d1, d2, d3, d4, d5] }
  | _ => none }
def MixStripsWrongFalsely : Prop := mixStripsRow.holds Tryz.pinned (OpenSpec.ofChange mixStripsWrong)

/-- 'treenaillaw07.MixOpens': WHATEVER THE INPUT: true; the input reads as it did. -/
def mixOpensSpec : ChangeSpec := { name := "mixOpens", fn := fun _ => fun
  | [d1, d2, d3, d4, d5] => { results := [.lit (.bool true)], args := [d1, d2, d3, d4, d5] }
  | _ => none }
def mixOpensRow : OpenClaim := { program := "ytpmnghealjgkeaagreat", sum := "a33c552f9745fddaa888a33977c56eb19b91bde0183651e2c498a0fceec181b6", func := "treenail/treenaillaw07.MixOpens", spec := "mixOpens", inPlace := ["math/bits.Add64", "math/bits.Sub64"], unfollowed := true, recurses := true, named := ["math/bits.divideError", "math/bits.overflowError"], apart := false }
def MixOpensSaid : Prop := mixOpensRow.holds Tryz.pinned (OpenSpec.ofChange mixOpensSpec)

/-- ITS FALSE NEIGHBOUR: 'it returns false'. Refute it at one input. -/
def mixOpensWrong : ChangeSpec := { name := "mixOpens", fn := fun _ => fun
  | [d1, d2, d3, d4, d5] => { results := [.lit (.bool false)], args := [d1, d2, d3, d4, d5] }
  | _ => none }
def MixOpensWrongFalsely : Prop := mixOpensRow.holds Tryz.pinned (OpenSpec.ofChange mixOpensWrong)

/-- 'treenaillaw07.MixHides': WHATEVER THE INPUT: true; the input reads as it did. -/
def mixHidesSpec : ChangeSpec := { name := "mixHides", fn := fun _ => fun
  | [d1, d2, d3, d4, d5, d6, d7] => { results := [.lit (.bool true)], args := [d1, d2, d3, d4, d5, d6, d7] }
  | _ => none }
def mixHidesRow : OpenClaim := { program := "ytpmnghealjgkeaagreat", sum := "a33c552f9745fddaa888a33977c56eb19b91bde0183651e2c498a0fceec181b6", func := "treenail/treenaillaw07.MixHides", spec := "mixHides", inPlace := ["math/bits.Add64", "math/bits.Sub64"], unfollowed := true, recurses := true, named := ["math/bits.divideError", "math/bits.overflowError"], apart := false }
def MixHidesSaid : Prop := mixHidesRow.holds Tryz.pinned (OpenSpec.ofChange mixHidesSpec)

/-- ITS FALSE NEIGHBOUR: 'it returns false'. Refute it at one input. -/
def mixHidesWrong : ChangeSpec := { name := "mixHides", fn := fun _ => fun
  | [d1, d2, d3, d4, d5, d6, d7] => { results := [.lit (.bool false)], args := [d1, d2, d3, d4, d5, d6, d7] }
  | _ => none }
def MixHidesWrongFalsely : Prop := mixHidesRow.holds Tryz.pinned (OpenSpec.ofChange mixHidesWrong)

/-- 'treenaillaw07.MixTwice': WHATEVER THE INPUT: true; the input reads as it did. -/
def mixTwiceSpec : ChangeSpec := { name := "mixTwice", fn := fun _ => fun
  | [d1, d2, d3, d4, d5] => { results := [.lit (.bool true)], args := [d1, d2, d3, d4, d5] }
  | _ => none }
def mixTwiceRow : OpenClaim := { program := "ytpmnghealjgkeaagreat", sum := "a33c552f9745fddaa888a33977c56eb19b91bde0183651e2c498a0fceec181b6", func := "treenail/treenaillaw07.MixTwice", spec := "mixTwice", inPlace := ["math/bits.Add64", "math/bits.Sub64"], unfollowed := true, recurses := true, named := ["math/bits.divideError", "math/bits.overflowError"], apart := false }
def MixTwiceSaid : Prop := mixTwiceRow.holds Tryz.pinned (OpenSpec.ofChange mixTwiceSpec)

/-- ITS FALSE NEIGHBOUR: 'it returns false'. Refute it at one input. -/
def mixTwiceWrong : ChangeSpec := { name := "mixTwice", fn := fun _ => fun
  | [d1, d2, d3, d4, d5] => { results := [.lit (.bool false)], args := [d1, d2, d3, d4, d5] }
  | _ => none }
def MixTwiceWrongFalsely : Prop := mixTwiceRow.holds Tryz.pinned (OpenSpec.ofChange mixTwiceWrong)

/-- 'treenaillaw07.MixOrder': WHATEVER THE INPUT: true; the input reads as it did. -/
def mixOrderSpec : ChangeSpec := { name := "mixOrder", fn := fun _ => fun
  | [d1, d2, d3, d4] => { results := [.lit (.bool true)], args := [d1, d2, d3, d4] }
  | _ => none }
def mixOrderRow : OpenClaim := { program := "ytpmnghealjgkeaagreat", sum := "a33c552f9745fddaa888a33977c56eb19b91bde0183651e2c498a0fceec181b6", func := "treenail/treenaillaw07.MixOrder", spec := "mixOrder", inPlace := ["math/bits.Add64", "math/bits.Sub64"], unfollowed := true, recurses := true, named := ["math/bits.divideError", "math/bits.overflowError"], apart := false }
def MixOrderSaid : Prop := mixOrderRow.holds Tryz.pinned (OpenSpec.ofChange mixOrderSpec)

/-- ITS FALSE NEIGHBOUR: 'it returns false'. Refute it at one input. -/
def mixOrderWrong : ChangeSpec := { name := "mixOrder", fn := fun _ => fun
  | [d1, d2, d3, d4] => { results := [.lit (.bool false)], args := [d1, d2, d3, d4] }
  | _ => none }
def MixOrderWrongFalsely : Prop := mixOrderRow.holds Tryz.pinned (OpenSpec.ofChange mixOrderWrong)

/-- 'treenaillaw07.MixStays': WHATEVER THE INPUT: true; the input reads as it did. -/
def mixStaysSpec : ChangeSpec := { name := "mixStays", fn := fun _ => fun
  | [d1, d2, d3, d4] => { results := [.lit (.bool true)], args := [d1, d2, d3, d4] }
  | _ => none }
def mixStaysRow : OpenClaim := { program := "ytpmnghealjgkeaagreat", sum := "a33c552f9745fddaa888a33977c56eb19b91bde0183651e2c498a0fceec181b6", func := "treenail/treenaillaw07.MixStays", spec := "mixStays", inPlace := ["math/bits.Add64", "math/bits.Sub64"], unfollowed := true, recurses := true, named := ["math/bits.divideError", "math/bits.overflowError"], apart := false }
def MixStaysSaid : Prop := mixStaysRow.holds Tryz.pinned (OpenSpec.ofChange mixStaysSpec)

/-- ITS FALSE NEIGHBOUR: 'it returns false'. Refute it at one input. -/
def mixStaysWrong : ChangeSpec := { name := "mixStays", fn := fun _ => fun
  | [d1, d2, d3, d4] => { results := [.lit (.bool false)], args := [d1, d2, d3, d4] }
  | _ => none }
def MixStaysWrongFalsely : Prop := mixStaysRow.holds Tryz.pinned (OpenSpec.ofChange mixStaysWrong)

/- THE SECOND FORM. 'bulk': how many values and letters a reading holds, each counted each time it is reached (what is shared counts as often as it is met; a slice's spare places count too). A statement '..UptoSaid' is the law's where the arguments, and the package variables that the reading takes, are together of bulk at most 1048576: NARROWER than '..Said'. Prove '..Said' where nothing that the law and all that it calls make is longer than what came in: it says more and counts as full. Else prove '..UptoSaid'. A law counts once. -/
mutual
def uptoBulk {H : Type} : DataW H → Nat
  | .lit (.string bytes) => bytes.length + 1
  | .lit _ => 1
  | .nil => 1
  | .ptr d => uptoBulk d + 1
  | .slice elems spare => uptoBulkAll elems + uptoBulkAll spare + 1
  | .agg parts => uptoBulkAll parts + 1
  | .iface _ d => uptoBulk d + 1
  | .map entries => uptoBulkEntries entries + 1
  | .held _ => 1
def uptoBulkAll {H : Type} : List (DataW H) → Nat
  | [] => 0
  | d :: r => uptoBulk d + uptoBulkAll r
def uptoBulkEntries {H : Type} : List (Lit × DataW H) → Nat
  | [] => 0
  | x :: r => uptoBulkEntry x + uptoBulkEntries r
def uptoBulkEntry {H : Type} : Lit × DataW H → Nat
  | (.string bytes, d) => bytes.length + uptoBulk d + 1
  | (_, d) => uptoBulk d + 1
 end
def uptoSmall : (H : Type) → List (DataW H) → Bool := fun _ ds => decide (uptoBulkAll ds ≤ 1048576)
def OpenSpec.upto (s : _root_.Go.ChangeSpec) : _root_.Go.OpenSpec := { _root_.Go.OpenSpec.ofChange s with cond := some uptoSmall }

/-- 'treenaillaw07.MixSeals', WHERE WHAT IT READS IS OF BULK AT MOST 1048576: true; the input reads as it did. -/
def mixSealsUptoRow : OpenClaim := { program := "ytpmnghealjgkeaagreat", sum := "a33c552f9745fddaa888a33977c56eb19b91bde0183651e2c498a0fceec181b6", func := "treenail/treenaillaw07.MixSeals", spec := "mixSeals", inPlace := ["math/bits.Add64", "math/bits.Sub64"], unfollowed := true, recurses := true, named := ["math/bits.divideError", "math/bits.overflowError"], apart := false, narrowed := true }
def MixSealsUptoSaid : Prop := mixSealsUptoRow.holds Tryz.pinned (OpenSpec.upto mixSealsSpec)

/-- 'treenaillaw07.MixMixes', WHERE WHAT IT READS IS OF BULK AT MOST 1048576: true; the input reads as it did. -/
def mixMixesUptoRow : OpenClaim := { program := "ytpmnghealjgkeaagreat", sum := "a33c552f9745fddaa888a33977c56eb19b91bde0183651e2c498a0fceec181b6", func := "treenail/treenaillaw07.MixMixes", spec := "mixMixes", inPlace := ["math/bits.Add64", "math/bits.Sub64"], unfollowed := true, recurses := true, named := ["math/bits.divideError", "math/bits.overflowError"], apart := false, narrowed := true }
def MixMixesUptoSaid : Prop := mixMixesUptoRow.holds Tryz.pinned (OpenSpec.upto mixMixesSpec)

/-- 'treenaillaw07.MixStrips', WHERE WHAT IT READS IS OF BULK AT MOST 1048576: true; the input reads as it did. -/
def mixStripsUptoRow : OpenClaim := { program := "ytpmnghealjgkeaagreat", sum := "a33c552f9745fddaa888a33977c56eb19b91bde0183651e2c498a0fceec181b6", func := "treenail/treenaillaw07.MixStrips", spec := "mixStrips", inPlace := ["math/bits.Add64", "math/bits.Sub64"], unfollowed := true, recurses := true, named := ["math/bits.divideError", "math/bits.overflowError"], apart := false, narrowed := true }
def MixStripsUptoSaid : Prop := mixStripsUptoRow.holds Tryz.pinned (OpenSpec.upto mixStripsSpec)

/-- 'treenaillaw07.MixOpens', WHERE WHAT IT READS IS OF BULK AT MOST 1048576: true; the input reads as it did. -/
def mixOpensUptoRow : OpenClaim := { program := "ytpmnghealjgkeaagreat", sum := "a33c552f9745fddaa888a33977c56eb19b91bde0183651e2c498a0fceec181b6", func := "treenail/treenaillaw07.MixOpens", spec := "mixOpens", inPlace := ["math/bits.Add64", "math/bits.Sub64"], unfollowed := true, recurses := true, named := ["math/bits.divideError", "math/bits.overflowError"], apart := false, narrowed := true }
def MixOpensUptoSaid : Prop := mixOpensUptoRow.holds Tryz.pinned (OpenSpec.upto mixOpensSpec)

/-- 'treenaillaw07.MixHides', WHERE WHAT IT READS IS OF BULK AT MOST 1048576: true; the input reads as it did. -/
def mixHidesUptoRow : OpenClaim := { program := "ytpmnghealjgkeaagreat", sum := "a33c552f9745fddaa888a33977c56eb19b91bde0183651e2c498a0fceec181b6", func := "treenail/treenaillaw07.MixHides", spec := "mixHides", inPlace := ["math/bits.Add64", "math/bits.Sub64"], unfollowed := true, recurses := true, named := ["math/bits.divideError", "math/bits.overflowError"], apart := false, narrowed := true }
def MixHidesUptoSaid : Prop := mixHidesUptoRow.holds Tryz.pinned (OpenSpec.upto mixHidesSpec)

/-- 'treenaillaw07.MixTwice', WHERE WHAT IT READS IS OF BULK AT MOST 1048576: true; the input reads as it did. -/
def mixTwiceUptoRow : OpenClaim := { program := "ytpmnghealjgkeaagreat", sum := "a33c552f9745fddaa888a33977c56eb19b91bde0183651e2c498a0fceec181b6", func := "treenail/treenaillaw07.MixTwice", spec := "mixTwice", inPlace := ["math/bits.Add64", "math/bits.Sub64"], unfollowed := true, recurses := true, named := ["math/bits.divideError", "math/bits.overflowError"], apart := false, narrowed := true }
def MixTwiceUptoSaid : Prop := mixTwiceUptoRow.holds Tryz.pinned (OpenSpec.upto mixTwiceSpec)

/-- 'treenaillaw07.MixOrder', WHERE WHAT IT READS IS OF BULK AT MOST 1048576: true; the input reads as it did. -/
def mixOrderUptoRow : OpenClaim := { program := "ytpmnghealjgkeaagreat", sum := "a33c552f9745fddaa888a33977c56eb19b91bde0183651e2c498a0fceec181b6", func := "treenail/treenaillaw07.MixOrder", spec := "mixOrder", inPlace := ["math/bits.Add64", "math/bits.Sub64"], unfollowed := true, recurses := true, named := ["math/bits.divideError", "math/bits.overflowError"], apart := false, narrowed := true }
def MixOrderUptoSaid : Prop := mixOrderUptoRow.holds Tryz.pinned (OpenSpec.upto mixOrderSpec)

/-- 'treenaillaw07.MixStays', WHERE WHAT IT READS IS OF BULK AT MOST 1048576: true; the input reads as it did. -/
def mixStaysUptoRow : OpenClaim := { program := "ytpmnghealjgkeaagreat", sum := "a33c552f9745fddaa888a33977c56eb19b91bde0183651e2c498a0fceec181b6", func := "treenail/treenaillaw07.MixStays", spec := "mixStays", inPlace := ["math/bits.Add64", "math/bits.Sub64"], unfollowed := true, recurses := true, named := ["math/bits.divideError", "math/bits.overflowError"], apart := false, narrowed := true }
def MixStaysUptoSaid : Prop := mixStaysUptoRow.holds Tryz.pinned (OpenSpec.upto mixStaysSpec)

end Rows
end Go.Proofs.YtpmnghealjgkeaaGreat
