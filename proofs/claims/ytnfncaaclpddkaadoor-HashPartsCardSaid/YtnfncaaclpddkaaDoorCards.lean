/-
  DERIVED. GIVEN WITH THE SEED: THE CARDS: each row of YtnfncaaclpddkaaDoorRows.lean that lists a variable, with what it lists TIED to the program's text (the seventh form; the later family's looks); each row that meets fmt, with fmt's text TOLD by the authors' own Lean function (tested against real Go, not proved from fmt's source: count such statements apart). THE CARD IS WHAT COUNTS. Prove the row's statement (the work); the ties are given (YtnfncaaclpddkaaDoorTie.lean); close each card by the builder's one call (the guide's Derived/Test/ToyasCard.lean, 'card_holds'). Laid BY PROGRAM, IN A SANDBOX (cutbox-door.mjs). By AI agents, Wed Nov 11 2026. No macro, syntax, notation, axiom, sorry.
-/
import Derived.Test.YtnfncaaclpddkaaDoorRows
import GoSem.ClaimSeven
namespace Go.Proofs.YtnfncaaclpddkaaDoor
namespace Rows

/-- THE TIED CARD OF 'treenaillaw05.HashShas'. -/
def hashShasCard : Claim7 := { stood := { row := hashShasRow, standIns := [], harness := (true, "a8c222651cc9abff800c2baf82e732ba0e258dda6a8fae17a49faf88f0239035"), looks := true }, kinds := [], alts := [], laidByText := true, laidKinds := [.data, .data], laidTests := true, laidLooks := .later }
def HashShasCardSaid : Prop := Claim7.holds Tryd.pinned (.plain (OpenSpec.ofChange hashShasSpec)) hashShasCard

/-- THE TIED CARD OF 'treenaillaw05.HashParts'. -/
def hashPartsCard : Claim7 := { stood := { row := hashPartsRow, standIns := [], harness := (true, "a8c222651cc9abff800c2baf82e732ba0e258dda6a8fae17a49faf88f0239035"), looks := true }, kinds := [], alts := [], laidByText := true, laidKinds := [.data, .data], laidTests := true, laidLooks := .later }
def HashPartsCardSaid : Prop := Claim7.holds Tryd.pinned (.plain (OpenSpec.ofChange hashPartsSpec)) hashPartsCard

/-- THE TIED CARD OF 'treenaillaw05.HashStreams'. -/
def hashStreamsCard : Claim7 := { stood := { row := hashStreamsRow, standIns := [], harness := (true, "a8c222651cc9abff800c2baf82e732ba0e258dda6a8fae17a49faf88f0239035"), looks := true }, kinds := [], alts := [], laidByText := true, laidKinds := [.data, .data], laidTests := true, laidLooks := .later }
def HashStreamsCardSaid : Prop := Claim7.holds Tryd.pinned (.plain (OpenSpec.ofChange hashStreamsSpec)) hashStreamsCard

/-- THE TIED CARD OF 'treenaillaw05.HashFits'. -/
def hashFitsCard : Claim7 := { stood := { row := hashFitsRow, standIns := [], harness := (true, "a8c222651cc9abff800c2baf82e732ba0e258dda6a8fae17a49faf88f0239035"), looks := true }, kinds := [], alts := [], laidByText := true, laidKinds := [.data, .data], laidTests := true, laidLooks := .later }
def HashFitsCardSaid : Prop := Claim7.holds Tryd.pinned (.plain (OpenSpec.ofChange hashFitsSpec)) hashFitsCard

/-- THE SECOND FORM's CARD OF 'treenaillaw05.HashShas'. -/
def hashShasUptoCard : Claim7 := { stood := { row := hashShasUptoRow, standIns := [], harness := (true, "a8c222651cc9abff800c2baf82e732ba0e258dda6a8fae17a49faf88f0239035"), looks := true }, kinds := [], alts := [], laidByText := true, laidKinds := [.data, .data], laidTests := true, laidLooks := .later }
def HashShasUptoCardSaid : Prop := Claim7.holds Tryd.pinned (.plain (OpenSpec.upto hashShasSpec)) hashShasUptoCard

/-- THE SECOND FORM's CARD OF 'treenaillaw05.HashParts'. -/
def hashPartsUptoCard : Claim7 := { stood := { row := hashPartsUptoRow, standIns := [], harness := (true, "a8c222651cc9abff800c2baf82e732ba0e258dda6a8fae17a49faf88f0239035"), looks := true }, kinds := [], alts := [], laidByText := true, laidKinds := [.data, .data], laidTests := true, laidLooks := .later }
def HashPartsUptoCardSaid : Prop := Claim7.holds Tryd.pinned (.plain (OpenSpec.upto hashPartsSpec)) hashPartsUptoCard

/-- THE SECOND FORM's CARD OF 'treenaillaw05.HashStreams'. -/
def hashStreamsUptoCard : Claim7 := { stood := { row := hashStreamsUptoRow, standIns := [], harness := (true, "a8c222651cc9abff800c2baf82e732ba0e258dda6a8fae17a49faf88f0239035"), looks := true }, kinds := [], alts := [], laidByText := true, laidKinds := [.data, .data], laidTests := true, laidLooks := .later }
def HashStreamsUptoCardSaid : Prop := Claim7.holds Tryd.pinned (.plain (OpenSpec.upto hashStreamsSpec)) hashStreamsUptoCard

/-- THE SECOND FORM's CARD OF 'treenaillaw05.HashFits'. -/
def hashFitsUptoCard : Claim7 := { stood := { row := hashFitsUptoRow, standIns := [], harness := (true, "a8c222651cc9abff800c2baf82e732ba0e258dda6a8fae17a49faf88f0239035"), looks := true }, kinds := [], alts := [], laidByText := true, laidKinds := [.data, .data], laidTests := true, laidLooks := .later }
def HashFitsUptoCardSaid : Prop := Claim7.holds Tryd.pinned (.plain (OpenSpec.upto hashFitsSpec)) hashFitsUptoCard
end Rows
end Go.Proofs.YtnfncaaclpddkaaDoor
