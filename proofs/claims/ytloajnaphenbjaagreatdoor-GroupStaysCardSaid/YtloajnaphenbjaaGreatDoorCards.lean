/-
  DERIVED. GIVEN WITH THE SEED: THE CARDS: each row of YtloajnaphenbjaaGreatDoorRows.lean that lists a variable, with what it lists TIED to the program's text (the seventh form; the later family's looks); each row that meets fmt, with fmt's text TOLD by the authors' own Lean function (tested against real Go, not proved from fmt's source: count such statements apart). THE CARD IS WHAT COUNTS. Prove the row's statement (the work); the ties are given (YtloajnaphenbjaaGreatDoorTie.lean); close each card by the builder's one call (the guide's Derived/Test/ToyasCard.lean, 'card_holds'). Laid BY PROGRAM, IN A SANDBOX (cutbox-door.mjs). By AI agents, Wed Nov 11 2026. No macro, syntax, notation, axiom, sorry.
-/
import Derived.Test.YtloajnaphenbjaaGreatDoorRows
import GoSem.ClaimSeven
namespace Go.Proofs.YtloajnaphenbjaaGreatDoor
namespace Rows

/-- THE TIED CARD OF 'treenaillaw04.GroupNew'. -/
def groupNewCard : Claim7 := { stood := { row := groupNewRow, standIns := [], harness := (true, "68e1d761e83c7d81f21f4eee97db6251c288632d66e48bfd77d8d513e4b09cad"), looks := true }, kinds := [], alts := [], laidByText := true, laidKinds := [.handle], laidTests := true, laidLooks := .later }
def GroupNewCardSaid : Prop := Claim7.holds Tryz.pinned (.plain (OpenSpec.ofChange groupNewSpec)) groupNewCard

/-- THE TIED CARD OF 'treenaillaw04.GroupStays'. -/
def groupStaysCard : Claim7 := { stood := { row := groupStaysRow, standIns := [], harness := (true, "68e1d761e83c7d81f21f4eee97db6251c288632d66e48bfd77d8d513e4b09cad"), looks := true }, kinds := [], alts := [], laidByText := true, laidKinds := [.handle], laidTests := true, laidLooks := .later }
def GroupStaysCardSaid : Prop := Claim7.holds Tryz.pinned (.plain (OpenSpec.ofChange groupStaysSpec)) groupStaysCard

/-- THE SECOND FORM's CARD OF 'treenaillaw04.GroupNew'. -/
def groupNewUptoCard : Claim7 := { stood := { row := groupNewUptoRow, standIns := [], harness := (true, "68e1d761e83c7d81f21f4eee97db6251c288632d66e48bfd77d8d513e4b09cad"), looks := true }, kinds := [], alts := [], laidByText := true, laidKinds := [.handle], laidTests := true, laidLooks := .later }
def GroupNewUptoCardSaid : Prop := Claim7.holds Tryz.pinned (.plain (OpenSpec.upto groupNewSpec)) groupNewUptoCard

/-- THE SECOND FORM's CARD OF 'treenaillaw04.GroupStays'. -/
def groupStaysUptoCard : Claim7 := { stood := { row := groupStaysUptoRow, standIns := [], harness := (true, "68e1d761e83c7d81f21f4eee97db6251c288632d66e48bfd77d8d513e4b09cad"), looks := true }, kinds := [], alts := [], laidByText := true, laidKinds := [.handle], laidTests := true, laidLooks := .later }
def GroupStaysUptoCardSaid : Prop := Claim7.holds Tryz.pinned (.plain (OpenSpec.upto groupStaysSpec)) groupStaysUptoCard
end Rows
end Go.Proofs.YtloajnaphenbjaaGreatDoor
