/-
  DERIVED. GIVEN WITH THE SEED: THE CARDS: each row of YtbffcgnefkkhoaaDoorRows.lean that lists a variable, with what it lists TIED to the program's text (the seventh form; the later family's looks); each row that meets fmt, with fmt's text TOLD by the authors' own Lean function (tested against real Go, not proved from fmt's source: count such statements apart). THE CARD IS WHAT COUNTS. Prove the row's statement (the work); the ties are given (YtbffcgnefkkhoaaDoorTie.lean); close each card by the builder's one call (the guide's Derived/Test/ToyasCard.lean, 'card_holds'). Laid BY PROGRAM, IN A SANDBOX (cutbox-door.mjs). By AI agents, Wed Nov 11 2026. No macro, syntax, notation, axiom, sorry.
-/
import Derived.Test.YtbffcgnefkkhoaaDoorRows
import GoSem.ClaimSeven
namespace Go.Proofs.YtbffcgnefkkhoaaDoor
namespace Rows

/-- THE TIED CARD OF 'treenaillaw06.DrawPlays'. -/
def drawPlaysCard : Claim7 := { stood := { row := drawPlaysRow, standIns := [], harness := (true, "82f46d79fab96d09c0a2a7e89190ec3ffb2fe5d2641b14c3b1f2d392d489b016"), looks := true }, kinds := [], alts := [], laidByText := true, laidKinds := [.data, .data], laidTests := true, laidLooks := .later }
def DrawPlaysCardSaid : Prop := Claim7.holds Tryd.pinned (.plain (OpenSpec.ofChange drawPlaysSpec)) drawPlaysCard

/-- THE TIED CARD OF 'treenaillaw06.DrawPerms'. -/
def drawPermsCard : Claim7 := { stood := { row := drawPermsRow, standIns := [], harness := (true, "82f46d79fab96d09c0a2a7e89190ec3ffb2fe5d2641b14c3b1f2d392d489b016"), looks := true }, kinds := [], alts := [], laidByText := true, laidKinds := [.data, .data], laidTests := true, laidLooks := .later }
def DrawPermsCardSaid : Prop := Claim7.holds Tryd.pinned (.plain (OpenSpec.ofChange drawPermsSpec)) drawPermsCard

/-- THE TIED CARD OF 'treenaillaw06.DrawCounts'. -/
def drawCountsCard : Claim7 := { stood := { row := drawCountsRow, standIns := [], harness := (true, "82f46d79fab96d09c0a2a7e89190ec3ffb2fe5d2641b14c3b1f2d392d489b016"), looks := true }, kinds := [], alts := [], laidByText := true, laidKinds := [.data, .data], laidTests := true, laidLooks := .later }
def DrawCountsCardSaid : Prop := Claim7.holds Tryd.pinned (.plain (OpenSpec.ofChange drawCountsSpec)) drawCountsCard

/-- THE SECOND FORM's CARD OF 'treenaillaw06.DrawPlays'. -/
def drawPlaysUptoCard : Claim7 := { stood := { row := drawPlaysUptoRow, standIns := [], harness := (true, "82f46d79fab96d09c0a2a7e89190ec3ffb2fe5d2641b14c3b1f2d392d489b016"), looks := true }, kinds := [], alts := [], laidByText := true, laidKinds := [.data, .data], laidTests := true, laidLooks := .later }
def DrawPlaysUptoCardSaid : Prop := Claim7.holds Tryd.pinned (.plain (OpenSpec.upto drawPlaysSpec)) drawPlaysUptoCard

/-- THE SECOND FORM's CARD OF 'treenaillaw06.DrawPerms'. -/
def drawPermsUptoCard : Claim7 := { stood := { row := drawPermsUptoRow, standIns := [], harness := (true, "82f46d79fab96d09c0a2a7e89190ec3ffb2fe5d2641b14c3b1f2d392d489b016"), looks := true }, kinds := [], alts := [], laidByText := true, laidKinds := [.data, .data], laidTests := true, laidLooks := .later }
def DrawPermsUptoCardSaid : Prop := Claim7.holds Tryd.pinned (.plain (OpenSpec.upto drawPermsSpec)) drawPermsUptoCard

/-- THE SECOND FORM's CARD OF 'treenaillaw06.DrawCounts'. -/
def drawCountsUptoCard : Claim7 := { stood := { row := drawCountsUptoRow, standIns := [], harness := (true, "82f46d79fab96d09c0a2a7e89190ec3ffb2fe5d2641b14c3b1f2d392d489b016"), looks := true }, kinds := [], alts := [], laidByText := true, laidKinds := [.data, .data], laidTests := true, laidLooks := .later }
def DrawCountsUptoCardSaid : Prop := Claim7.holds Tryd.pinned (.plain (OpenSpec.upto drawCountsSpec)) drawCountsUptoCard
end Rows
end Go.Proofs.YtbffcgnefkkhoaaDoor
