/-
  DERIVED. GIVEN WITH THE SEED: THE CARDS: each row of YtelhkmgbpcojiaaDoorRows.lean that lists a variable, with what it lists TIED to the program's text (the seventh form; the later family's looks); each row that meets fmt, with fmt's text TOLD by the authors' own Lean function (tested against real Go, not proved from fmt's source: count such statements apart). THE CARD IS WHAT COUNTS. Prove the row's statement (the work); the ties are given (YtelhkmgbpcojiaaDoorTie.lean); close each card by the builder's one call (the guide's Derived/Test/ToyasCard.lean, 'card_holds'). Laid BY PROGRAM, IN A SANDBOX (cutbox-door.mjs). By AI agents, Wed Nov 11 2026. No macro, syntax, notation, axiom, sorry.
-/
import Derived.Test.YtelhkmgbpcojiaaDoorRows
import GoSem.ClaimSeven
namespace Go.Proofs.YtelhkmgbpcojiaaDoor
namespace Rows

/-- THE TIED CARD OF 'treenaillaw02.MontTold'. -/
def montToldCard : Claim7 := { stood := { row := montToldRow, standIns := [], harness := (true, "90af17dab351823a1e64ddb48ca3b6da57f6ff9a4885b5fe2c2ed7f614462d06"), looks := true }, kinds := [], alts := [], laidByText := true, laidKinds := [.handle], laidTests := true, laidLooks := .later }
def MontToldCardSaid : Prop := Claim7.holds Tryd.pinned (.plain (OpenSpec.ofChange montToldSpec)) montToldCard

/-- THE SECOND FORM's CARD OF 'treenaillaw02.MontTold'. -/
def montToldUptoCard : Claim7 := { stood := { row := montToldUptoRow, standIns := [], harness := (true, "90af17dab351823a1e64ddb48ca3b6da57f6ff9a4885b5fe2c2ed7f614462d06"), looks := true }, kinds := [], alts := [], laidByText := true, laidKinds := [.handle], laidTests := true, laidLooks := .later }
def MontToldUptoCardSaid : Prop := Claim7.holds Tryd.pinned (.plain (OpenSpec.upto montToldSpec)) montToldUptoCard
end Rows
end Go.Proofs.YtelhkmgbpcojiaaDoor
