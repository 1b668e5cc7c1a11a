/-
  DERIVED. GIVEN WITH THE SEED: THE CARDS: each row of YtbgnjbalojcgkaaGreatDoorRows.lean that lists a variable, with what it lists TIED to the program's text (the seventh form; the later family's looks); each row that meets fmt, with fmt's text TOLD by the authors' own Lean function (tested against real Go, not proved from fmt's source: count such statements apart). THE CARD IS WHAT COUNTS. Prove the row's statement (the work); the ties are given (YtbgnjbalojcgkaaGreatDoorTie.lean); close each card by the builder's one call (the guide's Derived/Test/ToyasCard.lean, 'card_holds'). Laid BY PROGRAM, IN A SANDBOX (cutbox-door.mjs). By AI agents, Wed Nov 11 2026. No macro, syntax, notation, axiom, sorry.
-/
import Derived.Test.YtbgnjbalojcgkaaGreatDoorRows
import GoSem.ClaimSeven
namespace Go.Proofs.YtbgnjbalojcgkaaGreatDoor
namespace Rows

/-- THE TIED CARD OF 'treenaillaw03.PrimeChecks'. -/
def primeChecksCard : Claim7 := { stood := { row := primeChecksRow, standIns := [], harness := (true, "7489445860877ee302c3e5a9d3ba91261a1319f138210e6411d9584000e0b67a"), looks := true }, kinds := [], alts := [], laidByText := true, laidKinds := [.handle], laidTests := true, laidLooks := .later }
def PrimeChecksCardSaid : Prop := Claim7.holds Tryz.pinned (.plain (OpenSpec.ofChange primeChecksSpec)) primeChecksCard

/-- THE SECOND FORM's CARD OF 'treenaillaw03.PrimeChecks'. -/
def primeChecksUptoCard : Claim7 := { stood := { row := primeChecksUptoRow, standIns := [], harness := (true, "7489445860877ee302c3e5a9d3ba91261a1319f138210e6411d9584000e0b67a"), looks := true }, kinds := [], alts := [], laidByText := true, laidKinds := [.handle], laidTests := true, laidLooks := .later }
def PrimeChecksUptoCardSaid : Prop := Claim7.holds Tryz.pinned (.plain (OpenSpec.upto primeChecksSpec)) primeChecksUptoCard
end Rows
end Go.Proofs.YtbgnjbalojcgkaaGreatDoor
