/-
  DERIVED. GIVEN WITH THE SEED: THE CARDS: each row of YtbgnjbalojcgkaaDoorRows.lean that lists a variable, with what it lists TIED to the program's text (the seventh form; the later family's looks); each row that meets fmt, with fmt's text TOLD by the authors' own Lean function (tested against real Go, not proved from fmt's source: count such statements apart). THE CARD IS WHAT COUNTS. Prove the row's statement (the work); the ties are given (YtbgnjbalojcgkaaDoorTie.lean); close each card by the builder's one call (the guide's Derived/Test/ToyasCard.lean, 'card_holds'). Laid BY PROGRAM, IN A SANDBOX (cutbox-door.mjs). By AI agents, Wed Nov 11 2026. No macro, syntax, notation, axiom, sorry.
-/
import Derived.Test.YtbgnjbalojcgkaaDoorRows
import GoSem.ClaimSeven
namespace Go.Proofs.YtbgnjbalojcgkaaDoor
namespace Rows

/-- THE TIED CARD OF 'treenaillaw03.PrimeSmall'. -/
def primeSmallCard : Claim7 := { stood := { row := primeSmallRow, standIns := [], harness := (true, "0e4b8833e6918d1763cf8f56d9f2c181e13d8d21ea8f188c7737e324f7221eab"), looks := true }, kinds := [], alts := [], laidByText := true, laidKinds := [.handle], laidTests := true, laidLooks := .later }
def PrimeSmallCardSaid : Prop := Claim7.holds Tryd.pinned (.plain (OpenSpec.ofChange primeSmallSpec)) primeSmallCard

/-- THE TIED CARD OF 'treenaillaw03.PrimeProves'. -/
def primeProvesCard : Claim7 := { stood := { row := primeProvesRow, standIns := [], harness := (true, "0e4b8833e6918d1763cf8f56d9f2c181e13d8d21ea8f188c7737e324f7221eab"), looks := true }, kinds := [], alts := [], laidByText := true, laidKinds := [.handle], laidTests := true, laidLooks := .later }
def PrimeProvesCardSaid : Prop := Claim7.holds Tryd.pinned (.plain (OpenSpec.ofChange primeProvesSpec)) primeProvesCard

/-- THE TIED CARD OF 'treenaillaw03.PrimeSteps'. -/
def primeStepsCard : Claim7 := { stood := { row := primeStepsRow, standIns := [], harness := (true, "0e4b8833e6918d1763cf8f56d9f2c181e13d8d21ea8f188c7737e324f7221eab"), looks := true }, kinds := [], alts := [], laidByText := true, laidKinds := [.handle], laidTests := true, laidLooks := .later }
def PrimeStepsCardSaid : Prop := Claim7.holds Tryd.pinned (.plain (OpenSpec.ofChange primeStepsSpec)) primeStepsCard

/-- THE SECOND FORM's CARD OF 'treenaillaw03.PrimeSmall'. -/
def primeSmallUptoCard : Claim7 := { stood := { row := primeSmallUptoRow, standIns := [], harness := (true, "0e4b8833e6918d1763cf8f56d9f2c181e13d8d21ea8f188c7737e324f7221eab"), looks := true }, kinds := [], alts := [], laidByText := true, laidKinds := [.handle], laidTests := true, laidLooks := .later }
def PrimeSmallUptoCardSaid : Prop := Claim7.holds Tryd.pinned (.plain (OpenSpec.upto primeSmallSpec)) primeSmallUptoCard

/-- THE SECOND FORM's CARD OF 'treenaillaw03.PrimeProves'. -/
def primeProvesUptoCard : Claim7 := { stood := { row := primeProvesUptoRow, standIns := [], harness := (true, "0e4b8833e6918d1763cf8f56d9f2c181e13d8d21ea8f188c7737e324f7221eab"), looks := true }, kinds := [], alts := [], laidByText := true, laidKinds := [.handle], laidTests := true, laidLooks := .later }
def PrimeProvesUptoCardSaid : Prop := Claim7.holds Tryd.pinned (.plain (OpenSpec.upto primeProvesSpec)) primeProvesUptoCard

/-- THE SECOND FORM's CARD OF 'treenaillaw03.PrimeSteps'. -/
def primeStepsUptoCard : Claim7 := { stood := { row := primeStepsUptoRow, standIns := [], harness := (true, "0e4b8833e6918d1763cf8f56d9f2c181e13d8d21ea8f188c7737e324f7221eab"), looks := true }, kinds := [], alts := [], laidByText := true, laidKinds := [.handle], laidTests := true, laidLooks := .later }
def PrimeStepsUptoCardSaid : Prop := Claim7.holds Tryd.pinned (.plain (OpenSpec.upto primeStepsSpec)) primeStepsUptoCard
end Rows
end Go.Proofs.YtbgnjbalojcgkaaDoor
