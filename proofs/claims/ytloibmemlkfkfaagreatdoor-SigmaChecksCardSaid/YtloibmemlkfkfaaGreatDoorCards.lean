/-
  DERIVED. GIVEN WITH THE SEED: THE CARDS: each row of YtloibmemlkfkfaaGreatDoorRows.lean that lists a variable, with what it lists TIED to the program's text (the seventh form; the later family's looks); each row that meets fmt, with fmt's text TOLD by the authors' own Lean function (tested against real Go, not proved from fmt's source: count such statements apart). THE CARD IS WHAT COUNTS. Prove the row's statement (the work); the ties are given (YtloibmemlkfkfaaGreatDoorTie.lean); close each card by the builder's one call (the guide's Derived/Test/ToyasCard.lean, 'card_holds'). Laid BY PROGRAM, IN A SANDBOX (cutbox-door.mjs). By AI agents, Wed Nov 11 2026. No macro, syntax, notation, axiom, sorry.
-/
import Derived.Test.YtloibmemlkfkfaaGreatDoorRows
import GoSem.ClaimSeven
namespace Go.Proofs.YtloibmemlkfkfaaGreatDoor
namespace Rows

/-- THE TIED CARD OF 'treenaillaw08.SigmaProves'. -/
def sigmaProvesCard : Claim7 := { stood := { row := sigmaProvesRow, standIns := [], harness := (true, "b72ff158c3b601aa7229778fbee313cac9f0337d18797259c4978995e2b332d9"), looks := true }, kinds := [], alts := [], laidByText := true, laidKinds := [.data, .data], laidTests := true, laidLooks := .later }
def SigmaProvesCardSaid : Prop := Claim7.holds Tryz.pinned (.plain (OpenSpec.ofChange sigmaProvesSpec)) sigmaProvesCard

/-- THE TIED CARD OF 'treenaillaw08.SigmaChecks'. -/
def sigmaChecksCard : Claim7 := { stood := { row := sigmaChecksRow, standIns := [], harness := (true, "b72ff158c3b601aa7229778fbee313cac9f0337d18797259c4978995e2b332d9"), looks := true }, kinds := [], alts := [], laidByText := true, laidKinds := [.data, .data], laidTests := true, laidLooks := .later }
def SigmaChecksCardSaid : Prop := Claim7.holds Tryz.pinned (.plain (OpenSpec.ofChange sigmaChecksSpec)) sigmaChecksCard

/-- THE TIED CARD OF 'treenaillaw08.SigmaHolds'. -/
def sigmaHoldsCard : Claim7 := { stood := { row := sigmaHoldsRow, standIns := [], harness := (true, "b72ff158c3b601aa7229778fbee313cac9f0337d18797259c4978995e2b332d9"), looks := true }, kinds := [], alts := [], laidByText := true, laidKinds := [.data, .data], laidTests := true, laidLooks := .later }
def SigmaHoldsCardSaid : Prop := Claim7.holds Tryz.pinned (.plain (OpenSpec.ofChange sigmaHoldsSpec)) sigmaHoldsCard

/-- THE TIED CARD OF 'treenaillaw08.SigmaSound'. -/
def sigmaSoundCard : Claim7 := { stood := { row := sigmaSoundRow, standIns := [], harness := (true, "b72ff158c3b601aa7229778fbee313cac9f0337d18797259c4978995e2b332d9"), looks := true }, kinds := [], alts := [], laidByText := true, laidKinds := [.data, .data], laidTests := true, laidLooks := .later }
def SigmaSoundCardSaid : Prop := Claim7.holds Tryz.pinned (.plain (OpenSpec.ofChange sigmaSoundSpec)) sigmaSoundCard

/-- THE TIED CARD OF 'treenaillaw08.SigmaStays'. -/
def sigmaStaysCard : Claim7 := { stood := { row := sigmaStaysRow, standIns := [], harness := (true, "b72ff158c3b601aa7229778fbee313cac9f0337d18797259c4978995e2b332d9"), looks := true }, kinds := [], alts := [], laidByText := true, laidKinds := [.data, .data], laidTests := true, laidLooks := .later }
def SigmaStaysCardSaid : Prop := Claim7.holds Tryz.pinned (.plain (OpenSpec.ofChange sigmaStaysSpec)) sigmaStaysCard

/-- THE SECOND FORM's CARD OF 'treenaillaw08.SigmaProves'. -/
def sigmaProvesUptoCard : Claim7 := { stood := { row := sigmaProvesUptoRow, standIns := [], harness := (true, "b72ff158c3b601aa7229778fbee313cac9f0337d18797259c4978995e2b332d9"), looks := true }, kinds := [], alts := [], laidByText := true, laidKinds := [.data, .data], laidTests := true, laidLooks := .later }
def SigmaProvesUptoCardSaid : Prop := Claim7.holds Tryz.pinned (.plain (OpenSpec.upto sigmaProvesSpec)) sigmaProvesUptoCard

/-- THE SECOND FORM's CARD OF 'treenaillaw08.SigmaChecks'. -/
def sigmaChecksUptoCard : Claim7 := { stood := { row := sigmaChecksUptoRow, standIns := [], harness := (true, "b72ff158c3b601aa7229778fbee313cac9f0337d18797259c4978995e2b332d9"), looks := true }, kinds := [], alts := [], laidByText := true, laidKinds := [.data, .data], laidTests := true, laidLooks := .later }
def SigmaChecksUptoCardSaid : Prop := Claim7.holds Tryz.pinned (.plain (OpenSpec.upto sigmaChecksSpec)) sigmaChecksUptoCard

/-- THE SECOND FORM's CARD OF 'treenaillaw08.SigmaHolds'. -/
def sigmaHoldsUptoCard : Claim7 := { stood := { row := sigmaHoldsUptoRow, standIns := [], harness := (true, "b72ff158c3b601aa7229778fbee313cac9f0337d18797259c4978995e2b332d9"), looks := true }, kinds := [], alts := [], laidByText := true, laidKinds := [.data, .data], laidTests := true, laidLooks := .later }
def SigmaHoldsUptoCardSaid : Prop := Claim7.holds Tryz.pinned (.plain (OpenSpec.upto sigmaHoldsSpec)) sigmaHoldsUptoCard

/-- THE SECOND FORM's CARD OF 'treenaillaw08.SigmaSound'. -/
def sigmaSoundUptoCard : Claim7 := { stood := { row := sigmaSoundUptoRow, standIns := [], harness := (true, "b72ff158c3b601aa7229778fbee313cac9f0337d18797259c4978995e2b332d9"), looks := true }, kinds := [], alts := [], laidByText := true, laidKinds := [.data, .data], laidTests := true, laidLooks := .later }
def SigmaSoundUptoCardSaid : Prop := Claim7.holds Tryz.pinned (.plain (OpenSpec.upto sigmaSoundSpec)) sigmaSoundUptoCard

/-- THE SECOND FORM's CARD OF 'treenaillaw08.SigmaStays'. -/
def sigmaStaysUptoCard : Claim7 := { stood := { row := sigmaStaysUptoRow, standIns := [], harness := (true, "b72ff158c3b601aa7229778fbee313cac9f0337d18797259c4978995e2b332d9"), looks := true }, kinds := [], alts := [], laidByText := true, laidKinds := [.data, .data], laidTests := true, laidLooks := .later }
def SigmaStaysUptoCardSaid : Prop := Claim7.holds Tryz.pinned (.plain (OpenSpec.upto sigmaStaysSpec)) sigmaStaysUptoCard
end Rows
end Go.Proofs.YtloibmemlkfkfaaGreatDoor
