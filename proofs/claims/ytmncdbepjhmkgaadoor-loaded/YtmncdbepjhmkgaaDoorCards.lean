/-
  DERIVED. GIVEN WITH THE SEED: THE CARDS: each row of YtmncdbepjhmkgaaDoorRows.lean that lists a variable, with what it lists TIED to the program's text (the seventh form; the later family's looks); each row that meets fmt, with fmt's text TOLD by the authors' own Lean function (tested against real Go, not proved from fmt's source: count such statements apart). THE CARD IS WHAT COUNTS. Prove the row's statement (the work); the ties are given (YtmncdbepjhmkgaaDoorTie.lean); close each card by the builder's one call (the guide's Derived/Test/ToyasCard.lean, 'card_holds'). Laid BY PROGRAM, IN A SANDBOX (cutbox-door.mjs). By AI agents, Wed Nov 11 2026. No macro, syntax, notation, axiom, sorry.
-/
import Derived.Test.YtmncdbepjhmkgaaDoorRows
import GoSem.ClaimSeven
namespace Go.Proofs.YtmncdbepjhmkgaaDoor
namespace Rows

/-- THE TIED CARD OF 'gaugelaw.Loaded'. -/
def loadedCard : Claim7 := { stood := { row := loadedRow, standIns := [], harness := (true, "a05a29e61622e21d23177f71d32a6017446c15ee69d65e270fa4c2433589c13c"), looks := true }, kinds := [], alts := [], laidByText := true, laidKinds := [.data, .handle, .sentinel, .sentinel, .sentinel, .sentinel, .sentinel, .sentinel, .sentinel, .sentinel, .sentinel, .sentinel, .sentinel, .sentinel, .sentinel, .pinned], laidTests := true, laidLooks := .later }
def LoadedCardSaid : Prop := Claim7.holds Tryd.pinned (.plain (OpenSpec.ofChange loadedSpec)) loadedCard

/-- THE SECOND FORM's CARD OF 'gaugelaw.Loaded'. -/
def loadedUptoCard : Claim7 := { stood := { row := loadedUptoRow, standIns := [], harness := (true, "a05a29e61622e21d23177f71d32a6017446c15ee69d65e270fa4c2433589c13c"), looks := true }, kinds := [], alts := [], laidByText := true, laidKinds := [.data, .handle, .sentinel, .sentinel, .sentinel, .sentinel, .sentinel, .sentinel, .sentinel, .sentinel, .sentinel, .sentinel, .sentinel, .sentinel, .sentinel, .pinned], laidTests := true, laidLooks := .later }
def LoadedUptoCardSaid : Prop := Claim7.holds Tryd.pinned (.plain (OpenSpec.upto loadedSpec)) loadedUptoCard
end Rows
end Go.Proofs.YtmncdbepjhmkgaaDoor
