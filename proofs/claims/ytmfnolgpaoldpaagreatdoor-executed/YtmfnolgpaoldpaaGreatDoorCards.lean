/-
  DERIVED. GIVEN WITH THE SEED: THE CARDS: each row of YtmfnolgpaoldpaaGreatDoorRows.lean that lists a variable, with what it lists TIED to the program's text (the seventh form; the later family's looks); each row that meets fmt, with fmt's text TOLD by the authors' own Lean function (tested against real Go, not proved from fmt's source: count such statements apart). THE CARD IS WHAT COUNTS. Prove the row's statement (the work); the ties are given (YtmfnolgpaoldpaaGreatDoorTie.lean); close each card by the builder's one call (the guide's Derived/Test/ToyasCard.lean, 'card_holds'). Laid BY PROGRAM, IN A SANDBOX (cutbox-door.mjs). By AI agents, Wed Nov 11 2026. No macro, syntax, notation, axiom, sorry.
-/
import Derived.Test.YtmfnolgpaoldpaaGreatDoorRows
import GoSem.ClaimSeven
namespace Go.Proofs.YtmfnolgpaoldpaaGreatDoor
namespace Rows

/-- THE TIED CARD OF 'gaugelaw.Executed'. -/
def executedCard : Claim7 := { stood := { row := executedRow, standIns := [], harness := (true, "aa27171033edb01a70cb73be4b33530a48b6e48c9e9d6c073190b803840e8299"), looks := true }, kinds := [], alts := [], laidByText := true, laidKinds := [.data, .data, .data, .data, .handle, .sentinel, .sentinel, .sentinel, .sentinel, .sentinel, .sentinel, .sentinel, .sentinel, .sentinel, .sentinel, .sentinel, .sentinel, .sentinel, .pinned], laidTests := true, laidLooks := .later }
def ExecutedCardSaid : Prop := Claim7.holds Tryz.pinned (.plain (OpenSpec.ofChange executedSpec)) executedCard

/-- THE SECOND FORM's CARD OF 'gaugelaw.Executed'. -/
def executedUptoCard : Claim7 := { stood := { row := executedUptoRow, standIns := [], harness := (true, "aa27171033edb01a70cb73be4b33530a48b6e48c9e9d6c073190b803840e8299"), looks := true }, kinds := [], alts := [], laidByText := true, laidKinds := [.data, .data, .data, .data, .handle, .sentinel, .sentinel, .sentinel, .sentinel, .sentinel, .sentinel, .sentinel, .sentinel, .sentinel, .sentinel, .sentinel, .sentinel, .sentinel, .pinned], laidTests := true, laidLooks := .later }
def ExecutedUptoCardSaid : Prop := Claim7.holds Tryz.pinned (.plain (OpenSpec.upto executedSpec)) executedUptoCard
end Rows
end Go.Proofs.YtmfnolgpaoldpaaGreatDoor
