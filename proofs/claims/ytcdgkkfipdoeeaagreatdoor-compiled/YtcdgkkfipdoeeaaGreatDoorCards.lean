/-
  DERIVED. GIVEN WITH THE SEED: THE CARDS: each row of YtcdgkkfipdoeeaaGreatDoorRows.lean that lists a variable, with what it lists TIED to the program's text (the seventh form; the later family's looks); each row that meets fmt, with fmt's text TOLD by the authors' own Lean function (tested against real Go, not proved from fmt's source: count such statements apart). THE CARD IS WHAT COUNTS. Prove the row's statement (the work); the ties are given (YtcdgkkfipdoeeaaGreatDoorTie.lean); close each card by the builder's one call (the guide's Derived/Test/ToyasCard.lean, 'card_holds'). Laid BY PROGRAM, IN A SANDBOX (cutbox-door.mjs). By AI agents, Wed Nov 11 2026. No macro, syntax, notation, axiom, sorry.
-/
import Derived.Test.YtcdgkkfipdoeeaaGreatDoorRows
import GoSem.ClaimSeven
namespace Go.Proofs.YtcdgkkfipdoeeaaGreatDoor
namespace Rows

/-- THE TIED CARD OF 'gaugekeep.Compiled'. -/
def compiledCard : Claim7 := { stood := { row := compiledRow, standIns := [], harness := (true, "94a116d70eb9cbdb58a1447fb708009e68f7c6c53c0c6ffcc530363c6bd64090"), looks := true }, kinds := [], alts := [], laidByText := true, laidKinds := [.data, .data, .data, .data, .handle, .sentinel, .sentinel, .sentinel, .sentinel, .sentinel, .sentinel, .sentinel, .sentinel, .sentinel, .sentinel, .sentinel, .sentinel, .sentinel, .pinned], laidTests := true, laidLooks := .later }
def CompiledCardSaid : Prop := Claim7.holds Tryz.pinned (.plain (OpenSpec.ofChange compiledSpec)) compiledCard

/-- THE TIED CARD OF 'gaugekeep.Tight'. -/
def tightCard : Claim7 := { stood := { row := tightRow, standIns := [], harness := (true, "94a116d70eb9cbdb58a1447fb708009e68f7c6c53c0c6ffcc530363c6bd64090"), looks := true }, kinds := [], alts := [], laidByText := true, laidKinds := [.data, .data, .data, .data, .handle, .sentinel, .sentinel, .sentinel, .sentinel, .sentinel, .sentinel, .sentinel, .sentinel, .sentinel, .sentinel, .sentinel, .sentinel, .sentinel, .pinned], laidTests := true, laidLooks := .later }
def TightCardSaid : Prop := Claim7.holds Tryz.pinned (.plain (OpenSpec.ofChange tightSpec)) tightCard

/-- THE TIED CARD OF 'gaugekeep.Fueled'. -/
def fueledCard : Claim7 := { stood := { row := fueledRow, standIns := [], harness := (true, "94a116d70eb9cbdb58a1447fb708009e68f7c6c53c0c6ffcc530363c6bd64090"), looks := true }, kinds := [], alts := [], laidByText := true, laidKinds := [.data, .data, .data, .data, .handle, .sentinel, .sentinel, .sentinel, .sentinel, .sentinel, .sentinel, .sentinel, .sentinel, .sentinel, .sentinel, .sentinel, .sentinel, .sentinel, .pinned], laidTests := true, laidLooks := .later }
def FueledCardSaid : Prop := Claim7.holds Tryz.pinned (.plain (OpenSpec.ofChange fueledSpec)) fueledCard

/-- THE SECOND FORM's CARD OF 'gaugekeep.Compiled'. -/
def compiledUptoCard : Claim7 := { stood := { row := compiledUptoRow, standIns := [], harness := (true, "94a116d70eb9cbdb58a1447fb708009e68f7c6c53c0c6ffcc530363c6bd64090"), looks := true }, kinds := [], alts := [], laidByText := true, laidKinds := [.data, .data, .data, .data, .handle, .sentinel, .sentinel, .sentinel, .sentinel, .sentinel, .sentinel, .sentinel, .sentinel, .sentinel, .sentinel, .sentinel, .sentinel, .sentinel, .pinned], laidTests := true, laidLooks := .later }
def CompiledUptoCardSaid : Prop := Claim7.holds Tryz.pinned (.plain (OpenSpec.upto compiledSpec)) compiledUptoCard

/-- THE SECOND FORM's CARD OF 'gaugekeep.Tight'. -/
def tightUptoCard : Claim7 := { stood := { row := tightUptoRow, standIns := [], harness := (true, "94a116d70eb9cbdb58a1447fb708009e68f7c6c53c0c6ffcc530363c6bd64090"), looks := true }, kinds := [], alts := [], laidByText := true, laidKinds := [.data, .data, .data, .data, .handle, .sentinel, .sentinel, .sentinel, .sentinel, .sentinel, .sentinel, .sentinel, .sentinel, .sentinel, .sentinel, .sentinel, .sentinel, .sentinel, .pinned], laidTests := true, laidLooks := .later }
def TightUptoCardSaid : Prop := Claim7.holds Tryz.pinned (.plain (OpenSpec.upto tightSpec)) tightUptoCard

/-- THE SECOND FORM's CARD OF 'gaugekeep.Fueled'. -/
def fueledUptoCard : Claim7 := { stood := { row := fueledUptoRow, standIns := [], harness := (true, "94a116d70eb9cbdb58a1447fb708009e68f7c6c53c0c6ffcc530363c6bd64090"), looks := true }, kinds := [], alts := [], laidByText := true, laidKinds := [.data, .data, .data, .data, .handle, .sentinel, .sentinel, .sentinel, .sentinel, .sentinel, .sentinel, .sentinel, .sentinel, .sentinel, .sentinel, .sentinel, .sentinel, .sentinel, .pinned], laidTests := true, laidLooks := .later }
def FueledUptoCardSaid : Prop := Claim7.holds Tryz.pinned (.plain (OpenSpec.upto fueledSpec)) fueledUptoCard
end Rows
end Go.Proofs.YtcdgkkfipdoeeaaGreatDoor
