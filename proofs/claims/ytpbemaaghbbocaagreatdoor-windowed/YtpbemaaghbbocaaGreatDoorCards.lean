/-
  DERIVED. GIVEN WITH THE SEED: THE CARDS: each row of YtpbemaaghbbocaaGreatDoorRows.lean that lists a variable, with what it lists TIED to the program's text (the seventh form; the later family's looks); each row that meets fmt, with fmt's text TOLD by the authors' own Lean function (tested against real Go, not proved from fmt's source: count such statements apart). THE CARD IS WHAT COUNTS. Prove the row's statement (the work); the ties are given (YtpbemaaghbbocaaGreatDoorTie.lean); close each card by the builder's one call (the guide's Derived/Test/ToyasCard.lean, 'card_holds'). Laid BY PROGRAM, IN A SANDBOX (cutbox-door.mjs). By AI agents, Wed Nov 11 2026. No macro, syntax, notation, axiom, sorry.
-/
import Derived.Test.YtpbemaaghbbocaaGreatDoorRows
import GoSem.ClaimSeven
namespace Go.Proofs.YtpbemaaghbbocaaGreatDoor
namespace Rows

/-- THE TIED CARD OF 'gaugelaw.Evaluated'. -/
def evaluatedCard : Claim7 := { stood := { row := evaluatedRow, standIns := [], harness := (true, "a69ccd603fb51472bce8ed3f6ad9dbf6dff1a1e3d2d04032932e9588154af348"), looks := true }, kinds := [], alts := [], laidByText := true, laidKinds := [.data, .data, .data, .data, .handle, .sentinel, .sentinel, .sentinel, .sentinel, .sentinel, .sentinel, .sentinel, .sentinel, .sentinel, .sentinel, .sentinel, .sentinel, .sentinel, .pinned], laidTests := true, laidLooks := .later }
def EvaluatedCardSaid : Prop := Claim7.holds Tryz.pinned (.plain (OpenSpec.ofChange evaluatedSpec)) evaluatedCard

/-- THE TIED CARD OF 'gaugekeep.Again'. -/
def againCard : Claim7 := { stood := { row := againRow, standIns := [], harness := (true, "a69ccd603fb51472bce8ed3f6ad9dbf6dff1a1e3d2d04032932e9588154af348"), looks := true }, kinds := [], alts := [], laidByText := true, laidKinds := [.data, .data, .data, .data, .handle, .sentinel, .sentinel, .sentinel, .sentinel, .sentinel, .sentinel, .sentinel, .sentinel, .sentinel, .sentinel, .sentinel, .sentinel, .sentinel, .pinned], laidTests := true, laidLooks := .later }
def AgainCardSaid : Prop := Claim7.holds Tryz.pinned (.plain (OpenSpec.ofChange againSpec)) againCard

/-- THE TIED CARD OF 'gaugekeep.Shuffled'. -/
def shuffledCard : Claim7 := { stood := { row := shuffledRow, standIns := [], harness := (true, "a69ccd603fb51472bce8ed3f6ad9dbf6dff1a1e3d2d04032932e9588154af348"), looks := true }, kinds := [], alts := [], laidByText := true, laidKinds := [.data, .data, .data, .data, .handle, .sentinel, .sentinel, .sentinel, .sentinel, .sentinel, .sentinel, .sentinel, .sentinel, .sentinel, .sentinel, .sentinel, .sentinel, .sentinel, .pinned], laidTests := true, laidLooks := .later }
def ShuffledCardSaid : Prop := Claim7.holds Tryz.pinned (.plain (OpenSpec.ofChange shuffledSpec)) shuffledCard

/-- THE TIED CARD OF 'gaugekeep.Windowed'. -/
def windowedCard : Claim7 := { stood := { row := windowedRow, standIns := [], harness := (true, "a69ccd603fb51472bce8ed3f6ad9dbf6dff1a1e3d2d04032932e9588154af348"), looks := true }, kinds := [], alts := [], laidByText := true, laidKinds := [.data, .data, .data, .data, .handle, .sentinel, .sentinel, .sentinel, .sentinel, .sentinel, .sentinel, .sentinel, .sentinel, .sentinel, .sentinel, .sentinel, .sentinel, .sentinel, .pinned], laidTests := true, laidLooks := .later }
def WindowedCardSaid : Prop := Claim7.holds Tryz.pinned (.plain (OpenSpec.ofChange windowedSpec)) windowedCard

/-- THE SECOND FORM's CARD OF 'gaugelaw.Evaluated'. -/
def evaluatedUptoCard : Claim7 := { stood := { row := evaluatedUptoRow, standIns := [], harness := (true, "a69ccd603fb51472bce8ed3f6ad9dbf6dff1a1e3d2d04032932e9588154af348"), looks := true }, kinds := [], alts := [], laidByText := true, laidKinds := [.data, .data, .data, .data, .handle, .sentinel, .sentinel, .sentinel, .sentinel, .sentinel, .sentinel, .sentinel, .sentinel, .sentinel, .sentinel, .sentinel, .sentinel, .sentinel, .pinned], laidTests := true, laidLooks := .later }
def EvaluatedUptoCardSaid : Prop := Claim7.holds Tryz.pinned (.plain (OpenSpec.upto evaluatedSpec)) evaluatedUptoCard

/-- THE SECOND FORM's CARD OF 'gaugekeep.Again'. -/
def againUptoCard : Claim7 := { stood := { row := againUptoRow, standIns := [], harness := (true, "a69ccd603fb51472bce8ed3f6ad9dbf6dff1a1e3d2d04032932e9588154af348"), looks := true }, kinds := [], alts := [], laidByText := true, laidKinds := [.data, .data, .data, .data, .handle, .sentinel, .sentinel, .sentinel, .sentinel, .sentinel, .sentinel, .sentinel, .sentinel, .sentinel, .sentinel, .sentinel, .sentinel, .sentinel, .pinned], laidTests := true, laidLooks := .later }
def AgainUptoCardSaid : Prop := Claim7.holds Tryz.pinned (.plain (OpenSpec.upto againSpec)) againUptoCard

/-- THE SECOND FORM's CARD OF 'gaugekeep.Shuffled'. -/
def shuffledUptoCard : Claim7 := { stood := { row := shuffledUptoRow, standIns := [], harness := (true, "a69ccd603fb51472bce8ed3f6ad9dbf6dff1a1e3d2d04032932e9588154af348"), looks := true }, kinds := [], alts := [], laidByText := true, laidKinds := [.data, .data, .data, .data, .handle, .sentinel, .sentinel, .sentinel, .sentinel, .sentinel, .sentinel, .sentinel, .sentinel, .sentinel, .sentinel, .sentinel, .sentinel, .sentinel, .pinned], laidTests := true, laidLooks := .later }
def ShuffledUptoCardSaid : Prop := Claim7.holds Tryz.pinned (.plain (OpenSpec.upto shuffledSpec)) shuffledUptoCard

/-- THE SECOND FORM's CARD OF 'gaugekeep.Windowed'. -/
def windowedUptoCard : Claim7 := { stood := { row := windowedUptoRow, standIns := [], harness := (true, "a69ccd603fb51472bce8ed3f6ad9dbf6dff1a1e3d2d04032932e9588154af348"), looks := true }, kinds := [], alts := [], laidByText := true, laidKinds := [.data, .data, .data, .data, .handle, .sentinel, .sentinel, .sentinel, .sentinel, .sentinel, .sentinel, .sentinel, .sentinel, .sentinel, .sentinel, .sentinel, .sentinel, .sentinel, .pinned], laidTests := true, laidLooks := .later }
def WindowedUptoCardSaid : Prop := Claim7.holds Tryz.pinned (.plain (OpenSpec.upto windowedSpec)) windowedUptoCard
end Rows
end Go.Proofs.YtpbemaaghbbocaaGreatDoor
