/-
  DERIVED. GIVEN WITH THE SEED: THE CARDS: each row of YtkaahjaghcpflaaGreatDoorRows.lean that lists a variable, with what it lists TIED to the program's text (the seventh form; the later family's looks); each row that meets fmt, with fmt's text TOLD by the authors' own Lean function (tested against real Go, not proved from fmt's source: count such statements apart). THE CARD IS WHAT COUNTS. Prove the row's statement (the work); the ties are given (YtkaahjaghcpflaaGreatDoorTie.lean); close each card by the builder's one call (the guide's Derived/Test/ToyasCard.lean, 'card_holds'). Laid BY PROGRAM, IN A SANDBOX (cutbox-door.mjs). By AI agents, Wed Nov 11 2026. No macro, syntax, notation, axiom, sorry.
-/
import Derived.Test.YtkaahjaghcpflaaGreatDoorRows
import GoSem.ClaimSeven
namespace Go.Proofs.YtkaahjaghcpflaaGreatDoor
namespace Rows

/-- THE TIED CARD OF 'gaugelaw.Printed'. -/
def printedCard : Claim7 := { stood := { row := printedRow, standIns := [], harness := (true, "fd869c6ab32f466a7b7fd58886de0a17e61c92fcfbf3616046e7bf819a81a199"), looks := true }, kinds := [], alts := [], laidByText := true, laidKinds := [.data, .data, .data, .handle, .sentinel, .sentinel, .sentinel, .sentinel, .sentinel, .sentinel, .sentinel, .sentinel, .sentinel, .sentinel, .sentinel, .sentinel, .sentinel], laidTests := true, laidLooks := .later }
def PrintedCardSaid : Prop := Claim7.holds Tryz.pinned (.plain (OpenSpec.ofChange printedSpec)) printedCard

/-- THE TIED CARD OF 'gaugelaw.Evaluated'. -/
def evaluatedCard : Claim7 := { stood := { row := evaluatedRow, standIns := [], harness := (true, "fd869c6ab32f466a7b7fd58886de0a17e61c92fcfbf3616046e7bf819a81a199"), looks := true }, kinds := [], alts := [], laidByText := true, laidKinds := [.data, .data, .data, .data, .handle, .sentinel, .sentinel, .sentinel, .sentinel, .sentinel, .sentinel, .sentinel, .sentinel, .sentinel, .sentinel, .sentinel, .sentinel, .sentinel, .pinned], laidTests := true, laidLooks := .later }
def EvaluatedCardSaid : Prop := Claim7.holds Tryz.pinned (.plain (OpenSpec.ofChange evaluatedSpec)) evaluatedCard

/-- THE TIED CARD OF 'gaugekeep.Again'. -/
def againCard : Claim7 := { stood := { row := againRow, standIns := [], harness := (true, "fd869c6ab32f466a7b7fd58886de0a17e61c92fcfbf3616046e7bf819a81a199"), looks := true }, kinds := [], alts := [], laidByText := true, laidKinds := [.data, .data, .data, .data, .handle, .sentinel, .sentinel, .sentinel, .sentinel, .sentinel, .sentinel, .sentinel, .sentinel, .sentinel, .sentinel, .sentinel, .sentinel, .sentinel, .pinned], laidTests := true, laidLooks := .later }
def AgainCardSaid : Prop := Claim7.holds Tryz.pinned (.plain (OpenSpec.ofChange againSpec)) againCard

/-- THE TIED CARD OF 'gaugekeep.Shuffled'. -/
def shuffledCard : Claim7 := { stood := { row := shuffledRow, standIns := [], harness := (true, "fd869c6ab32f466a7b7fd58886de0a17e61c92fcfbf3616046e7bf819a81a199"), looks := true }, kinds := [], alts := [], laidByText := true, laidKinds := [.data, .data, .data, .data, .handle, .sentinel, .sentinel, .sentinel, .sentinel, .sentinel, .sentinel, .sentinel, .sentinel, .sentinel, .sentinel, .sentinel, .sentinel, .sentinel, .pinned], laidTests := true, laidLooks := .later }
def ShuffledCardSaid : Prop := Claim7.holds Tryz.pinned (.plain (OpenSpec.ofChange shuffledSpec)) shuffledCard

/-- THE TIED CARD OF 'gaugekeep.Windowed'. -/
def windowedCard : Claim7 := { stood := { row := windowedRow, standIns := [], harness := (true, "fd869c6ab32f466a7b7fd58886de0a17e61c92fcfbf3616046e7bf819a81a199"), looks := true }, kinds := [], alts := [], laidByText := true, laidKinds := [.data, .data, .data, .data, .handle, .sentinel, .sentinel, .sentinel, .sentinel, .sentinel, .sentinel, .sentinel, .sentinel, .sentinel, .sentinel, .sentinel, .sentinel, .sentinel, .pinned], laidTests := true, laidLooks := .later }
def WindowedCardSaid : Prop := Claim7.holds Tryz.pinned (.plain (OpenSpec.ofChange windowedSpec)) windowedCard

/-- THE TIED CARD OF 'gaugelaw.Verified'. -/
def verifiedCard : Claim7 := { stood := { row := verifiedRow, standIns := [], harness := (true, "fd869c6ab32f466a7b7fd58886de0a17e61c92fcfbf3616046e7bf819a81a199"), looks := true }, kinds := [], alts := [], laidByText := true, laidKinds := [.data, .data, .data, .data, .handle, .sentinel, .sentinel, .sentinel, .sentinel, .sentinel, .sentinel, .sentinel, .sentinel, .sentinel, .sentinel, .sentinel, .sentinel, .sentinel, .pinned], laidTests := true, laidLooks := .later }
def VerifiedCardSaid : Prop := Claim7.holds Tryz.pinned (.plain (OpenSpec.ofChange verifiedSpec)) verifiedCard

/-- THE TIED CARD OF 'gaugelaw.Executed'. -/
def executedCard : Claim7 := { stood := { row := executedRow, standIns := [], harness := (true, "fd869c6ab32f466a7b7fd58886de0a17e61c92fcfbf3616046e7bf819a81a199"), looks := true }, kinds := [], alts := [], laidByText := true, laidKinds := [.data, .data, .data, .data, .handle, .sentinel, .sentinel, .sentinel, .sentinel, .sentinel, .sentinel, .sentinel, .sentinel, .sentinel, .sentinel, .sentinel, .sentinel, .sentinel, .pinned], laidTests := true, laidLooks := .later }
def ExecutedCardSaid : Prop := Claim7.holds Tryz.pinned (.plain (OpenSpec.ofChange executedSpec)) executedCard

/-- THE TIED CARD OF 'gaugekeep.Safe'. -/
def safeCard : Claim7 := { stood := { row := safeRow, standIns := [], harness := (true, "fd869c6ab32f466a7b7fd58886de0a17e61c92fcfbf3616046e7bf819a81a199"), looks := true }, kinds := [], alts := [], laidByText := true, laidKinds := [.data, .data, .data, .data, .handle, .sentinel, .sentinel, .sentinel, .sentinel, .sentinel, .sentinel, .sentinel, .sentinel, .sentinel, .sentinel, .sentinel, .sentinel, .sentinel, .pinned], laidTests := true, laidLooks := .later }
def SafeCardSaid : Prop := Claim7.holds Tryz.pinned (.plain (OpenSpec.ofChange safeSpec)) safeCard

/-- THE TIED CARD OF 'gaugekeep.Fueled'. -/
def fueledCard : Claim7 := { stood := { row := fueledRow, standIns := [], harness := (true, "fd869c6ab32f466a7b7fd58886de0a17e61c92fcfbf3616046e7bf819a81a199"), looks := true }, kinds := [], alts := [], laidByText := true, laidKinds := [.data, .data, .data, .data, .handle, .sentinel, .sentinel, .sentinel, .sentinel, .sentinel, .sentinel, .sentinel, .sentinel, .sentinel, .sentinel, .sentinel, .sentinel, .sentinel, .pinned], laidTests := true, laidLooks := .later }
def FueledCardSaid : Prop := Claim7.holds Tryz.pinned (.plain (OpenSpec.ofChange fueledSpec)) fueledCard

/-- THE SECOND FORM's CARD OF 'gaugelaw.Printed'. -/
def printedUptoCard : Claim7 := { stood := { row := printedUptoRow, standIns := [], harness := (true, "fd869c6ab32f466a7b7fd58886de0a17e61c92fcfbf3616046e7bf819a81a199"), looks := true }, kinds := [], alts := [], laidByText := true, laidKinds := [.data, .data, .data, .handle, .sentinel, .sentinel, .sentinel, .sentinel, .sentinel, .sentinel, .sentinel, .sentinel, .sentinel, .sentinel, .sentinel, .sentinel, .sentinel], laidTests := true, laidLooks := .later }
def PrintedUptoCardSaid : Prop := Claim7.holds Tryz.pinned (.plain (OpenSpec.upto printedSpec)) printedUptoCard

/-- THE SECOND FORM's CARD OF 'gaugelaw.Evaluated'. -/
def evaluatedUptoCard : Claim7 := { stood := { row := evaluatedUptoRow, standIns := [], harness := (true, "fd869c6ab32f466a7b7fd58886de0a17e61c92fcfbf3616046e7bf819a81a199"), looks := true }, kinds := [], alts := [], laidByText := true, laidKinds := [.data, .data, .data, .data, .handle, .sentinel, .sentinel, .sentinel, .sentinel, .sentinel, .sentinel, .sentinel, .sentinel, .sentinel, .sentinel, .sentinel, .sentinel, .sentinel, .pinned], laidTests := true, laidLooks := .later }
def EvaluatedUptoCardSaid : Prop := Claim7.holds Tryz.pinned (.plain (OpenSpec.upto evaluatedSpec)) evaluatedUptoCard

/-- THE SECOND FORM's CARD OF 'gaugekeep.Again'. -/
def againUptoCard : Claim7 := { stood := { row := againUptoRow, standIns := [], harness := (true, "fd869c6ab32f466a7b7fd58886de0a17e61c92fcfbf3616046e7bf819a81a199"), looks := true }, kinds := [], alts := [], laidByText := true, laidKinds := [.data, .data, .data, .data, .handle, .sentinel, .sentinel, .sentinel, .sentinel, .sentinel, .sentinel, .sentinel, .sentinel, .sentinel, .sentinel, .sentinel, .sentinel, .sentinel, .pinned], laidTests := true, laidLooks := .later }
def AgainUptoCardSaid : Prop := Claim7.holds Tryz.pinned (.plain (OpenSpec.upto againSpec)) againUptoCard

/-- THE SECOND FORM's CARD OF 'gaugekeep.Shuffled'. -/
def shuffledUptoCard : Claim7 := { stood := { row := shuffledUptoRow, standIns := [], harness := (true, "fd869c6ab32f466a7b7fd58886de0a17e61c92fcfbf3616046e7bf819a81a199"), looks := true }, kinds := [], alts := [], laidByText := true, laidKinds := [.data, .data, .data, .data, .handle, .sentinel, .sentinel, .sentinel, .sentinel, .sentinel, .sentinel, .sentinel, .sentinel, .sentinel, .sentinel, .sentinel, .sentinel, .sentinel, .pinned], laidTests := true, laidLooks := .later }
def ShuffledUptoCardSaid : Prop := Claim7.holds Tryz.pinned (.plain (OpenSpec.upto shuffledSpec)) shuffledUptoCard

/-- THE SECOND FORM's CARD OF 'gaugekeep.Windowed'. -/
def windowedUptoCard : Claim7 := { stood := { row := windowedUptoRow, standIns := [], harness := (true, "fd869c6ab32f466a7b7fd58886de0a17e61c92fcfbf3616046e7bf819a81a199"), looks := true }, kinds := [], alts := [], laidByText := true, laidKinds := [.data, .data, .data, .data, .handle, .sentinel, .sentinel, .sentinel, .sentinel, .sentinel, .sentinel, .sentinel, .sentinel, .sentinel, .sentinel, .sentinel, .sentinel, .sentinel, .pinned], laidTests := true, laidLooks := .later }
def WindowedUptoCardSaid : Prop := Claim7.holds Tryz.pinned (.plain (OpenSpec.upto windowedSpec)) windowedUptoCard

/-- THE SECOND FORM's CARD OF 'gaugelaw.Verified'. -/
def verifiedUptoCard : Claim7 := { stood := { row := verifiedUptoRow, standIns := [], harness := (true, "fd869c6ab32f466a7b7fd58886de0a17e61c92fcfbf3616046e7bf819a81a199"), looks := true }, kinds := [], alts := [], laidByText := true, laidKinds := [.data, .data, .data, .data, .handle, .sentinel, .sentinel, .sentinel, .sentinel, .sentinel, .sentinel, .sentinel, .sentinel, .sentinel, .sentinel, .sentinel, .sentinel, .sentinel, .pinned], laidTests := true, laidLooks := .later }
def VerifiedUptoCardSaid : Prop := Claim7.holds Tryz.pinned (.plain (OpenSpec.upto verifiedSpec)) verifiedUptoCard

/-- THE SECOND FORM's CARD OF 'gaugelaw.Executed'. -/
def executedUptoCard : Claim7 := { stood := { row := executedUptoRow, standIns := [], harness := (true, "fd869c6ab32f466a7b7fd58886de0a17e61c92fcfbf3616046e7bf819a81a199"), looks := true }, kinds := [], alts := [], laidByText := true, laidKinds := [.data, .data, .data, .data, .handle, .sentinel, .sentinel, .sentinel, .sentinel, .sentinel, .sentinel, .sentinel, .sentinel, .sentinel, .sentinel, .sentinel, .sentinel, .sentinel, .pinned], laidTests := true, laidLooks := .later }
def ExecutedUptoCardSaid : Prop := Claim7.holds Tryz.pinned (.plain (OpenSpec.upto executedSpec)) executedUptoCard

/-- THE SECOND FORM's CARD OF 'gaugekeep.Safe'. -/
def safeUptoCard : Claim7 := { stood := { row := safeUptoRow, standIns := [], harness := (true, "fd869c6ab32f466a7b7fd58886de0a17e61c92fcfbf3616046e7bf819a81a199"), looks := true }, kinds := [], alts := [], laidByText := true, laidKinds := [.data, .data, .data, .data, .handle, .sentinel, .sentinel, .sentinel, .sentinel, .sentinel, .sentinel, .sentinel, .sentinel, .sentinel, .sentinel, .sentinel, .sentinel, .sentinel, .pinned], laidTests := true, laidLooks := .later }
def SafeUptoCardSaid : Prop := Claim7.holds Tryz.pinned (.plain (OpenSpec.upto safeSpec)) safeUptoCard

/-- THE SECOND FORM's CARD OF 'gaugekeep.Fueled'. -/
def fueledUptoCard : Claim7 := { stood := { row := fueledUptoRow, standIns := [], harness := (true, "fd869c6ab32f466a7b7fd58886de0a17e61c92fcfbf3616046e7bf819a81a199"), looks := true }, kinds := [], alts := [], laidByText := true, laidKinds := [.data, .data, .data, .data, .handle, .sentinel, .sentinel, .sentinel, .sentinel, .sentinel, .sentinel, .sentinel, .sentinel, .sentinel, .sentinel, .sentinel, .sentinel, .sentinel, .pinned], laidTests := true, laidLooks := .later }
def FueledUptoCardSaid : Prop := Claim7.holds Tryz.pinned (.plain (OpenSpec.upto fueledSpec)) fueledUptoCard
end Rows
end Go.Proofs.YtkaahjaghcpflaaGreatDoor
