/-
  DERIVED. GIVEN WITH THE SEED: THE CARDS: each row of YtkodhpilkaihjaaGreatDoorRows.lean that lists a variable, with what it lists TIED to the program's text (the seventh form; the later family's looks); each row that meets fmt, with fmt's text TOLD by the authors' own Lean function (tested against real Go, not proved from fmt's source: count such statements apart). THE CARD IS WHAT COUNTS. Prove the row's statement (the work); the ties are given (YtkodhpilkaihjaaGreatDoorTie.lean); close each card by the builder's one call (the guide's Derived/Test/ToyasCard.lean, 'card_holds'). Laid BY PROGRAM, IN A SANDBOX (cutbox-door.mjs). By AI agents, Wed Nov 11 2026. No macro, syntax, notation, axiom, sorry.
-/
import Derived.Test.YtkodhpilkaihjaaGreatDoorRows
import GoSem.ClaimSeven
namespace Go.Proofs.YtkodhpilkaihjaaGreatDoor
namespace Rows

/-- THE TIED CARD OF 'gaugelaw.Verified'. -/
def verifiedCard : Claim7 := { stood := { row := verifiedRow, standIns := [], harness := (true, "8841c5b01ce886266bb76227d296f833252d3723f5f65a1b480d0b09a506f9e4"), looks := true }, kinds := [], alts := [], laidByText := true, laidKinds := [.data, .data, .data, .data, .handle, .sentinel, .sentinel, .sentinel, .sentinel, .sentinel, .sentinel, .sentinel, .sentinel, .sentinel, .sentinel, .sentinel, .sentinel, .sentinel, .pinned], laidTests := true, laidLooks := .later }
def VerifiedCardSaid : Prop := Claim7.holds Tryz.pinned (.plain (OpenSpec.ofChange verifiedSpec)) verifiedCard

/-- THE TIED CARD OF 'gaugelaw.Executed'. -/
def executedCard : Claim7 := { stood := { row := executedRow, standIns := [], harness := (true, "8841c5b01ce886266bb76227d296f833252d3723f5f65a1b480d0b09a506f9e4"), looks := true }, kinds := [], alts := [], laidByText := true, laidKinds := [.data, .data, .data, .data, .handle, .sentinel, .sentinel, .sentinel, .sentinel, .sentinel, .sentinel, .sentinel, .sentinel, .sentinel, .sentinel, .sentinel, .sentinel, .sentinel, .pinned], laidTests := true, laidLooks := .later }
def ExecutedCardSaid : Prop := Claim7.holds Tryz.pinned (.plain (OpenSpec.ofChange executedSpec)) executedCard

/-- THE TIED CARD OF 'gaugekeep.Safe'. -/
def safeCard : Claim7 := { stood := { row := safeRow, standIns := [], harness := (true, "8841c5b01ce886266bb76227d296f833252d3723f5f65a1b480d0b09a506f9e4"), looks := true }, kinds := [], alts := [], laidByText := true, laidKinds := [.data, .data, .data, .data, .handle, .sentinel, .sentinel, .sentinel, .sentinel, .sentinel, .sentinel, .sentinel, .sentinel, .sentinel, .sentinel, .sentinel, .sentinel, .sentinel, .pinned], laidTests := true, laidLooks := .later }
def SafeCardSaid : Prop := Claim7.holds Tryz.pinned (.plain (OpenSpec.ofChange safeSpec)) safeCard

/-- THE SECOND FORM's CARD OF 'gaugelaw.Verified'. -/
def verifiedUptoCard : Claim7 := { stood := { row := verifiedUptoRow, standIns := [], harness := (true, "8841c5b01ce886266bb76227d296f833252d3723f5f65a1b480d0b09a506f9e4"), looks := true }, kinds := [], alts := [], laidByText := true, laidKinds := [.data, .data, .data, .data, .handle, .sentinel, .sentinel, .sentinel, .sentinel, .sentinel, .sentinel, .sentinel, .sentinel, .sentinel, .sentinel, .sentinel, .sentinel, .sentinel, .pinned], laidTests := true, laidLooks := .later }
def VerifiedUptoCardSaid : Prop := Claim7.holds Tryz.pinned (.plain (OpenSpec.upto verifiedSpec)) verifiedUptoCard

/-- THE SECOND FORM's CARD OF 'gaugelaw.Executed'. -/
def executedUptoCard : Claim7 := { stood := { row := executedUptoRow, standIns := [], harness := (true, "8841c5b01ce886266bb76227d296f833252d3723f5f65a1b480d0b09a506f9e4"), looks := true }, kinds := [], alts := [], laidByText := true, laidKinds := [.data, .data, .data, .data, .handle, .sentinel, .sentinel, .sentinel, .sentinel, .sentinel, .sentinel, .sentinel, .sentinel, .sentinel, .sentinel, .sentinel, .sentinel, .sentinel, .pinned], laidTests := true, laidLooks := .later }
def ExecutedUptoCardSaid : Prop := Claim7.holds Tryz.pinned (.plain (OpenSpec.upto executedSpec)) executedUptoCard

/-- THE SECOND FORM's CARD OF 'gaugekeep.Safe'. -/
def safeUptoCard : Claim7 := { stood := { row := safeUptoRow, standIns := [], harness := (true, "8841c5b01ce886266bb76227d296f833252d3723f5f65a1b480d0b09a506f9e4"), looks := true }, kinds := [], alts := [], laidByText := true, laidKinds := [.data, .data, .data, .data, .handle, .sentinel, .sentinel, .sentinel, .sentinel, .sentinel, .sentinel, .sentinel, .sentinel, .sentinel, .sentinel, .sentinel, .sentinel, .sentinel, .pinned], laidTests := true, laidLooks := .later }
def SafeUptoCardSaid : Prop := Claim7.holds Tryz.pinned (.plain (OpenSpec.upto safeSpec)) safeUptoCard
end Rows
end Go.Proofs.YtkodhpilkaihjaaGreatDoor
