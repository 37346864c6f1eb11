/-
  DERIVED. GIVEN WITH THE SEED: THE CARDS: each row of YtafaohnhlgcnpaaGreatDoorRows.lean that lists a variable, with what it lists TIED to the program's text (the seventh form; the later family's looks); each row that meets fmt, with fmt's text TOLD by the authors' own Lean function (tested against real Go, not proved from fmt's source: count such statements apart). THE CARD IS WHAT COUNTS. Prove the row's statement (the work); the ties are given (YtafaohnhlgcnpaaGreatDoorTie.lean); close each card by the builder's one call (the guide's Derived/Test/ToyasCard.lean, 'card_holds'). Laid BY PROGRAM, IN A SANDBOX (cutbox-door.mjs). By AI agents, Wed Nov 11 2026. No macro, syntax, notation, axiom, sorry.
-/
import Derived.Test.YtafaohnhlgcnpaaGreatDoorRows
import GoSem.ClaimSeven
namespace Go.Proofs.YtafaohnhlgcnpaaGreatDoor
namespace Rows

/-- THE TIED CARD OF 'ploverlaw12.WritePlays'. -/
def writePlaysCard : Claim7 := { stood := { row := writePlaysRow, standIns := [], harness := (true, "02538727079ee013b1a7712d643205662dc002cdba53d9500ab454aeaa6d0344"), looks := false }, kinds := [], alts := [], laidByText := true, laidKinds := [.data, .data], laidTests := true, laidLooks := .later }
def WritePlaysCardSaid : Prop := Claim7.holds Tryz.pinned (.plain (OpenSpec.ofChange writePlaysSpec)) writePlaysCard

/-- THE TIED CARD OF 'ploverlaw12.WriteAtOnce'. -/
def writeAtOnceCard : Claim7 := { stood := { row := writeAtOnceRow, standIns := [], harness := (true, "02538727079ee013b1a7712d643205662dc002cdba53d9500ab454aeaa6d0344"), looks := false }, kinds := [], alts := [], laidByText := true, laidKinds := [.data, .data], laidTests := true, laidLooks := .later }
def WriteAtOnceCardSaid : Prop := Claim7.holds Tryz.pinned (.plain (OpenSpec.ofChange writeAtOnceSpec)) writeAtOnceCard

/-- THE TIED CARD OF 'ploverlaw12.WriteRefused'. -/
def writeRefusedCard : Claim7 := { stood := { row := writeRefusedRow, standIns := [], harness := (true, "02538727079ee013b1a7712d643205662dc002cdba53d9500ab454aeaa6d0344"), looks := false }, kinds := [], alts := [], laidByText := true, laidKinds := [.data, .data], laidTests := true, laidLooks := .later }
def WriteRefusedCardSaid : Prop := Claim7.holds Tryz.pinned (.plain (OpenSpec.ofChange writeRefusedSpec)) writeRefusedCard

/-- THE TIED CARD OF 'ploverlaw12.WriteErrors'. -/
def writeErrorsCard : Claim7 := { stood := { row := writeErrorsRow, standIns := [], harness := (true, "02538727079ee013b1a7712d643205662dc002cdba53d9500ab454aeaa6d0344"), looks := false }, kinds := [], alts := [], laidByText := true, laidKinds := [.data, .data], laidTests := true, laidLooks := .later }
def WriteErrorsCardSaid : Prop := Claim7.holds Tryz.pinned (.plain (OpenSpec.ofChange writeErrorsSpec)) writeErrorsCard

/-- THE TIED CARD OF 'ploverlaw12.WriteSegments'. -/
def writeSegmentsCard : Claim7 := { stood := { row := writeSegmentsRow, standIns := [], harness := (true, "02538727079ee013b1a7712d643205662dc002cdba53d9500ab454aeaa6d0344"), looks := false }, kinds := [], alts := [], laidByText := true, laidKinds := [.data, .data], laidTests := true, laidLooks := .later }
def WriteSegmentsCardSaid : Prop := Claim7.holds Tryz.pinned (.plain (OpenSpec.ofChange writeSegmentsSpec)) writeSegmentsCard

/-- THE TIED CARD OF 'ploverlaw12.WriteEmpty'. -/
def writeEmptyCard : Claim7 := { stood := { row := writeEmptyRow, standIns := [], harness := (true, "02538727079ee013b1a7712d643205662dc002cdba53d9500ab454aeaa6d0344"), looks := false }, kinds := [], alts := [], laidByText := true, laidKinds := [.data, .data], laidTests := true, laidLooks := .later }
def WriteEmptyCardSaid : Prop := Claim7.holds Tryz.pinned (.plain (OpenSpec.ofChange writeEmptySpec)) writeEmptyCard

/-- THE TIED CARD OF 'ploverlaw16.RollPlays'. -/
def rollPlaysCard : Claim7 := { stood := { row := rollPlaysRow, standIns := [], harness := (true, "02538727079ee013b1a7712d643205662dc002cdba53d9500ab454aeaa6d0344"), looks := false }, kinds := [], alts := [], laidByText := true, laidKinds := [.data, .data], laidTests := true, laidLooks := .later }
def RollPlaysCardSaid : Prop := Claim7.holds Tryz.pinned (.plain (OpenSpec.ofChange rollPlaysSpec)) rollPlaysCard

/-- THE TIED CARD OF 'ploverlaw16.RollSame'. -/
def rollSameCard : Claim7 := { stood := { row := rollSameRow, standIns := [], harness := (true, "02538727079ee013b1a7712d643205662dc002cdba53d9500ab454aeaa6d0344"), looks := false }, kinds := [], alts := [], laidByText := true, laidKinds := [.data, .data], laidTests := true, laidLooks := .later }
def RollSameCardSaid : Prop := Claim7.holds Tryz.pinned (.plain (OpenSpec.ofChange rollSameSpec)) rollSameCard

/-- THE TIED CARD OF 'ploverlaw16.RollEmpty'. -/
def rollEmptyCard : Claim7 := { stood := { row := rollEmptyRow, standIns := [], harness := (true, "02538727079ee013b1a7712d643205662dc002cdba53d9500ab454aeaa6d0344"), looks := false }, kinds := [], alts := [], laidByText := true, laidKinds := [.data, .data], laidTests := true, laidLooks := .later }
def RollEmptyCardSaid : Prop := Claim7.holds Tryz.pinned (.plain (OpenSpec.ofChange rollEmptySpec)) rollEmptyCard

/-- THE TIED CARD OF 'ploverlaw16.RollSize'. -/
def rollSizeCard : Claim7 := { stood := { row := rollSizeRow, standIns := [], harness := (true, "02538727079ee013b1a7712d643205662dc002cdba53d9500ab454aeaa6d0344"), looks := false }, kinds := [], alts := [], laidByText := true, laidKinds := [.data, .data], laidTests := true, laidLooks := .later }
def RollSizeCardSaid : Prop := Claim7.holds Tryz.pinned (.plain (OpenSpec.ofChange rollSizeSpec)) rollSizeCard

/-- THE TIED CARD OF 'ploverlaw16.RollEntries'. -/
def rollEntriesCard : Claim7 := { stood := { row := rollEntriesRow, standIns := [], harness := (true, "02538727079ee013b1a7712d643205662dc002cdba53d9500ab454aeaa6d0344"), looks := false }, kinds := [], alts := [], laidByText := true, laidKinds := [.data, .data], laidTests := true, laidLooks := .later }
def RollEntriesCardSaid : Prop := Claim7.holds Tryz.pinned (.plain (OpenSpec.ofChange rollEntriesSpec)) rollEntriesCard

/-- THE SECOND FORM's CARD OF 'ploverlaw12.WritePlays'. -/
def writePlaysUptoCard : Claim7 := { stood := { row := writePlaysUptoRow, standIns := [], harness := (true, "02538727079ee013b1a7712d643205662dc002cdba53d9500ab454aeaa6d0344"), looks := false }, kinds := [], alts := [], laidByText := true, laidKinds := [.data, .data], laidTests := true, laidLooks := .later }
def WritePlaysUptoCardSaid : Prop := Claim7.holds Tryz.pinned (.plain (OpenSpec.upto writePlaysSpec)) writePlaysUptoCard

/-- THE SECOND FORM's CARD OF 'ploverlaw12.WriteAtOnce'. -/
def writeAtOnceUptoCard : Claim7 := { stood := { row := writeAtOnceUptoRow, standIns := [], harness := (true, "02538727079ee013b1a7712d643205662dc002cdba53d9500ab454aeaa6d0344"), looks := false }, kinds := [], alts := [], laidByText := true, laidKinds := [.data, .data], laidTests := true, laidLooks := .later }
def WriteAtOnceUptoCardSaid : Prop := Claim7.holds Tryz.pinned (.plain (OpenSpec.upto writeAtOnceSpec)) writeAtOnceUptoCard

/-- THE SECOND FORM's CARD OF 'ploverlaw12.WriteRefused'. -/
def writeRefusedUptoCard : Claim7 := { stood := { row := writeRefusedUptoRow, standIns := [], harness := (true, "02538727079ee013b1a7712d643205662dc002cdba53d9500ab454aeaa6d0344"), looks := false }, kinds := [], alts := [], laidByText := true, laidKinds := [.data, .data], laidTests := true, laidLooks := .later }
def WriteRefusedUptoCardSaid : Prop := Claim7.holds Tryz.pinned (.plain (OpenSpec.upto writeRefusedSpec)) writeRefusedUptoCard

/-- THE SECOND FORM's CARD OF 'ploverlaw12.WriteErrors'. -/
def writeErrorsUptoCard : Claim7 := { stood := { row := writeErrorsUptoRow, standIns := [], harness := (true, "02538727079ee013b1a7712d643205662dc002cdba53d9500ab454aeaa6d0344"), looks := false }, kinds := [], alts := [], laidByText := true, laidKinds := [.data, .data], laidTests := true, laidLooks := .later }
def WriteErrorsUptoCardSaid : Prop := Claim7.holds Tryz.pinned (.plain (OpenSpec.upto writeErrorsSpec)) writeErrorsUptoCard

/-- THE SECOND FORM's CARD OF 'ploverlaw12.WriteSegments'. -/
def writeSegmentsUptoCard : Claim7 := { stood := { row := writeSegmentsUptoRow, standIns := [], harness := (true, "02538727079ee013b1a7712d643205662dc002cdba53d9500ab454aeaa6d0344"), looks := false }, kinds := [], alts := [], laidByText := true, laidKinds := [.data, .data], laidTests := true, laidLooks := .later }
def WriteSegmentsUptoCardSaid : Prop := Claim7.holds Tryz.pinned (.plain (OpenSpec.upto writeSegmentsSpec)) writeSegmentsUptoCard

/-- THE SECOND FORM's CARD OF 'ploverlaw12.WriteEmpty'. -/
def writeEmptyUptoCard : Claim7 := { stood := { row := writeEmptyUptoRow, standIns := [], harness := (true, "02538727079ee013b1a7712d643205662dc002cdba53d9500ab454aeaa6d0344"), looks := false }, kinds := [], alts := [], laidByText := true, laidKinds := [.data, .data], laidTests := true, laidLooks := .later }
def WriteEmptyUptoCardSaid : Prop := Claim7.holds Tryz.pinned (.plain (OpenSpec.upto writeEmptySpec)) writeEmptyUptoCard

/-- THE SECOND FORM's CARD OF 'ploverlaw16.RollPlays'. -/
def rollPlaysUptoCard : Claim7 := { stood := { row := rollPlaysUptoRow, standIns := [], harness := (true, "02538727079ee013b1a7712d643205662dc002cdba53d9500ab454aeaa6d0344"), looks := false }, kinds := [], alts := [], laidByText := true, laidKinds := [.data, .data], laidTests := true, laidLooks := .later }
def RollPlaysUptoCardSaid : Prop := Claim7.holds Tryz.pinned (.plain (OpenSpec.upto rollPlaysSpec)) rollPlaysUptoCard

/-- THE SECOND FORM's CARD OF 'ploverlaw16.RollSame'. -/
def rollSameUptoCard : Claim7 := { stood := { row := rollSameUptoRow, standIns := [], harness := (true, "02538727079ee013b1a7712d643205662dc002cdba53d9500ab454aeaa6d0344"), looks := false }, kinds := [], alts := [], laidByText := true, laidKinds := [.data, .data], laidTests := true, laidLooks := .later }
def RollSameUptoCardSaid : Prop := Claim7.holds Tryz.pinned (.plain (OpenSpec.upto rollSameSpec)) rollSameUptoCard

/-- THE SECOND FORM's CARD OF 'ploverlaw16.RollEmpty'. -/
def rollEmptyUptoCard : Claim7 := { stood := { row := rollEmptyUptoRow, standIns := [], harness := (true, "02538727079ee013b1a7712d643205662dc002cdba53d9500ab454aeaa6d0344"), looks := false }, kinds := [], alts := [], laidByText := true, laidKinds := [.data, .data], laidTests := true, laidLooks := .later }
def RollEmptyUptoCardSaid : Prop := Claim7.holds Tryz.pinned (.plain (OpenSpec.upto rollEmptySpec)) rollEmptyUptoCard

/-- THE SECOND FORM's CARD OF 'ploverlaw16.RollSize'. -/
def rollSizeUptoCard : Claim7 := { stood := { row := rollSizeUptoRow, standIns := [], harness := (true, "02538727079ee013b1a7712d643205662dc002cdba53d9500ab454aeaa6d0344"), looks := false }, kinds := [], alts := [], laidByText := true, laidKinds := [.data, .data], laidTests := true, laidLooks := .later }
def RollSizeUptoCardSaid : Prop := Claim7.holds Tryz.pinned (.plain (OpenSpec.upto rollSizeSpec)) rollSizeUptoCard

/-- THE SECOND FORM's CARD OF 'ploverlaw16.RollEntries'. -/
def rollEntriesUptoCard : Claim7 := { stood := { row := rollEntriesUptoRow, standIns := [], harness := (true, "02538727079ee013b1a7712d643205662dc002cdba53d9500ab454aeaa6d0344"), looks := false }, kinds := [], alts := [], laidByText := true, laidKinds := [.data, .data], laidTests := true, laidLooks := .later }
def RollEntriesUptoCardSaid : Prop := Claim7.holds Tryz.pinned (.plain (OpenSpec.upto rollEntriesSpec)) rollEntriesUptoCard
end Rows
end Go.Proofs.YtafaohnhlgcnpaaGreatDoor
