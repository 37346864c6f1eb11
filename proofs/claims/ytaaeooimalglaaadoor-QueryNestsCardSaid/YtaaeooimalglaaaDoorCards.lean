/-
  DERIVED. GIVEN WITH THE SEED: THE CARDS: each row of YtaaeooimalglaaaDoorRows.lean that lists a variable, with what it lists TIED to the program's text (the seventh form; the later family's looks); each row that meets fmt, with fmt's text TOLD by the authors' own Lean function (tested against real Go, not proved from fmt's source: count such statements apart). THE CARD IS WHAT COUNTS. Prove the row's statement (the work); the ties are given (YtaaeooimalglaaaDoorTie.lean); close each card by the builder's one call (the guide's Derived/Test/ToyasCard.lean, 'card_holds'). Laid BY PROGRAM, IN A SANDBOX (cutbox-door.mjs). By AI agents, Wed Nov 11 2026. No macro, syntax, notation, axiom, sorry.
-/
import Derived.Test.YtaaeooimalglaaaDoorRows
import GoSem.ClaimSeven
namespace Go.Proofs.YtaaeooimalglaaaDoor
namespace Rows

/-- THE TIED CARD OF 'ploverlaw17.QueryBlanks'. -/
def queryBlanksCard : Claim7 := { stood := { row := queryBlanksRow, standIns := [], harness := (true, "94ff9cfca39a87be7980dd03fe88677bd0608cb6635a0b4ed2fce2ca9c6a6f31"), looks := true }, kinds := [], alts := [], laidByText := true, laidKinds := [.data, .data, .data, .data, .data, .sentinel, .sentinel], laidTests := true, laidLooks := .later }
def QueryBlanksCardSaid : Prop := Claim7.holds Tryd.pinned (.plain (OpenSpec.ofChange queryBlanksSpec)) queryBlanksCard

/-- THE TIED CARD OF 'ploverlaw17.QueryCase'. -/
def queryCaseCard : Claim7 := { stood := { row := queryCaseRow, standIns := [], harness := (true, "94ff9cfca39a87be7980dd03fe88677bd0608cb6635a0b4ed2fce2ca9c6a6f31"), looks := true }, kinds := [], alts := [], laidByText := true, laidKinds := [.data, .data, .data, .data, .data, .sentinel, .sentinel], laidTests := true, laidLooks := .later }
def QueryCaseCardSaid : Prop := Claim7.holds Tryd.pinned (.plain (OpenSpec.ofChange queryCaseSpec)) queryCaseCard

/-- THE TIED CARD OF 'ploverlaw17.QueryNests'. -/
def queryNestsCard : Claim7 := { stood := { row := queryNestsRow, standIns := [], harness := (true, "94ff9cfca39a87be7980dd03fe88677bd0608cb6635a0b4ed2fce2ca9c6a6f31"), looks := true }, kinds := [], alts := [], laidByText := true, laidKinds := [.data, .data, .data, .data, .data, .sentinel, .sentinel], laidTests := true, laidLooks := .later }
def QueryNestsCardSaid : Prop := Claim7.holds Tryd.pinned (.plain (OpenSpec.ofChange queryNestsSpec)) queryNestsCard

/-- THE SECOND FORM's CARD OF 'ploverlaw17.QueryBlanks'. -/
def queryBlanksUptoCard : Claim7 := { stood := { row := queryBlanksUptoRow, standIns := [], harness := (true, "94ff9cfca39a87be7980dd03fe88677bd0608cb6635a0b4ed2fce2ca9c6a6f31"), looks := true }, kinds := [], alts := [], laidByText := true, laidKinds := [.data, .data, .data, .data, .data, .sentinel, .sentinel], laidTests := true, laidLooks := .later }
def QueryBlanksUptoCardSaid : Prop := Claim7.holds Tryd.pinned (.plain (OpenSpec.upto queryBlanksSpec)) queryBlanksUptoCard

/-- THE SECOND FORM's CARD OF 'ploverlaw17.QueryCase'. -/
def queryCaseUptoCard : Claim7 := { stood := { row := queryCaseUptoRow, standIns := [], harness := (true, "94ff9cfca39a87be7980dd03fe88677bd0608cb6635a0b4ed2fce2ca9c6a6f31"), looks := true }, kinds := [], alts := [], laidByText := true, laidKinds := [.data, .data, .data, .data, .data, .sentinel, .sentinel], laidTests := true, laidLooks := .later }
def QueryCaseUptoCardSaid : Prop := Claim7.holds Tryd.pinned (.plain (OpenSpec.upto queryCaseSpec)) queryCaseUptoCard

/-- THE SECOND FORM's CARD OF 'ploverlaw17.QueryNests'. -/
def queryNestsUptoCard : Claim7 := { stood := { row := queryNestsUptoRow, standIns := [], harness := (true, "94ff9cfca39a87be7980dd03fe88677bd0608cb6635a0b4ed2fce2ca9c6a6f31"), looks := true }, kinds := [], alts := [], laidByText := true, laidKinds := [.data, .data, .data, .data, .data, .sentinel, .sentinel], laidTests := true, laidLooks := .later }
def QueryNestsUptoCardSaid : Prop := Claim7.holds Tryd.pinned (.plain (OpenSpec.upto queryNestsSpec)) queryNestsUptoCard
end Rows
end Go.Proofs.YtaaeooimalglaaaDoor
