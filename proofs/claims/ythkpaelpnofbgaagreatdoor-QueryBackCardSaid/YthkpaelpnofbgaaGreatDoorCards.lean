/-
  DERIVED. GIVEN WITH THE SEED: THE CARDS: each row of YthkpaelpnofbgaaGreatDoorRows.lean that lists a variable, with what it lists TIED to the program's text (the seventh form; the later family's looks); each row that meets fmt, with fmt's text TOLD by the authors' own Lean function (tested against real Go, not proved from fmt's source: count such statements apart). THE CARD IS WHAT COUNTS. Prove the row's statement (the work); the ties are given (YthkpaelpnofbgaaGreatDoorTie.lean); close each card by the builder's one call (the guide's Derived/Test/ToyasCard.lean, 'card_holds'). Laid BY PROGRAM, IN A SANDBOX (cutbox-door.mjs). By AI agents, Wed Nov 11 2026. No macro, syntax, notation, axiom, sorry.
-/
import Derived.Test.YthkpaelpnofbgaaGreatDoorRows
import GoSem.ClaimSeven
namespace Go.Proofs.YthkpaelpnofbgaaGreatDoor
namespace Rows

/-- THE TIED CARD OF 'ploverlaw17.QueryShows'. -/
def queryShowsCard : Claim7 := { stood := { row := queryShowsRow, standIns := [], harness := (true, "92a09b24f3193bef2b043c1bcad9464011a7fac66826c3bada960b3840c704b7"), looks := true }, kinds := [], alts := [], laidByText := true, laidKinds := [.data, .data, .data, .data, .data, .sentinel, .sentinel], laidTests := true, laidLooks := .later }
def QueryShowsCardSaid : Prop := Claim7.holds Tryz.pinned (.plain (OpenSpec.ofChange queryShowsSpec)) queryShowsCard

/-- THE TIED CARD OF 'ploverlaw17.QueryBack'. -/
def queryBackCard : Claim7 := { stood := { row := queryBackRow, standIns := [], harness := (true, "92a09b24f3193bef2b043c1bcad9464011a7fac66826c3bada960b3840c704b7"), looks := true }, kinds := [], alts := [], laidByText := true, laidKinds := [.data, .data, .data, .data, .data, .sentinel, .sentinel], laidTests := true, laidLooks := .later }
def QueryBackCardSaid : Prop := Claim7.holds Tryz.pinned (.plain (OpenSpec.ofChange queryBackSpec)) queryBackCard

/-- THE SECOND FORM's CARD OF 'ploverlaw17.QueryShows'. -/
def queryShowsUptoCard : Claim7 := { stood := { row := queryShowsUptoRow, standIns := [], harness := (true, "92a09b24f3193bef2b043c1bcad9464011a7fac66826c3bada960b3840c704b7"), looks := true }, kinds := [], alts := [], laidByText := true, laidKinds := [.data, .data, .data, .data, .data, .sentinel, .sentinel], laidTests := true, laidLooks := .later }
def QueryShowsUptoCardSaid : Prop := Claim7.holds Tryz.pinned (.plain (OpenSpec.upto queryShowsSpec)) queryShowsUptoCard

/-- THE SECOND FORM's CARD OF 'ploverlaw17.QueryBack'. -/
def queryBackUptoCard : Claim7 := { stood := { row := queryBackUptoRow, standIns := [], harness := (true, "92a09b24f3193bef2b043c1bcad9464011a7fac66826c3bada960b3840c704b7"), looks := true }, kinds := [], alts := [], laidByText := true, laidKinds := [.data, .data, .data, .data, .data, .sentinel, .sentinel], laidTests := true, laidLooks := .later }
def QueryBackUptoCardSaid : Prop := Claim7.holds Tryz.pinned (.plain (OpenSpec.upto queryBackSpec)) queryBackUptoCard
end Rows
end Go.Proofs.YthkpaelpnofbgaaGreatDoor
