/-
  NARROWER THAN 'FOR EVERY INPUT', by the rows' own cells (each row's printed sentence says how): WritePlays: laid · WriteAtOnce: laid · WriteRefused: laid · WriteErrors: laid · WriteSegments: laid · WriteEmpty: laid · RollPlays: laid · RollSame: laid · RollEmpty: laid · RollSize: laid · RollEntries: laid.
  DERIVED. THE GIVEN ROWS OF THIS SEAT. 11 by the template 'for every input the law returns true; each argument reads behind the call as it read before'; 0 by the template 'total and deterministic' (their statements: YtafaohnhlgcnpaaGreatDoorTotals.lean).
  GIVEN WITH THE SEED: the statements are not yours to turn. If you find one false, say at which input.
  Laid BY PROGRAM, IN A SANDBOX (cutbox-rows.mjs): the forced cells as the released guide's own fill.sh prints them over the translation 219b117b754b5729… (all of the seat's roots in one cut). By AI agents, Wed Nov 11 2026. No macro, syntax, notation, axiom, sorry.
-/
import Derived.Test.YtafaohnhlgcnpaaGreatDoorChecked
import GoSem.Claim
import GoSem.ClaimJoined
import GoSem.ClaimMapViews
import Derived.JoinedTies
import Derived.KernelRfl
namespace Go.Proofs.YtafaohnhlgcnpaaGreatDoor
/- THE CELL 'sum', in the pinned program and in every row, IS THE sha256 OF THE DUMP (.gsa) THAT YtafaohnhlgcnpaaGreatDoorProg.lean LOADS. Nothing in Lean hashes anything: it is a label: what it is worth is what the hold of that sum in a sandbox is worth. -/
noncomputable def Tryz.pinned : Pinned := { name := "ytafaohnhlgcnpaagreatdoor", sum := "219b117b754b57290fb5243de3affcc8f52baf4dff38cbbe81fb77c2c584e72a", checked := Tryz.checked }
namespace Rows
def none {H : Type} : Left H := { results := [], args := [] }

/- WHAT THE LISTED PACKAGE-LEVEL VARIABLES READ AS WHEN THE CALL BEGINS. Each datum BY PROGRAM (the guide's laid-datum.mjs) off the statement by which the dump's own 'gosem.cut.vars' lays the variable. In a bare row this is a premise. The card (YtafaohnhlgcnpaaGreatDoorCards.lean) ties it to the program's text. -/
def laid_plover_fold_kinds {H : Type} : DataW H := .agg [.agg [.lit (.int .i32 48), .lit (.int .i32 57), .lit (.int .i64 2)], .agg [.lit (.int .i32 65), .lit (.int .i32 90), .lit (.int .i64 1)], .agg [.lit (.int .i32 97), .lit (.int .i32 122), .lit (.int .i64 1)], .agg [.lit (.int .i32 192), .lit (.int .i32 214), .lit (.int .i64 1)], .agg [.lit (.int .i32 216), .lit (.int .i32 246), .lit (.int .i64 1)], .agg [.lit (.int .i32 248), .lit (.int .i32 591), .lit (.int .i64 1)], .agg [.lit (.int .i32 902), .lit (.int .i32 902), .lit (.int .i64 1)], .agg [.lit (.int .i32 904), .lit (.int .i32 906), .lit (.int .i64 1)], .agg [.lit (.int .i32 908), .lit (.int .i32 908), .lit (.int .i64 1)], .agg [.lit (.int .i32 910), .lit (.int .i32 929), .lit (.int .i64 1)], .agg [.lit (.int .i32 931), .lit (.int .i32 974), .lit (.int .i64 1)], .agg [.lit (.int .i32 1024), .lit (.int .i32 1153), .lit (.int .i64 1)], .agg [.lit (.int .i32 1162), .lit (.int .i32 1327), .lit (.int .i64 1)], .agg [.lit (.int .i32 1488), .lit (.int .i32 1514), .lit (.int .i64 1)], .agg [.lit (.int .i32 1632), .lit (.int .i32 1641), .lit (.int .i64 2)], .agg [.lit (.int .i32 19968), .lit (.int .i32 40959), .lit (.int .i64 1)], .agg [.lit (.int .i32 44032), .lit (.int .i32 55203), .lit (.int .i64 1)]]
def laid_plover_fold_shifts {H : Type} : DataW H := .agg [.agg [.lit (.int .i32 65), .lit (.int .i32 90), .lit (.int .i32 1), .lit (.int .i32 32)], .agg [.lit (.int .i32 192), .lit (.int .i32 214), .lit (.int .i32 1), .lit (.int .i32 32)], .agg [.lit (.int .i32 216), .lit (.int .i32 222), .lit (.int .i32 1), .lit (.int .i32 32)], .agg [.lit (.int .i32 256), .lit (.int .i32 311), .lit (.int .i32 2), .lit (.int .i32 1)], .agg [.lit (.int .i32 313), .lit (.int .i32 328), .lit (.int .i32 2), .lit (.int .i32 1)], .agg [.lit (.int .i32 330), .lit (.int .i32 375), .lit (.int .i32 2), .lit (.int .i32 1)], .agg [.lit (.int .i32 376), .lit (.int .i32 376), .lit (.int .i32 1), .lit (.int .i32 (-121))], .agg [.lit (.int .i32 377), .lit (.int .i32 382), .lit (.int .i32 2), .lit (.int .i32 1)], .agg [.lit (.int .i32 383), .lit (.int .i32 383), .lit (.int .i32 1), .lit (.int .i32 (-268))], .agg [.lit (.int .i32 902), .lit (.int .i32 902), .lit (.int .i32 1), .lit (.int .i32 38)], .agg [.lit (.int .i32 904), .lit (.int .i32 906), .lit (.int .i32 1), .lit (.int .i32 37)], .agg [.lit (.int .i32 908), .lit (.int .i32 908), .lit (.int .i32 1), .lit (.int .i32 64)], .agg [.lit (.int .i32 910), .lit (.int .i32 911), .lit (.int .i32 1), .lit (.int .i32 63)], .agg [.lit (.int .i32 913), .lit (.int .i32 929), .lit (.int .i32 1), .lit (.int .i32 32)], .agg [.lit (.int .i32 931), .lit (.int .i32 939), .lit (.int .i32 1), .lit (.int .i32 32)], .agg [.lit (.int .i32 962), .lit (.int .i32 962), .lit (.int .i32 1), .lit (.int .i32 1)], .agg [.lit (.int .i32 1024), .lit (.int .i32 1039), .lit (.int .i32 1), .lit (.int .i32 80)], .agg [.lit (.int .i32 1040), .lit (.int .i32 1071), .lit (.int .i32 1), .lit (.int .i32 32)], .agg [.lit (.int .i32 1120), .lit (.int .i32 1153), .lit (.int .i32 2), .lit (.int .i32 1)], .agg [.lit (.int .i32 1162), .lit (.int .i32 1215), .lit (.int .i32 2), .lit (.int .i32 1)], .agg [.lit (.int .i32 1232), .lit (.int .i32 1327), .lit (.int .i32 2), .lit (.int .i32 1)], .agg [.lit (.int .i32 1632), .lit (.int .i32 1641), .lit (.int .i32 1), .lit (.int .i32 (-1584))]]

/-- 'ploverlaw12.WritePlays': WHATEVER THE INPUT: true; the input reads as it did. -/
def writePlaysSpec : ChangeSpec := { name := "writePlays", fn := fun _ => fun
  | [d1, d2] => { results := [.lit (.bool true)], args := [d1, d2] }
  | _ => none }
def writePlaysRow : OpenClaim := { program := "ytafaohnhlgcnpaagreatdoor", sum := "219b117b754b57290fb5243de3affcc8f52baf4dff38cbbe81fb77c2c584e72a", func := "plover/ploverlaw12.WritePlays", spec := "writePlays", inPlace := ["internal/abi.NoEscape"], unfollowed := true, recurses := true, named := ["plover/fold.kinds", "plover/fold.shifts"], apart := false, laid := [("plover/fold.kinds", laid_plover_fold_kinds), ("plover/fold.shifts", laid_plover_fold_shifts)] }
def WritePlaysSaid : Prop := writePlaysRow.holds Tryz.pinned (OpenSpec.ofChange writePlaysSpec)

/-- ITS FALSE NEIGHBOUR: 'it returns false'. Refute it at one input. -/
def writePlaysWrong : ChangeSpec := { name := "writePlays", fn := fun _ => fun
  | [d1, d2] => { results := [.lit (.bool false)], args := [d1, d2] }
  | _ => none }
def WritePlaysWrongFalsely : Prop := writePlaysRow.holds Tryz.pinned (OpenSpec.ofChange writePlaysWrong)

/-- 'ploverlaw12.WriteAtOnce': WHATEVER THE INPUT: true; the input reads as it did. -/
def writeAtOnceSpec : ChangeSpec := { name := "writeAtOnce", fn := fun _ => fun
  | [d1, d2] => { results := [.lit (.bool true)], args := [d1, d2] }
  | _ => none }
def writeAtOnceRow : OpenClaim := { program := "ytafaohnhlgcnpaagreatdoor", sum := "219b117b754b57290fb5243de3affcc8f52baf4dff38cbbe81fb77c2c584e72a", func := "plover/ploverlaw12.WriteAtOnce", spec := "writeAtOnce", inPlace := ["internal/abi.NoEscape"], unfollowed := true, recurses := true, named := ["plover/fold.kinds", "plover/fold.shifts"], apart := false, laid := [("plover/fold.kinds", laid_plover_fold_kinds), ("plover/fold.shifts", laid_plover_fold_shifts)] }
def WriteAtOnceSaid : Prop := writeAtOnceRow.holds Tryz.pinned (OpenSpec.ofChange writeAtOnceSpec)

/-- ITS FALSE NEIGHBOUR: 'it returns false'. Refute it at one input. -/
def writeAtOnceWrong : ChangeSpec := { name := "writeAtOnce", fn := fun _ => fun
  | [d1, d2] => { results := [.lit (.bool false)], args := [d1, d2] }
  | _ => none }
def WriteAtOnceWrongFalsely : Prop := writeAtOnceRow.holds Tryz.pinned (OpenSpec.ofChange writeAtOnceWrong)

/-- 'ploverlaw12.WriteRefused': WHATEVER THE INPUT: true; the input reads as it did. -/
def writeRefusedSpec : ChangeSpec := { name := "writeRefused", fn := fun _ => fun
  | [d1, d2] => { results := [.lit (.bool true)], args := [d1, d2] }
  | _ => none }
def writeRefusedRow : OpenClaim := { program := "ytafaohnhlgcnpaagreatdoor", sum := "219b117b754b57290fb5243de3affcc8f52baf4dff38cbbe81fb77c2c584e72a", func := "plover/ploverlaw12.WriteRefused", spec := "writeRefused", inPlace := ["internal/abi.NoEscape"], unfollowed := true, recurses := true, named := ["plover/fold.kinds", "plover/fold.shifts"], apart := false, laid := [("plover/fold.kinds", laid_plover_fold_kinds), ("plover/fold.shifts", laid_plover_fold_shifts)] }
def WriteRefusedSaid : Prop := writeRefusedRow.holds Tryz.pinned (OpenSpec.ofChange writeRefusedSpec)

/-- ITS FALSE NEIGHBOUR: 'it returns false'. Refute it at one input. -/
def writeRefusedWrong : ChangeSpec := { name := "writeRefused", fn := fun _ => fun
  | [d1, d2] => { results := [.lit (.bool false)], args := [d1, d2] }
  | _ => none }
def WriteRefusedWrongFalsely : Prop := writeRefusedRow.holds Tryz.pinned (OpenSpec.ofChange writeRefusedWrong)

/-- 'ploverlaw12.WriteErrors': WHATEVER THE INPUT: true; the input reads as it did. -/
def writeErrorsSpec : ChangeSpec := { name := "writeErrors", fn := fun _ => fun
  | [d1, d2, d3, d4] => { results := [.lit (.bool true)], args := [d1, d2, d3, d4] }
  | _ => none }
def writeErrorsRow : OpenClaim := { program := "ytafaohnhlgcnpaagreatdoor", sum := "219b117b754b57290fb5243de3affcc8f52baf4dff38cbbe81fb77c2c584e72a", func := "plover/ploverlaw12.WriteErrors", spec := "writeErrors", inPlace := ["internal/abi.NoEscape"], unfollowed := true, recurses := true, named := ["plover/fold.kinds", "plover/fold.shifts"], apart := false, laid := [("plover/fold.kinds", laid_plover_fold_kinds), ("plover/fold.shifts", laid_plover_fold_shifts)] }
def WriteErrorsSaid : Prop := writeErrorsRow.holds Tryz.pinned (OpenSpec.ofChange writeErrorsSpec)

/-- ITS FALSE NEIGHBOUR: 'it returns false'. Refute it at one input. -/
def writeErrorsWrong : ChangeSpec := { name := "writeErrors", fn := fun _ => fun
  | [d1, d2, d3, d4] => { results := [.lit (.bool false)], args := [d1, d2, d3, d4] }
  | _ => none }
def WriteErrorsWrongFalsely : Prop := writeErrorsRow.holds Tryz.pinned (OpenSpec.ofChange writeErrorsWrong)

/-- 'ploverlaw12.WriteSegments': WHATEVER THE INPUT: true; the input reads as it did. -/
def writeSegmentsSpec : ChangeSpec := { name := "writeSegments", fn := fun _ => fun
  | [d1, d2, d3] => { results := [.lit (.bool true)], args := [d1, d2, d3] }
  | _ => none }
def writeSegmentsRow : OpenClaim := { program := "ytafaohnhlgcnpaagreatdoor", sum := "219b117b754b57290fb5243de3affcc8f52baf4dff38cbbe81fb77c2c584e72a", func := "plover/ploverlaw12.WriteSegments", spec := "writeSegments", inPlace := ["internal/abi.NoEscape"], unfollowed := true, recurses := true, named := ["plover/fold.kinds", "plover/fold.shifts"], apart := false, laid := [("plover/fold.kinds", laid_plover_fold_kinds), ("plover/fold.shifts", laid_plover_fold_shifts)] }
def WriteSegmentsSaid : Prop := writeSegmentsRow.holds Tryz.pinned (OpenSpec.ofChange writeSegmentsSpec)

/-- ITS FALSE NEIGHBOUR: 'it returns false'. Refute it at one input. -/
def writeSegmentsWrong : ChangeSpec := { name := "writeSegments", fn := fun _ => fun
  | [d1, d2, d3] => { results := [.lit (.bool false)], args := [d1, d2, d3] }
  | _ => none }
def WriteSegmentsWrongFalsely : Prop := writeSegmentsRow.holds Tryz.pinned (OpenSpec.ofChange writeSegmentsWrong)

/-- 'ploverlaw12.WriteEmpty': WHATEVER THE INPUT: true; the input reads as it did. -/
def writeEmptySpec : ChangeSpec := { name := "writeEmpty", fn := fun _ => fun
  | [d1, d2, d3, d4] => { results := [.lit (.bool true)], args := [d1, d2, d3, d4] }
  | _ => none }
def writeEmptyRow : OpenClaim := { program := "ytafaohnhlgcnpaagreatdoor", sum := "219b117b754b57290fb5243de3affcc8f52baf4dff38cbbe81fb77c2c584e72a", func := "plover/ploverlaw12.WriteEmpty", spec := "writeEmpty", inPlace := ["internal/abi.NoEscape"], unfollowed := true, recurses := true, named := ["plover/fold.kinds", "plover/fold.shifts"], apart := false, laid := [("plover/fold.kinds", laid_plover_fold_kinds), ("plover/fold.shifts", laid_plover_fold_shifts)] }
def WriteEmptySaid : Prop := writeEmptyRow.holds Tryz.pinned (OpenSpec.ofChange writeEmptySpec)

/-- ITS FALSE NEIGHBOUR: 'it returns false'. Refute it at one input. -/
def writeEmptyWrong : ChangeSpec := { name := "writeEmpty", fn := fun _ => fun
  | [d1, d2, d3, d4] => { results := [.lit (.bool false)], args := [d1, d2, d3, d4] }
  | _ => none }
def WriteEmptyWrongFalsely : Prop := writeEmptyRow.holds Tryz.pinned (OpenSpec.ofChange writeEmptyWrong)

/-- 'ploverlaw16.RollPlays': WHATEVER THE INPUT: true; the input reads as it did. -/
def rollPlaysSpec : ChangeSpec := { name := "rollPlays", fn := fun _ => fun
  | [d1, d2] => { results := [.lit (.bool true)], args := [d1, d2] }
  | _ => none }
def rollPlaysRow : OpenClaim := { program := "ytafaohnhlgcnpaagreatdoor", sum := "219b117b754b57290fb5243de3affcc8f52baf4dff38cbbe81fb77c2c584e72a", func := "plover/ploverlaw16.RollPlays", spec := "rollPlays", inPlace := ["internal/abi.NoEscape"], unfollowed := true, recurses := true, named := ["plover/fold.kinds", "plover/fold.shifts"], apart := false, laid := [("plover/fold.kinds", laid_plover_fold_kinds), ("plover/fold.shifts", laid_plover_fold_shifts)] }
def RollPlaysSaid : Prop := rollPlaysRow.holds Tryz.pinned (OpenSpec.ofChange rollPlaysSpec)

/-- ITS FALSE NEIGHBOUR: 'it returns false'. Refute it at one input. -/
def rollPlaysWrong : ChangeSpec := { name := "rollPlays", fn := fun _ => fun
  | [d1, d2] => { results := [.lit (.bool false)], args := [d1, d2] }
  | _ => none }
def RollPlaysWrongFalsely : Prop := rollPlaysRow.holds Tryz.pinned (OpenSpec.ofChange rollPlaysWrong)

/-- 'ploverlaw16.RollSame': WHATEVER THE INPUT: true; the input reads as it did. -/
def rollSameSpec : ChangeSpec := { name := "rollSame", fn := fun _ => fun
  | [d1, d2] => { results := [.lit (.bool true)], args := [d1, d2] }
  | _ => none }
def rollSameRow : OpenClaim := { program := "ytafaohnhlgcnpaagreatdoor", sum := "219b117b754b57290fb5243de3affcc8f52baf4dff38cbbe81fb77c2c584e72a", func := "plover/ploverlaw16.RollSame", spec := "rollSame", inPlace := ["internal/abi.NoEscape"], unfollowed := true, recurses := true, named := ["plover/fold.kinds", "plover/fold.shifts"], apart := false, laid := [("plover/fold.kinds", laid_plover_fold_kinds), ("plover/fold.shifts", laid_plover_fold_shifts)] }
def RollSameSaid : Prop := rollSameRow.holds Tryz.pinned (OpenSpec.ofChange rollSameSpec)

/-- ITS FALSE NEIGHBOUR: 'it returns false'. Refute it at one input. -/
def rollSameWrong : ChangeSpec := { name := "rollSame", fn := fun _ => fun
  | [d1, d2] => { results := [.lit (.bool false)], args := [d1, d2] }
  | _ => none }
def RollSameWrongFalsely : Prop := rollSameRow.holds Tryz.pinned (OpenSpec.ofChange rollSameWrong)

/-- 'ploverlaw16.RollEmpty': WHATEVER THE INPUT: true; the input reads as it did. -/
def rollEmptySpec : ChangeSpec := { name := "rollEmpty", fn := fun _ => fun
  | [d1, d2, d3] => { results := [.lit (.bool true)], args := [d1, d2, d3] }
  | _ => none }
def rollEmptyRow : OpenClaim := { program := "ytafaohnhlgcnpaagreatdoor", sum := "219b117b754b57290fb5243de3affcc8f52baf4dff38cbbe81fb77c2c584e72a", func := "plover/ploverlaw16.RollEmpty", spec := "rollEmpty", inPlace := ["internal/abi.NoEscape"], unfollowed := true, recurses := true, named := ["plover/fold.kinds", "plover/fold.shifts"], apart := false, laid := [("plover/fold.kinds", laid_plover_fold_kinds), ("plover/fold.shifts", laid_plover_fold_shifts)] }
def RollEmptySaid : Prop := rollEmptyRow.holds Tryz.pinned (OpenSpec.ofChange rollEmptySpec)

/-- ITS FALSE NEIGHBOUR: 'it returns false'. Refute it at one input. -/
def rollEmptyWrong : ChangeSpec := { name := "rollEmpty", fn := fun _ => fun
  | [d1, d2, d3] => { results := [.lit (.bool false)], args := [d1, d2, d3] }
  | _ => none }
def RollEmptyWrongFalsely : Prop := rollEmptyRow.holds Tryz.pinned (OpenSpec.ofChange rollEmptyWrong)

/-- 'ploverlaw16.RollSize': WHATEVER THE INPUT: true; the input reads as it did. -/
def rollSizeSpec : ChangeSpec := { name := "rollSize", fn := fun _ => fun
  | [d1, d2, d3, d4] => { results := [.lit (.bool true)], args := [d1, d2, d3, d4] }
  | _ => none }
def rollSizeRow : OpenClaim := { program := "ytafaohnhlgcnpaagreatdoor", sum := "219b117b754b57290fb5243de3affcc8f52baf4dff38cbbe81fb77c2c584e72a", func := "plover/ploverlaw16.RollSize", spec := "rollSize", inPlace := ["internal/abi.NoEscape"], unfollowed := true, recurses := true, named := ["plover/fold.kinds", "plover/fold.shifts"], apart := false, laid := [("plover/fold.kinds", laid_plover_fold_kinds), ("plover/fold.shifts", laid_plover_fold_shifts)] }
def RollSizeSaid : Prop := rollSizeRow.holds Tryz.pinned (OpenSpec.ofChange rollSizeSpec)

/-- ITS FALSE NEIGHBOUR: 'it returns false'. Refute it at one input. -/
def rollSizeWrong : ChangeSpec := { name := "rollSize", fn := fun _ => fun
  | [d1, d2, d3, d4] => { results := [.lit (.bool false)], args := [d1, d2, d3, d4] }
  | _ => none }
def RollSizeWrongFalsely : Prop := rollSizeRow.holds Tryz.pinned (OpenSpec.ofChange rollSizeWrong)

/-- 'ploverlaw16.RollEntries': WHATEVER THE INPUT: true; the input reads as it did. -/
def rollEntriesSpec : ChangeSpec := { name := "rollEntries", fn := fun _ => fun
  | [d] => { results := [.lit (.bool true)], args := [d] }
  | _ => none }
def rollEntriesRow : OpenClaim := { program := "ytafaohnhlgcnpaagreatdoor", sum := "219b117b754b57290fb5243de3affcc8f52baf4dff38cbbe81fb77c2c584e72a", func := "plover/ploverlaw16.RollEntries", spec := "rollEntries", inPlace := ["internal/abi.NoEscape"], unfollowed := true, recurses := true, named := ["plover/fold.kinds", "plover/fold.shifts"], apart := false, laid := [("plover/fold.kinds", laid_plover_fold_kinds), ("plover/fold.shifts", laid_plover_fold_shifts)] }
def RollEntriesSaid : Prop := rollEntriesRow.holds Tryz.pinned (OpenSpec.ofChange rollEntriesSpec)

/-- ITS FALSE NEIGHBOUR: 'it returns false'. Refute it at one input. -/
def rollEntriesWrong : ChangeSpec := { name := "rollEntries", fn := fun _ => fun
  | [d] => { results := [.lit (.bool false)], args := [d] }
  | _ => none }
def RollEntriesWrongFalsely : Prop := rollEntriesRow.holds Tryz.pinned (OpenSpec.ofChange rollEntriesWrong)

/- THE SECOND FORM. 'bulk': how many values and letters a reading holds, each counted each time it is reached (what is shared counts as often as it is met; a slice's spare places count too). A statement '..UptoSaid' is the law's where the arguments, and the package variables that the reading takes, are together of bulk at most 1048576: NARROWER than '..Said'. Prove '..Said' where nothing that the law and all that it calls make is longer than what came in: it says more and counts as full. Else prove '..UptoSaid'. A law counts once. -/
mutual
def uptoBulk {H : Type} : DataW H → Nat
  | .lit (.string bytes) => bytes.length + 1
  | .lit _ => 1
  | .nil => 1
  | .ptr d => uptoBulk d + 1
  | .slice elems spare => uptoBulkAll elems + uptoBulkAll spare + 1
  | .agg parts => uptoBulkAll parts + 1
  | .iface _ d => uptoBulk d + 1
  | .map entries => uptoBulkEntries entries + 1
  | .held _ => 1
def uptoBulkAll {H : Type} : List (DataW H) → Nat
  | [] => 0
  | d :: r => uptoBulk d + uptoBulkAll r
def uptoBulkEntries {H : Type} : List (Lit × DataW H) → Nat
  | [] => 0
  | x :: r => uptoBulkEntry x + uptoBulkEntries r
def uptoBulkEntry {H : Type} : Lit × DataW H → Nat
  | (.string bytes, d) => bytes.length + uptoBulk d + 1
  | (_, d) => uptoBulk d + 1
 end
def uptoSmall : (H : Type) → List (DataW H) → Bool := fun _ ds => decide (uptoBulkAll ds ≤ 1048576)
def OpenSpec.upto (s : _root_.Go.ChangeSpec) : _root_.Go.OpenSpec := { _root_.Go.OpenSpec.ofChange s with cond := some uptoSmall }

/-- 'ploverlaw12.WritePlays', WHERE WHAT IT READS IS OF BULK AT MOST 1048576: true; the input reads as it did. -/
def writePlaysUptoRow : OpenClaim := { program := "ytafaohnhlgcnpaagreatdoor", sum := "219b117b754b57290fb5243de3affcc8f52baf4dff38cbbe81fb77c2c584e72a", func := "plover/ploverlaw12.WritePlays", spec := "writePlays", inPlace := ["internal/abi.NoEscape"], unfollowed := true, recurses := true, named := ["plover/fold.kinds", "plover/fold.shifts"], apart := false, laid := [("plover/fold.kinds", laid_plover_fold_kinds), ("plover/fold.shifts", laid_plover_fold_shifts)], narrowed := true }
def WritePlaysUptoSaid : Prop := writePlaysUptoRow.holds Tryz.pinned (OpenSpec.upto writePlaysSpec)

/-- 'ploverlaw12.WriteAtOnce', WHERE WHAT IT READS IS OF BULK AT MOST 1048576: true; the input reads as it did. -/
def writeAtOnceUptoRow : OpenClaim := { program := "ytafaohnhlgcnpaagreatdoor", sum := "219b117b754b57290fb5243de3affcc8f52baf4dff38cbbe81fb77c2c584e72a", func := "plover/ploverlaw12.WriteAtOnce", spec := "writeAtOnce", inPlace := ["internal/abi.NoEscape"], unfollowed := true, recurses := true, named := ["plover/fold.kinds", "plover/fold.shifts"], apart := false, laid := [("plover/fold.kinds", laid_plover_fold_kinds), ("plover/fold.shifts", laid_plover_fold_shifts)], narrowed := true }
def WriteAtOnceUptoSaid : Prop := writeAtOnceUptoRow.holds Tryz.pinned (OpenSpec.upto writeAtOnceSpec)

/-- 'ploverlaw12.WriteRefused', WHERE WHAT IT READS IS OF BULK AT MOST 1048576: true; the input reads as it did. -/
def writeRefusedUptoRow : OpenClaim := { program := "ytafaohnhlgcnpaagreatdoor", sum := "219b117b754b57290fb5243de3affcc8f52baf4dff38cbbe81fb77c2c584e72a", func := "plover/ploverlaw12.WriteRefused", spec := "writeRefused", inPlace := ["internal/abi.NoEscape"], unfollowed := true, recurses := true, named := ["plover/fold.kinds", "plover/fold.shifts"], apart := false, laid := [("plover/fold.kinds", laid_plover_fold_kinds), ("plover/fold.shifts", laid_plover_fold_shifts)], narrowed := true }
def WriteRefusedUptoSaid : Prop := writeRefusedUptoRow.holds Tryz.pinned (OpenSpec.upto writeRefusedSpec)

/-- 'ploverlaw12.WriteErrors', WHERE WHAT IT READS IS OF BULK AT MOST 1048576: true; the input reads as it did. -/
def writeErrorsUptoRow : OpenClaim := { program := "ytafaohnhlgcnpaagreatdoor", sum := "219b117b754b57290fb5243de3affcc8f52baf4dff38cbbe81fb77c2c584e72a", func := "plover/ploverlaw12.WriteErrors", spec := "writeErrors", inPlace := ["internal/abi.NoEscape"], unfollowed := true, recurses := true, named := ["plover/fold.kinds", "plover/fold.shifts"], apart := false, laid := [("plover/fold.kinds", laid_plover_fold_kinds), ("plover/fold.shifts", laid_plover_fold_shifts)], narrowed := true }
def WriteErrorsUptoSaid : Prop := writeErrorsUptoRow.holds Tryz.pinned (OpenSpec.upto writeErrorsSpec)

/-- 'ploverlaw12.WriteSegments', WHERE WHAT IT READS IS OF BULK AT MOST 1048576: true; the input reads as it did. -/
def writeSegmentsUptoRow : OpenClaim := { program := "ytafaohnhlgcnpaagreatdoor", sum := "219b117b754b57290fb5243de3affcc8f52baf4dff38cbbe81fb77c2c584e72a", func := "plover/ploverlaw12.WriteSegments", spec := "writeSegments", inPlace := ["internal/abi.NoEscape"], unfollowed := true, recurses := true, named := ["plover/fold.kinds", "plover/fold.shifts"], apart := false, laid := [("plover/fold.kinds", laid_plover_fold_kinds), ("plover/fold.shifts", laid_plover_fold_shifts)], narrowed := true }
def WriteSegmentsUptoSaid : Prop := writeSegmentsUptoRow.holds Tryz.pinned (OpenSpec.upto writeSegmentsSpec)

/-- 'ploverlaw12.WriteEmpty', WHERE WHAT IT READS IS OF BULK AT MOST 1048576: true; the input reads as it did. -/
def writeEmptyUptoRow : OpenClaim := { program := "ytafaohnhlgcnpaagreatdoor", sum := "219b117b754b57290fb5243de3affcc8f52baf4dff38cbbe81fb77c2c584e72a", func := "plover/ploverlaw12.WriteEmpty", spec := "writeEmpty", inPlace := ["internal/abi.NoEscape"], unfollowed := true, recurses := true, named := ["plover/fold.kinds", "plover/fold.shifts"], apart := false, laid := [("plover/fold.kinds", laid_plover_fold_kinds), ("plover/fold.shifts", laid_plover_fold_shifts)], narrowed := true }
def WriteEmptyUptoSaid : Prop := writeEmptyUptoRow.holds Tryz.pinned (OpenSpec.upto writeEmptySpec)

/-- 'ploverlaw16.RollPlays', WHERE WHAT IT READS IS OF BULK AT MOST 1048576: true; the input reads as it did. -/
def rollPlaysUptoRow : OpenClaim := { program := "ytafaohnhlgcnpaagreatdoor", sum := "219b117b754b57290fb5243de3affcc8f52baf4dff38cbbe81fb77c2c584e72a", func := "plover/ploverlaw16.RollPlays", spec := "rollPlays", inPlace := ["internal/abi.NoEscape"], unfollowed := true, recurses := true, named := ["plover/fold.kinds", "plover/fold.shifts"], apart := false, laid := [("plover/fold.kinds", laid_plover_fold_kinds), ("plover/fold.shifts", laid_plover_fold_shifts)], narrowed := true }
def RollPlaysUptoSaid : Prop := rollPlaysUptoRow.holds Tryz.pinned (OpenSpec.upto rollPlaysSpec)

/-- 'ploverlaw16.RollSame', WHERE WHAT IT READS IS OF BULK AT MOST 1048576: true; the input reads as it did. -/
def rollSameUptoRow : OpenClaim := { program := "ytafaohnhlgcnpaagreatdoor", sum := "219b117b754b57290fb5243de3affcc8f52baf4dff38cbbe81fb77c2c584e72a", func := "plover/ploverlaw16.RollSame", spec := "rollSame", inPlace := ["internal/abi.NoEscape"], unfollowed := true, recurses := true, named := ["plover/fold.kinds", "plover/fold.shifts"], apart := false, laid := [("plover/fold.kinds", laid_plover_fold_kinds), ("plover/fold.shifts", laid_plover_fold_shifts)], narrowed := true }
def RollSameUptoSaid : Prop := rollSameUptoRow.holds Tryz.pinned (OpenSpec.upto rollSameSpec)

/-- 'ploverlaw16.RollEmpty', WHERE WHAT IT READS IS OF BULK AT MOST 1048576: true; the input reads as it did. -/
def rollEmptyUptoRow : OpenClaim := { program := "ytafaohnhlgcnpaagreatdoor", sum := "219b117b754b57290fb5243de3affcc8f52baf4dff38cbbe81fb77c2c584e72a", func := "plover/ploverlaw16.RollEmpty", spec := "rollEmpty", inPlace := ["internal/abi.NoEscape"], unfollowed := true, recurses := true, named := ["plover/fold.kinds", "plover/fold.shifts"], apart := false, laid := [("plover/fold.kinds", laid_plover_fold_kinds), ("plover/fold.shifts", laid_plover_fold_shifts)], narrowed := true }
def RollEmptyUptoSaid : Prop := rollEmptyUptoRow.holds Tryz.pinned (OpenSpec.upto rollEmptySpec)

/-- 'ploverlaw16.RollSize', WHERE WHAT IT READS IS OF BULK AT MOST 1048576: true; the input reads as it did. -/
def rollSizeUptoRow : OpenClaim := { program := "ytafaohnhlgcnpaagreatdoor", sum := "219b117b754b57290fb5243de3affcc8f52baf4dff38cbbe81fb77c2c584e72a", func := "plover/ploverlaw16.RollSize", spec := "rollSize", inPlace := ["internal/abi.NoEscape"], unfollowed := true, recurses := true, named := ["plover/fold.kinds", "plover/fold.shifts"], apart := false, laid := [("plover/fold.kinds", laid_plover_fold_kinds), ("plover/fold.shifts", laid_plover_fold_shifts)], narrowed := true }
def RollSizeUptoSaid : Prop := rollSizeUptoRow.holds Tryz.pinned (OpenSpec.upto rollSizeSpec)

/-- 'ploverlaw16.RollEntries', WHERE WHAT IT READS IS OF BULK AT MOST 1048576: true; the input reads as it did. -/
def rollEntriesUptoRow : OpenClaim := { program := "ytafaohnhlgcnpaagreatdoor", sum := "219b117b754b57290fb5243de3affcc8f52baf4dff38cbbe81fb77c2c584e72a", func := "plover/ploverlaw16.RollEntries", spec := "rollEntries", inPlace := ["internal/abi.NoEscape"], unfollowed := true, recurses := true, named := ["plover/fold.kinds", "plover/fold.shifts"], apart := false, laid := [("plover/fold.kinds", laid_plover_fold_kinds), ("plover/fold.shifts", laid_plover_fold_shifts)], narrowed := true }
def RollEntriesUptoSaid : Prop := rollEntriesUptoRow.holds Tryz.pinned (OpenSpec.upto rollEntriesSpec)

end Rows
end Go.Proofs.YtafaohnhlgcnpaaGreatDoor
