/-
  No cell of these rows narrows 'for every input' (looked for: loops, veiled, ifaces, maps, wideKeys, modest, calm, conditions, laid).
  DERIVED. THE GIVEN ROWS OF THIS SEAT. 3 by the template 'for every input the law returns true; each argument reads behind the call as it read before'; 0 by the template 'total and deterministic' (their statements: YteliaammffmmiaaTotals.lean).
  GIVEN WITH THE SEED: the statements are not yours to turn. If you find one false, say at which input.
  Laid BY PROGRAM, IN A SANDBOX (cutbox-rows.mjs): the forced cells as the released guide's own fill.sh prints them over the translation 6e3f38e6b743f133… (all of the seat's roots in one cut). By AI agents, Wed Nov 11 2026. No macro, syntax, notation, axiom, sorry.
-/
import Derived.Test.YteliaammffmmiaaChecked
import GoSem.Claim
import GoSem.ClaimJoined
import GoSem.ClaimMapViews
import Derived.JoinedTies
import Derived.KernelRfl
namespace Go.Proofs.Yteliaammffmmiaa
/- THE CELL 'sum', in the pinned program and in every row, IS THE sha256 OF THE DUMP (.gsa) THAT YteliaammffmmiaaProg.lean LOADS. Nothing in Lean hashes anything: it is a label: what it is worth is what the hold of that sum in a sandbox is worth. -/
noncomputable def Try.pinned : Pinned := { name := "yteliaammffmmiaa", sum := "6e3f38e6b743f133ec7dd8be8b5233c33fc8258bd590f252b9bb5c015a1b02ac", checked := Try.checked }
namespace Rows
def none {H : Type} : Left H := { results := [], args := [] }

/-- 'ploverlaw10.DictFound': WHATEVER THE INPUT: true; the input reads as it did. -/
def dictFoundSpec : ChangeSpec := { name := "dictFound", fn := fun _ => fun
  | [d1, d2] => { results := [.lit (.bool true)], args := [d1, d2] }
  | _ => none }
def dictFoundRow : OpenClaim := { program := "yteliaammffmmiaa", sum := "6e3f38e6b743f133ec7dd8be8b5233c33fc8258bd590f252b9bb5c015a1b02ac", func := "plover/ploverlaw10.DictFound", spec := "dictFound", unfollowed := true, recurses := true, apart := false }
def DictFoundSaid : Prop := dictFoundRow.holds Try.pinned (OpenSpec.ofChange dictFoundSpec)

/-- ITS FALSE NEIGHBOUR: 'it returns false'. Refute it at one input. -/
def dictFoundWrong : ChangeSpec := { name := "dictFound", fn := fun _ => fun
  | [d1, d2] => { results := [.lit (.bool false)], args := [d1, d2] }
  | _ => none }
def DictFoundWrongFalsely : Prop := dictFoundRow.holds Try.pinned (OpenSpec.ofChange dictFoundWrong)

/-- 'ploverlaw10.DictUndisturbed': WHATEVER THE INPUT: true; the input reads as it did. -/
def dictUndisturbedSpec : ChangeSpec := { name := "dictUndisturbed", fn := fun _ => fun
  | [d1, d2, d3, d4] => { results := [.lit (.bool true)], args := [d1, d2, d3, d4] }
  | _ => none }
def dictUndisturbedRow : OpenClaim := { program := "yteliaammffmmiaa", sum := "6e3f38e6b743f133ec7dd8be8b5233c33fc8258bd590f252b9bb5c015a1b02ac", func := "plover/ploverlaw10.DictUndisturbed", spec := "dictUndisturbed", unfollowed := true, recurses := true, apart := false }
def DictUndisturbedSaid : Prop := dictUndisturbedRow.holds Try.pinned (OpenSpec.ofChange dictUndisturbedSpec)

/-- ITS FALSE NEIGHBOUR: 'it returns false'. Refute it at one input. -/
def dictUndisturbedWrong : ChangeSpec := { name := "dictUndisturbed", fn := fun _ => fun
  | [d1, d2, d3, d4] => { results := [.lit (.bool false)], args := [d1, d2, d3, d4] }
  | _ => none }
def DictUndisturbedWrongFalsely : Prop := dictUndisturbedRow.holds Try.pinned (OpenSpec.ofChange dictUndisturbedWrong)

/-- 'ploverlaw10.DictTails': WHATEVER THE INPUT: true; the input reads as it did. -/
def dictTailsSpec : ChangeSpec := { name := "dictTails", fn := fun _ => fun
  | [d1, d2] => { results := [.lit (.bool true)], args := [d1, d2] }
  | _ => none }
def dictTailsRow : OpenClaim := { program := "yteliaammffmmiaa", sum := "6e3f38e6b743f133ec7dd8be8b5233c33fc8258bd590f252b9bb5c015a1b02ac", func := "plover/ploverlaw10.DictTails", spec := "dictTails", unfollowed := true, recurses := true, apart := false }
def DictTailsSaid : Prop := dictTailsRow.holds Try.pinned (OpenSpec.ofChange dictTailsSpec)

/-- ITS FALSE NEIGHBOUR: 'it returns false'. Refute it at one input. -/
def dictTailsWrong : ChangeSpec := { name := "dictTails", fn := fun _ => fun
  | [d1, d2] => { results := [.lit (.bool false)], args := [d1, d2] }
  | _ => none }
def DictTailsWrongFalsely : Prop := dictTailsRow.holds Try.pinned (OpenSpec.ofChange dictTailsWrong)

/- THE SECOND FORM. 'bulk': how many values and letters a reading holds, each counted each time it is reached (what is shared counts as often as it is met; a slice's spare places count too). A statement '..UptoSaid' is the law's where the arguments, and the package variables that the reading takes, are together of bulk at most 1048576: NARROWER than '..Said'. Prove '..Said' where nothing that the law and all that it calls make is longer than what came in: it says more and counts as full. Else prove '..UptoSaid'. A law counts once. -/
mutual
def uptoBulk {H : Type} : DataW H → Nat
  | .lit (.string bytes) => bytes.length + 1
  | .lit _ => 1
  | .nil => 1
  | .ptr d => uptoBulk d + 1
  | .slice elems spare => uptoBulkAll elems + uptoBulkAll spare + 1
  | .agg parts => uptoBulkAll parts + 1
  | .iface _ d => uptoBulk d + 1
  | .map entries => uptoBulkEntries entries + 1
  | .held _ => 1
def uptoBulkAll {H : Type} : List (DataW H) → Nat
  | [] => 0
  | d :: r => uptoBulk d + uptoBulkAll r
def uptoBulkEntries {H : Type} : List (Lit × DataW H) → Nat
  | [] => 0
  | x :: r => uptoBulkEntry x + uptoBulkEntries r
def uptoBulkEntry {H : Type} : Lit × DataW H → Nat
  | (.string bytes, d) => bytes.length + uptoBulk d + 1
  | (_, d) => uptoBulk d + 1
 end
def uptoSmall : (H : Type) → List (DataW H) → Bool := fun _ ds => decide (uptoBulkAll ds ≤ 1048576)
def OpenSpec.upto (s : _root_.Go.ChangeSpec) : _root_.Go.OpenSpec := { _root_.Go.OpenSpec.ofChange s with cond := some uptoSmall }

/-- 'ploverlaw10.DictFound', WHERE WHAT IT READS IS OF BULK AT MOST 1048576: true; the input reads as it did. -/
def dictFoundUptoRow : OpenClaim := { program := "yteliaammffmmiaa", sum := "6e3f38e6b743f133ec7dd8be8b5233c33fc8258bd590f252b9bb5c015a1b02ac", func := "plover/ploverlaw10.DictFound", spec := "dictFound", unfollowed := true, recurses := true, apart := false, narrowed := true }
def DictFoundUptoSaid : Prop := dictFoundUptoRow.holds Try.pinned (OpenSpec.upto dictFoundSpec)

/-- 'ploverlaw10.DictUndisturbed', WHERE WHAT IT READS IS OF BULK AT MOST 1048576: true; the input reads as it did. -/
def dictUndisturbedUptoRow : OpenClaim := { program := "yteliaammffmmiaa", sum := "6e3f38e6b743f133ec7dd8be8b5233c33fc8258bd590f252b9bb5c015a1b02ac", func := "plover/ploverlaw10.DictUndisturbed", spec := "dictUndisturbed", unfollowed := true, recurses := true, apart := false, narrowed := true }
def DictUndisturbedUptoSaid : Prop := dictUndisturbedUptoRow.holds Try.pinned (OpenSpec.upto dictUndisturbedSpec)

/-- 'ploverlaw10.DictTails', WHERE WHAT IT READS IS OF BULK AT MOST 1048576: true; the input reads as it did. -/
def dictTailsUptoRow : OpenClaim := { program := "yteliaammffmmiaa", sum := "6e3f38e6b743f133ec7dd8be8b5233c33fc8258bd590f252b9bb5c015a1b02ac", func := "plover/ploverlaw10.DictTails", spec := "dictTails", unfollowed := true, recurses := true, apart := false, narrowed := true }
def DictTailsUptoSaid : Prop := dictTailsUptoRow.holds Try.pinned (OpenSpec.upto dictTailsSpec)

end Rows
end Go.Proofs.Yteliaammffmmiaa
