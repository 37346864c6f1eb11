/-
  No cell of these rows narrows 'for every input' (looked for: loops, veiled, ifaces, maps, wideKeys, modest, calm, conditions, laid).
  DERIVED. THE GIVEN ROWS OF THIS SEAT. 3 by the template 'for every input the law returns true; each argument reads behind the call as it read before'; 0 by the template 'total and deterministic' (their statements: YtiabmbkmahlhkaaTotals.lean).
  GIVEN WITH THE SEED: the statements are not yours to turn. If you find one false, say at which input.
  Laid BY PROGRAM, IN A SANDBOX (cutbox-rows.mjs): the forced cells as the released guide's own fill.sh prints them over the translation c700c8f91db0f6b1… (all of the seat's roots in one cut). By AI agents, Wed Nov 11 2026. No macro, syntax, notation, axiom, sorry.
-/
import Derived.Test.YtiabmbkmahlhkaaChecked
import GoSem.Claim
import GoSem.ClaimJoined
import GoSem.ClaimMapViews
import Derived.JoinedTies
import Derived.KernelRfl
namespace Go.Proofs.Ytiabmbkmahlhkaa
/- THE CELL 'sum', in the pinned program and in every row, IS THE sha256 OF THE DUMP (.gsa) THAT YtiabmbkmahlhkaaProg.lean LOADS. Nothing in Lean hashes anything: it is a label: what it is worth is what the hold of that sum in a sandbox is worth. -/
noncomputable def Try.pinned : Pinned := { name := "ytiabmbkmahlhkaa", sum := "c700c8f91db0f6b158e4890790e77dabf7edc7010aac17968ca61825a1d20ca6", checked := Try.checked }
namespace Rows
def none {H : Type} : Left H := { results := [], args := [] }

/-- 'ploverlaw09.PostBack': WHATEVER THE INPUT: true; the input reads as it did. -/
def postBackSpec : ChangeSpec := { name := "postBack", fn := fun _ => fun
  | [d1, d2] => { results := [.lit (.bool true)], args := [d1, d2] }
  | _ => none }
def postBackRow : OpenClaim := { program := "ytiabmbkmahlhkaa", sum := "c700c8f91db0f6b158e4890790e77dabf7edc7010aac17968ca61825a1d20ca6", func := "plover/ploverlaw09.PostBack", spec := "postBack", unfollowed := true, recurses := true, apart := false }
def PostBackSaid : Prop := postBackRow.holds Try.pinned (OpenSpec.ofChange postBackSpec)

/-- ITS FALSE NEIGHBOUR: 'it returns false'. Refute it at one input. -/
def postBackWrong : ChangeSpec := { name := "postBack", fn := fun _ => fun
  | [d1, d2] => { results := [.lit (.bool false)], args := [d1, d2] }
  | _ => none }
def PostBackWrongFalsely : Prop := postBackRow.holds Try.pinned (OpenSpec.ofChange postBackWrong)

/-- 'ploverlaw09.PostUndisturbed': WHATEVER THE INPUT: true; the input reads as it did. -/
def postUndisturbedSpec : ChangeSpec := { name := "postUndisturbed", fn := fun _ => fun
  | [d1, d2, d3, d4] => { results := [.lit (.bool true)], args := [d1, d2, d3, d4] }
  | _ => none }
def postUndisturbedRow : OpenClaim := { program := "ytiabmbkmahlhkaa", sum := "c700c8f91db0f6b158e4890790e77dabf7edc7010aac17968ca61825a1d20ca6", func := "plover/ploverlaw09.PostUndisturbed", spec := "postUndisturbed", unfollowed := true, recurses := true, apart := false }
def PostUndisturbedSaid : Prop := postUndisturbedRow.holds Try.pinned (OpenSpec.ofChange postUndisturbedSpec)

/-- ITS FALSE NEIGHBOUR: 'it returns false'. Refute it at one input. -/
def postUndisturbedWrong : ChangeSpec := { name := "postUndisturbed", fn := fun _ => fun
  | [d1, d2, d3, d4] => { results := [.lit (.bool false)], args := [d1, d2, d3, d4] }
  | _ => none }
def PostUndisturbedWrongFalsely : Prop := postUndisturbedRow.holds Try.pinned (OpenSpec.ofChange postUndisturbedWrong)

/-- 'ploverlaw09.PostNeeds': WHATEVER THE INPUT: true; the input reads as it did. -/
def postNeedsSpec : ChangeSpec := { name := "postNeeds", fn := fun _ => fun
  | [d1, d2, d3, d4] => { results := [.lit (.bool true)], args := [d1, d2, d3, d4] }
  | _ => none }
def postNeedsRow : OpenClaim := { program := "ytiabmbkmahlhkaa", sum := "c700c8f91db0f6b158e4890790e77dabf7edc7010aac17968ca61825a1d20ca6", func := "plover/ploverlaw09.PostNeeds", spec := "postNeeds", unfollowed := true, recurses := true, apart := false }
def PostNeedsSaid : Prop := postNeedsRow.holds Try.pinned (OpenSpec.ofChange postNeedsSpec)

/-- ITS FALSE NEIGHBOUR: 'it returns false'. Refute it at one input. -/
def postNeedsWrong : ChangeSpec := { name := "postNeeds", fn := fun _ => fun
  | [d1, d2, d3, d4] => { results := [.lit (.bool false)], args := [d1, d2, d3, d4] }
  | _ => none }
def PostNeedsWrongFalsely : Prop := postNeedsRow.holds Try.pinned (OpenSpec.ofChange postNeedsWrong)

/- THE SECOND FORM. 'bulk': how many values and letters a reading holds, each counted each time it is reached (what is shared counts as often as it is met; a slice's spare places count too). A statement '..UptoSaid' is the law's where the arguments, and the package variables that the reading takes, are together of bulk at most 1048576: NARROWER than '..Said'. Prove '..Said' where nothing that the law and all that it calls make is longer than what came in: it says more and counts as full. Else prove '..UptoSaid'. A law counts once. -/
mutual
def uptoBulk {H : Type} : DataW H → Nat
  | .lit (.string bytes) => bytes.length + 1
  | .lit _ => 1
  | .nil => 1
  | .ptr d => uptoBulk d + 1
  | .slice elems spare => uptoBulkAll elems + uptoBulkAll spare + 1
  | .agg parts => uptoBulkAll parts + 1
  | .iface _ d => uptoBulk d + 1
  | .map entries => uptoBulkEntries entries + 1
  | .held _ => 1
def uptoBulkAll {H : Type} : List (DataW H) → Nat
  | [] => 0
  | d :: r => uptoBulk d + uptoBulkAll r
def uptoBulkEntries {H : Type} : List (Lit × DataW H) → Nat
  | [] => 0
  | x :: r => uptoBulkEntry x + uptoBulkEntries r
def uptoBulkEntry {H : Type} : Lit × DataW H → Nat
  | (.string bytes, d) => bytes.length + uptoBulk d + 1
  | (_, d) => uptoBulk d + 1
 end
def uptoSmall : (H : Type) → List (DataW H) → Bool := fun _ ds => decide (uptoBulkAll ds ≤ 1048576)
def OpenSpec.upto (s : _root_.Go.ChangeSpec) : _root_.Go.OpenSpec := { _root_.Go.OpenSpec.ofChange s with cond := some uptoSmall }

/-- 'ploverlaw09.PostBack', WHERE WHAT IT READS IS OF BULK AT MOST 1048576: true; the input reads as it did. -/
def postBackUptoRow : OpenClaim := { program := "ytiabmbkmahlhkaa", sum := "c700c8f91db0f6b158e4890790e77dabf7edc7010aac17968ca61825a1d20ca6", func := "plover/ploverlaw09.PostBack", spec := "postBack", unfollowed := true, recurses := true, apart := false, narrowed := true }
def PostBackUptoSaid : Prop := postBackUptoRow.holds Try.pinned (OpenSpec.upto postBackSpec)

/-- 'ploverlaw09.PostUndisturbed', WHERE WHAT IT READS IS OF BULK AT MOST 1048576: true; the input reads as it did. -/
def postUndisturbedUptoRow : OpenClaim := { program := "ytiabmbkmahlhkaa", sum := "c700c8f91db0f6b158e4890790e77dabf7edc7010aac17968ca61825a1d20ca6", func := "plover/ploverlaw09.PostUndisturbed", spec := "postUndisturbed", unfollowed := true, recurses := true, apart := false, narrowed := true }
def PostUndisturbedUptoSaid : Prop := postUndisturbedUptoRow.holds Try.pinned (OpenSpec.upto postUndisturbedSpec)

/-- 'ploverlaw09.PostNeeds', WHERE WHAT IT READS IS OF BULK AT MOST 1048576: true; the input reads as it did. -/
def postNeedsUptoRow : OpenClaim := { program := "ytiabmbkmahlhkaa", sum := "c700c8f91db0f6b158e4890790e77dabf7edc7010aac17968ca61825a1d20ca6", func := "plover/ploverlaw09.PostNeeds", spec := "postNeeds", unfollowed := true, recurses := true, apart := false, narrowed := true }
def PostNeedsUptoSaid : Prop := postNeedsUptoRow.holds Try.pinned (OpenSpec.upto postNeedsSpec)

end Rows
end Go.Proofs.Ytiabmbkmahlhkaa
