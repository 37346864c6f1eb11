/-
  No cell of these rows narrows 'for every input' (looked for: loops, veiled, ifaces, maps, wideKeys, modest, calm, conditions, laid).
  DERIVED. THE GIVEN ROWS OF THIS SEAT. 6 by the template 'for every input the law returns true; each argument reads behind the call as it read before'; 0 by the template 'total and deterministic' (their statements: YtniejikbbmileaaTotals.lean).
  GIVEN WITH THE SEED: the statements are not yours to turn. If you find one false, say at which input.
  Laid BY PROGRAM, IN A SANDBOX (cutbox-rows.mjs): the forced cells as the released guide's own fill.sh prints them over the translation 95caa76b1ff2d9f5… (all of the seat's roots in one cut). By AI agents, Wed Nov 11 2026. No macro, syntax, notation, axiom, sorry.
-/
import Derived.Test.YtniejikbbmileaaChecked
import GoSem.Claim
import GoSem.ClaimJoined
import GoSem.ClaimMapViews
import Derived.JoinedTies
import Derived.KernelRfl
namespace Go.Proofs.Ytniejikbbmileaa
/- THE CELL 'sum', in the pinned program and in every row, IS THE sha256 OF THE DUMP (.gsa) THAT YtniejikbbmileaaProg.lean LOADS. Nothing in Lean hashes anything: it is a label: what it is worth is what the hold of that sum in a sandbox is worth. -/
noncomputable def Try.pinned : Pinned := { name := "ytniejikbbmileaa", sum := "95caa76b1ff2d9f5b421dd8e10ff221bb023b38b6c413e0dd2910c596cbd1ef5", checked := Try.checked }
namespace Rows
def none {H : Type} : Left H := { results := [], args := [] }

/-- 'ploverlaw02.PoolLays': WHATEVER THE INPUT: true; the input reads as it did. -/
def poolLaysSpec : ChangeSpec := { name := "poolLays", fn := fun _ => fun
  | [d] => { results := [.lit (.bool true)], args := [d] }
  | _ => none }
def poolLaysRow : OpenClaim := { program := "ytniejikbbmileaa", sum := "95caa76b1ff2d9f5b421dd8e10ff221bb023b38b6c413e0dd2910c596cbd1ef5", func := "plover/ploverlaw02.PoolLays", spec := "poolLays", apart := false }
def PoolLaysSaid : Prop := poolLaysRow.holds Try.pinned (OpenSpec.ofChange poolLaysSpec)

/-- ITS FALSE NEIGHBOUR: 'it returns false'. Refute it at one input. -/
def poolLaysWrong : ChangeSpec := { name := "poolLays", fn := fun _ => fun
  | [d] => { results := [.lit (.bool false)], args := [d] }
  | _ => none }
def PoolLaysWrongFalsely : Prop := poolLaysRow.holds Try.pinned (OpenSpec.ofChange poolLaysWrong)

/-- 'ploverlaw02.PoolTakes': WHATEVER THE INPUT: true; the input reads as it did. -/
def poolTakesSpec : ChangeSpec := { name := "poolTakes", fn := fun _ => fun
  | [d1, d2, d3, d4, d5] => { results := [.lit (.bool true)], args := [d1, d2, d3, d4, d5] }
  | _ => none }
def poolTakesRow : OpenClaim := { program := "ytniejikbbmileaa", sum := "95caa76b1ff2d9f5b421dd8e10ff221bb023b38b6c413e0dd2910c596cbd1ef5", func := "plover/ploverlaw02.PoolTakes", spec := "poolTakes", apart := false }
def PoolTakesSaid : Prop := poolTakesRow.holds Try.pinned (OpenSpec.ofChange poolTakesSpec)

/-- ITS FALSE NEIGHBOUR: 'it returns false'. Refute it at one input. -/
def poolTakesWrong : ChangeSpec := { name := "poolTakes", fn := fun _ => fun
  | [d1, d2, d3, d4, d5] => { results := [.lit (.bool false)], args := [d1, d2, d3, d4, d5] }
  | _ => none }
def PoolTakesWrongFalsely : Prop := poolTakesRow.holds Try.pinned (OpenSpec.ofChange poolTakesWrong)

/-- 'ploverlaw02.PoolApart': WHATEVER THE INPUT: true; the input reads as it did. -/
def poolApartSpec : ChangeSpec := { name := "poolApart", fn := fun _ => fun
  | [d1, d2] => { results := [.lit (.bool true)], args := [d1, d2] }
  | _ => none }
def poolApartRow : OpenClaim := { program := "ytniejikbbmileaa", sum := "95caa76b1ff2d9f5b421dd8e10ff221bb023b38b6c413e0dd2910c596cbd1ef5", func := "plover/ploverlaw02.PoolApart", spec := "poolApart", apart := false }
def PoolApartSaid : Prop := poolApartRow.holds Try.pinned (OpenSpec.ofChange poolApartSpec)

/-- ITS FALSE NEIGHBOUR: 'it returns false'. Refute it at one input. -/
def poolApartWrong : ChangeSpec := { name := "poolApart", fn := fun _ => fun
  | [d1, d2] => { results := [.lit (.bool false)], args := [d1, d2] }
  | _ => none }
def PoolApartWrongFalsely : Prop := poolApartRow.holds Try.pinned (OpenSpec.ofChange poolApartWrong)

/-- 'ploverlaw02.PoolRoom': WHATEVER THE INPUT: true; the input reads as it did. -/
def poolRoomSpec : ChangeSpec := { name := "poolRoom", fn := fun _ => fun
  | [d1, d2] => { results := [.lit (.bool true)], args := [d1, d2] }
  | _ => none }
def poolRoomRow : OpenClaim := { program := "ytniejikbbmileaa", sum := "95caa76b1ff2d9f5b421dd8e10ff221bb023b38b6c413e0dd2910c596cbd1ef5", func := "plover/ploverlaw02.PoolRoom", spec := "poolRoom", apart := false }
def PoolRoomSaid : Prop := poolRoomRow.holds Try.pinned (OpenSpec.ofChange poolRoomSpec)

/-- ITS FALSE NEIGHBOUR: 'it returns false'. Refute it at one input. -/
def poolRoomWrong : ChangeSpec := { name := "poolRoom", fn := fun _ => fun
  | [d1, d2] => { results := [.lit (.bool false)], args := [d1, d2] }
  | _ => none }
def PoolRoomWrongFalsely : Prop := poolRoomRow.holds Try.pinned (OpenSpec.ofChange poolRoomWrong)

/-- 'ploverlaw02.PoolClass': WHATEVER THE INPUT: true; the input reads as it did. -/
def poolClassSpec : ChangeSpec := { name := "poolClass", fn := fun _ => fun
  | [d1, d2] => { results := [.lit (.bool true)], args := [d1, d2] }
  | _ => none }
def poolClassRow : OpenClaim := { program := "ytniejikbbmileaa", sum := "95caa76b1ff2d9f5b421dd8e10ff221bb023b38b6c413e0dd2910c596cbd1ef5", func := "plover/ploverlaw02.PoolClass", spec := "poolClass", apart := false }
def PoolClassSaid : Prop := poolClassRow.holds Try.pinned (OpenSpec.ofChange poolClassSpec)

/-- ITS FALSE NEIGHBOUR: 'it returns false'. Refute it at one input. -/
def poolClassWrong : ChangeSpec := { name := "poolClass", fn := fun _ => fun
  | [d1, d2] => { results := [.lit (.bool false)], args := [d1, d2] }
  | _ => none }
def PoolClassWrongFalsely : Prop := poolClassRow.holds Try.pinned (OpenSpec.ofChange poolClassWrong)

/-- 'ploverlaw02.PoolShifts': WHATEVER THE INPUT: true; the input reads as it did. -/
def poolShiftsSpec : ChangeSpec := { name := "poolShifts", fn := fun _ => fun
  | [d1, d2] => { results := [.lit (.bool true)], args := [d1, d2] }
  | _ => none }
def poolShiftsRow : OpenClaim := { program := "ytniejikbbmileaa", sum := "95caa76b1ff2d9f5b421dd8e10ff221bb023b38b6c413e0dd2910c596cbd1ef5", func := "plover/ploverlaw02.PoolShifts", spec := "poolShifts", apart := false }
def PoolShiftsSaid : Prop := poolShiftsRow.holds Try.pinned (OpenSpec.ofChange poolShiftsSpec)

/-- ITS FALSE NEIGHBOUR: 'it returns false'. Refute it at one input. -/
def poolShiftsWrong : ChangeSpec := { name := "poolShifts", fn := fun _ => fun
  | [d1, d2] => { results := [.lit (.bool false)], args := [d1, d2] }
  | _ => none }
def PoolShiftsWrongFalsely : Prop := poolShiftsRow.holds Try.pinned (OpenSpec.ofChange poolShiftsWrong)

/- THE SECOND FORM. 'bulk': how many values and letters a reading holds, each counted each time it is reached (what is shared counts as often as it is met; a slice's spare places count too). A statement '..UptoSaid' is the law's where the arguments, and the package variables that the reading takes, are together of bulk at most 1048576: NARROWER than '..Said'. Prove '..Said' where nothing that the law and all that it calls make is longer than what came in: it says more and counts as full. Else prove '..UptoSaid'. A law counts once. -/
mutual
def uptoBulk {H : Type} : DataW H → Nat
  | .lit (.string bytes) => bytes.length + 1
  | .lit _ => 1
  | .nil => 1
  | .ptr d => uptoBulk d + 1
  | .slice elems spare => uptoBulkAll elems + uptoBulkAll spare + 1
  | .agg parts => uptoBulkAll parts + 1
  | .iface _ d => uptoBulk d + 1
  | .map entries => uptoBulkEntries entries + 1
  | .held _ => 1
def uptoBulkAll {H : Type} : List (DataW H) → Nat
  | [] => 0
  | d :: r => uptoBulk d + uptoBulkAll r
def uptoBulkEntries {H : Type} : List (Lit × DataW H) → Nat
  | [] => 0
  | x :: r => uptoBulkEntry x + uptoBulkEntries r
def uptoBulkEntry {H : Type} : Lit × DataW H → Nat
  | (.string bytes, d) => bytes.length + uptoBulk d + 1
  | (_, d) => uptoBulk d + 1
 end
def uptoSmall : (H : Type) → List (DataW H) → Bool := fun _ ds => decide (uptoBulkAll ds ≤ 1048576)
def OpenSpec.upto (s : _root_.Go.ChangeSpec) : _root_.Go.OpenSpec := { _root_.Go.OpenSpec.ofChange s with cond := some uptoSmall }

/-- 'ploverlaw02.PoolLays', WHERE WHAT IT READS IS OF BULK AT MOST 1048576: true; the input reads as it did. -/
def poolLaysUptoRow : OpenClaim := { program := "ytniejikbbmileaa", sum := "95caa76b1ff2d9f5b421dd8e10ff221bb023b38b6c413e0dd2910c596cbd1ef5", func := "plover/ploverlaw02.PoolLays", spec := "poolLays", apart := false, narrowed := true }
def PoolLaysUptoSaid : Prop := poolLaysUptoRow.holds Try.pinned (OpenSpec.upto poolLaysSpec)

/-- 'ploverlaw02.PoolTakes', WHERE WHAT IT READS IS OF BULK AT MOST 1048576: true; the input reads as it did. -/
def poolTakesUptoRow : OpenClaim := { program := "ytniejikbbmileaa", sum := "95caa76b1ff2d9f5b421dd8e10ff221bb023b38b6c413e0dd2910c596cbd1ef5", func := "plover/ploverlaw02.PoolTakes", spec := "poolTakes", apart := false, narrowed := true }
def PoolTakesUptoSaid : Prop := poolTakesUptoRow.holds Try.pinned (OpenSpec.upto poolTakesSpec)

/-- 'ploverlaw02.PoolApart', WHERE WHAT IT READS IS OF BULK AT MOST 1048576: true; the input reads as it did. -/
def poolApartUptoRow : OpenClaim := { program := "ytniejikbbmileaa", sum := "95caa76b1ff2d9f5b421dd8e10ff221bb023b38b6c413e0dd2910c596cbd1ef5", func := "plover/ploverlaw02.PoolApart", spec := "poolApart", apart := false, narrowed := true }
def PoolApartUptoSaid : Prop := poolApartUptoRow.holds Try.pinned (OpenSpec.upto poolApartSpec)

/-- 'ploverlaw02.PoolRoom', WHERE WHAT IT READS IS OF BULK AT MOST 1048576: true; the input reads as it did. -/
def poolRoomUptoRow : OpenClaim := { program := "ytniejikbbmileaa", sum := "95caa76b1ff2d9f5b421dd8e10ff221bb023b38b6c413e0dd2910c596cbd1ef5", func := "plover/ploverlaw02.PoolRoom", spec := "poolRoom", apart := false, narrowed := true }
def PoolRoomUptoSaid : Prop := poolRoomUptoRow.holds Try.pinned (OpenSpec.upto poolRoomSpec)

/-- 'ploverlaw02.PoolClass', WHERE WHAT IT READS IS OF BULK AT MOST 1048576: true; the input reads as it did. -/
def poolClassUptoRow : OpenClaim := { program := "ytniejikbbmileaa", sum := "95caa76b1ff2d9f5b421dd8e10ff221bb023b38b6c413e0dd2910c596cbd1ef5", func := "plover/ploverlaw02.PoolClass", spec := "poolClass", apart := false, narrowed := true }
def PoolClassUptoSaid : Prop := poolClassUptoRow.holds Try.pinned (OpenSpec.upto poolClassSpec)

/-- 'ploverlaw02.PoolShifts', WHERE WHAT IT READS IS OF BULK AT MOST 1048576: true; the input reads as it did. -/
def poolShiftsUptoRow : OpenClaim := { program := "ytniejikbbmileaa", sum := "95caa76b1ff2d9f5b421dd8e10ff221bb023b38b6c413e0dd2910c596cbd1ef5", func := "plover/ploverlaw02.PoolShifts", spec := "poolShifts", apart := false, narrowed := true }
def PoolShiftsUptoSaid : Prop := poolShiftsUptoRow.holds Try.pinned (OpenSpec.upto poolShiftsSpec)

end Rows
end Go.Proofs.Ytniejikbbmileaa
