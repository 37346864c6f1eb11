/-
  The reference of layer 6: stop words, and all words of a text. Over the program's own text.
-/
import Derived.Test.YtaaeooimalglaaaDoorTokPure
import Derived.Test.YtaaeooimalglaaaDoorNodeRd
import Derived.Test.YtaaeooimalglaaaDoorFoldRef
import Derived.Test.YtaaeooimalglaaaDoorUtfWords
import Derived.OwnWalk
import Derived.Laws.AppendOwn
namespace Go.Proofs.YtaaeooimalglaaaDoor
open Go.RowKit

/-! ### Stop words -/
def stopS : List ByteArray := stopsL.map byteText
def stopCells : Array Value := (stopS.map Value.string).toArray
set_option maxRecDepth 100000 in
theorem stopS_length : stopS.length = 17 := rfl
set_option maxRecDepth 100000 in
theorem stopsL_byte : ∀ t ∈ stopsL, ∀ b ∈ t, b < 256 := by decide
set_option maxRecDepth 100000 in
theorem stop_mem (s : ByteArray) : s ∈ stopS ↔ stopB (bytesL s) = true := by
  unfold stopS stopB
  rw [List.contains_iff_mem, List.mem_map]
  constructor
  · rintro ⟨t, ht, rfl⟩
    rw [bytesL_byteText t (stopsL_byte t ht)]
    exact ht
  · intro h
    exact ⟨_, h, byteText_bytesL s⟩

set_option maxRecDepth 100000 in
theorem list_ne {x s : ByteArray} (h : ¬ x = s) : (x.toList == s.toList) = false := by
  rw [beq_eq_false_iff_ne]
  intro e
  apply h
  rw [ByteArray.toList_eq, ByteArray.toList_eq] at e
  exact ByteArray.ext (Array.toList_inj.1 e)

/-- The terms' words, of field 0, at their places. -/
def outT (o : List (List Nat)) : List Tk := o.zipIdx.map fun x => ((0 : Int), byteText x.1, (x.2 : Int))
set_option maxRecDepth 100000 in
theorem outT_snoc (o : List (List Nat)) (t : List Nat) : outT (o ++ [t]) = outT o ++ [((0 : Int), byteText t, (o.length : Int))] := by
  unfold outT
  rw [List.zipIdx_append]
  simp
set_option maxRecDepth 100000 in
theorem outT_length (o : List (List Nat)) : (outT o).length = o.length := by simp [outT]
end Go.Proofs.YtaaeooimalglaaaDoor
