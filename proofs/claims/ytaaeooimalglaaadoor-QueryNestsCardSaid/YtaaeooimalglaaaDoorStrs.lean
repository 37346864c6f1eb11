/-
  Rows of texts that are read; a list of texts that comes in.
-/
import Derived.Test.YtaaeooimalglaaaDoorArgs
import Derived.Test.YtaaeooimalglaaaDoorBytes
import Derived.ChangeSlices
import Derived.ChangeMaps5
namespace Go.Proofs.YtaaeooimalglaaaDoor
open Go.ChangeShapes Go.WideShapes Go.ChangeAt Go.RowKit Go.Deep

/-- Texts, one behind the other, from an address on. -/
def ReadS (w : World) (oa : Option Addr) (F : List ByteArray) : Prop := ∀ (j : Nat) (x : ByteArray), F[j]? = some x → ∃ g o : Nat, oa = some ⟨g, o, none⟩ ∧ w.cell? ⟨g, o + j, none⟩ = some (.string x)
set_option maxRecDepth 100000 in
theorem ReadS.below {w w' : World} {oa : Option Addr} {F : List ByteArray} (h : ReadS w oa F) (hb : Below w.heap.size w w') : ReadS w' oa F := fun j x hj => by
  obtain ⟨g, o, h0, h1⟩ := h j x hj
  exact ⟨g, o, h0, below_cell h1 hb⟩
set_option maxRecDepth 100000 in
theorem cell_plain {w : World} {a : Addr} {v : Value} (h : w.cell? a = some v) : ∃ g o, a = ⟨g, o, none⟩ := by
  obtain ⟨g, o, q⟩ := a
  cases q with
  | none => exact ⟨g, o, rfl⟩
  | some q =>
    simp only [World.cell?] at h
    split at h <;> simp_all
set_option maxRecDepth 100000 in
theorem size_int {s : ByteArray} (h : s.size ≤ maxLen) : (s.size : Int) ≤ 9223372036854775807 := by unfold maxLen at h; omega
end Go.Proofs.YtaaeooimalglaaaDoor
