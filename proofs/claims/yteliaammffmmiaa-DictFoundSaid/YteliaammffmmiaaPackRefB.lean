/-
  The reference of layer 7: a text's cells, the bytes of cells. Over the program's own text.
-/
import Derived.Test.YteliaammffmmiaaPackRef
import Derived.Test.YteliaammffmmiaaSame32
namespace Go.Proofs.Yteliaammffmmiaa
open Go.RowKit

theorem byte_at {s : ByteArray} {i : Nat} (h : i < s.size) : (bytesL s).getD i 0 = (s[i]'h).toNat := by
  have hl : i < (bytesL s).length := by rw [bytesL_length]; exact h
  rw [List.getD_eq_getElem?_getD, List.getElem?_eq_getElem hl]
  simp [bytesL]
  rfl
theorem byte_out {s : ByteArray} {i : Nat} (h : ¬ i < s.size) : (bytesL s).getD i 0 = 0 := by
  rw [List.getD_eq_getElem?_getD, List.getElem?_eq_none (by rw [bytesL_length]; omega)]
  rfl

end Go.Proofs.Yteliaammffmmiaa
