/-
  A text's bytes as numbers, and back; a row of bytes of one's own. Nothing of one layer stands here.
-/
import Derived.Test.YtaaeooimalglaaaKit
import Derived.OwnWalk
import Derived.Laws.AppendOwn
import Derived.Lib.BufferRead
import Derived.Lib.AppendStr
namespace Go.Proofs.Ytaaeooimalglaaa
open Go.RowKit

/-- A text's bytes as numbers. -/
def bytesL (s : ByteArray) : List Nat := s.data.toList.map (·.toNat)
theorem bytesL_length (s : ByteArray) : (bytesL s).length = s.size := by simp [bytesL]
def byteText (l : List Nat) : ByteArray := ⟨(l.map UInt8.ofNat).toArray⟩
theorem byteText_bytesL (s : ByteArray) : byteText (bytesL s) = s := by
  unfold byteText bytesL
  apply ByteArray.ext
  apply Array.toList_inj.1
  simp only [List.map_map]
  conv => rhs; rw [← List.map_id s.data.toList]
  apply List.map_congr_left
  intro b _
  simp
theorem bytesL_byteText (l : List Nat) (h : ∀ b ∈ l, b < 256) : bytesL (byteText l) = l := by
  unfold byteText bytesL
  simp only [List.map_map]
  conv => rhs; rw [← List.map_id l]
  apply List.map_congr_left
  intro b hb
  simpa using Nat.mod_eq_of_lt (h b hb)

def BytesIn (w : World) (base : Nat) (v : Value) (l : List Nat) : Prop := w.ownsRow base 5 1 v l.length (l.map fun (b : Nat) => Value.int .u8 (b : Int))
theorem info_u8 : (Try.prog.info? 5).map (fun i => (i.zero, i.size, i.bytes)) = some (some (.int .u8 0), 1, 1) := by kernel_rfl
theorem bytesL_lt (s : ByteArray) : ∀ b ∈ bytesL s, b < 256 := by
  intro b hb
  unfold bytesL at hb
  obtain ⟨u, _, rfl⟩ := List.mem_map.1 hb
  exact u.toNat_lt
theorem bytesL_append (a b : ByteArray) : bytesL (a ++ b) = bytesL a ++ bytesL b := by
  unfold bytesL
  simp
theorem bytesL_inj {a b : ByteArray} (h : bytesL a = bytesL b) : a = b := by rw [← byteText_bytesL a, ← byteText_bytesL b, h]
end Go.Proofs.Ytaaeooimalglaaa
