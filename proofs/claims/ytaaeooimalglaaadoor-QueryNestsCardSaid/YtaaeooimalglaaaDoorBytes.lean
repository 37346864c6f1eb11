/-
  A text's bytes as numbers, and back; a row of bytes of one's own. Nothing of one layer stands here.
-/
import Derived.Test.YtaaeooimalglaaaDoorKit
import Derived.OwnWalk
import Derived.Laws.AppendOwn
import Derived.Lib.BufferRead
import Derived.Lib.AppendStr
namespace Go.Proofs.YtaaeooimalglaaaDoor
open Go.RowKit

/-- A text's bytes as numbers. -/
def bytesL (s : ByteArray) : List Nat := s.data.toList.map (·.toNat)
set_option maxRecDepth 100000 in
theorem bytesL_length (s : ByteArray) : (bytesL s).length = s.size := by simp [bytesL]
def byteText (l : List Nat) : ByteArray := ⟨(l.map UInt8.ofNat).toArray⟩
set_option maxRecDepth 100000 in
theorem byteText_bytesL (s : ByteArray) : byteText (bytesL s) = s := by
  unfold byteText bytesL
  apply ByteArray.ext
  apply Array.toList_inj.1
  simp only [List.map_map]
  conv => rhs; rw [← List.map_id s.data.toList]
  apply List.map_congr_left
  intro b _
  simp
set_option maxRecDepth 100000 in
theorem bytesL_byteText (l : List Nat) (h : ∀ b ∈ l, b < 256) : bytesL (byteText l) = l := by
  unfold byteText bytesL
  simp only [List.map_map]
  conv => rhs; rw [← List.map_id l]
  apply List.map_congr_left
  intro b hb
  simpa using Nat.mod_eq_of_lt (h b hb)

def BytesIn (w : World) (base : Nat) (v : Value) (l : List Nat) : Prop := w.ownsRow base 5 1 v l.length (l.map fun (b : Nat) => Value.int .u8 (b : Int))
set_option maxRecDepth 100000 in
theorem info_u8 : (Tryd.prog.info? 5).map (fun i => (i.zero, i.size, i.bytes)) = some (some (.int .u8 0), 1, 1) := by kernel_rfl
set_option maxRecDepth 100000 in
theorem bytesL_lt (s : ByteArray) : ∀ b ∈ bytesL s, b < 256 := by
  intro b hb
  unfold bytesL at hb
  obtain ⟨u, _, rfl⟩ := List.mem_map.1 hb
  exact u.toNat_lt
set_option maxRecDepth 100000 in
theorem bytesL_append (a b : ByteArray) : bytesL (a ++ b) = bytesL a ++ bytesL b := by
  unfold bytesL
  simp
set_option maxRecDepth 100000 in
theorem bytesL_inj {a b : ByteArray} (h : bytesL a = bytesL b) : a = b := by rw [← byteText_bytesL a, ← byteText_bytesL b, h]
set_option maxRecDepth 100000 in
theorem bytes_string {w : World} {base : Nat} {v : Value} {l : List Nat} (h : BytesIn w base v l) (hl : ∀ b ∈ l, b < 256) : (convert 56 9 v).run Tryd.prog w = .ok (.string (byteText l)) w := by
  rcases h.2 with ⟨rfl, h0⟩ | ⟨g, cap, cur, rfl, _, hg, _, _, _, ht⟩
  · have : l = [] := List.eq_nil_of_length_eq_zero h0
    subst this
    rw [Lib.run_convert_nil_bytes (P := Tryd.prog) w 56 9 5 0 Tryd.underlying56 Tryd.underlying5 Tryd.underlying9]
    rfl
  · have hc := World.ownsRow.cells h (g := g) rfl
    have := run_convert_bytes_back (P := Tryd.prog) w 56 9 5 ⟨g, 0, none⟩ cap (l.map UInt8.ofNat) Tryd.underlying56 Tryd.underlying5 Tryd.underlying9 (fun j hj => by
      have hj' : j < l.length := by simpa using hj
      rw [hc j (.int .u8 ((l[j] : Nat) : Int)) (by simp [List.getElem?_eq_getElem hj'])]
      have := hl l[j] (List.getElem_mem hj')
      simp [Nat.mod_eq_of_lt this])
    simpa [byteText] using this
end Go.Proofs.YtaaeooimalglaaaDoor
