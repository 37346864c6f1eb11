/-
  The reference of layer 6: stop words, and all words of a text. Over the program's own text.
-/
import Derived.Test.YtmjjgjckpibmkaaDoorTokPure
import Derived.Test.YtmjjgjckpibmkaaDoorFoldRef
import Derived.Test.YtmjjgjckpibmkaaDoorUtfWords
import Derived.OwnWalk
import Derived.Laws.AppendOwn
namespace Go.Proofs.YtmjjgjckpibmkaaDoor
open Go.RowKit

/-! ### Stop words -/
def stopS : List ByteArray := stopsL.map byteText
def stopCells : Array Value := (stopS.map Value.string).toArray
set_option maxRecDepth 100000 in
theorem stopS_length : stopS.length = 17 := rfl
set_option maxRecDepth 100000 in
theorem stopsL_byte : ∀ t ∈ stopsL, ∀ b ∈ t, b < 256 := by decide
set_option maxRecDepth 100000 in
theorem stop_mem (s : ByteArray) : s ∈ stopS ↔ stopB (bytesL s) = true := by
  unfold stopS stopB
  rw [List.contains_iff_mem, List.mem_map]
  constructor
  · rintro ⟨t, ht, rfl⟩
    rw [bytesL_byteText t (stopsL_byte t ht)]
    exact ht
  · intro h
    exact ⟨_, h, byteText_bytesL s⟩

set_option maxRecDepth 100000 in
theorem list_ne {x s : ByteArray} (h : ¬ x = s) : (x.toList == s.toList) = false := by
  rw [beq_eq_false_iff_ne]
  intro e
  apply h
  rw [ByteArray.toList_eq, ByteArray.toList_eq] at e
  exact ByteArray.ext (Array.toList_inj.1 e)

/-! ### Words in memory -/
/-- A word: its field, its term, its place. -/
abbrev Tk := Int × ByteArray × Int
def tokC (x : Tk) : List Value := [.int .u8 x.1, .string x.2.1, .int .i64 x.2.2]
def toksC (l : List Tk) : List Value := l.flatMap tokC
set_option maxRecDepth 100000 in
theorem toksC_append (a b : List Tk) : toksC (a ++ b) = toksC a ++ toksC b := List.flatMap_append
set_option maxRecDepth 100000 in
theorem toksC_length : ∀ l : List Tk, (toksC l).length = l.length * 3
  | [] => rfl
  | x :: l => by
    have e : toksC (x :: l) = tokC x ++ toksC l := rfl
    rw [e, List.length_append, toksC_length l, List.length_cons]
    simp [tokC]
    omega
set_option maxRecDepth 100000 in
theorem toksC_get : ∀ (l : List Tk) (j : Nat) (x : Tk), l[j]? = some x → (toksC l)[j * 3]? = some (.int .u8 x.1) ∧ (toksC l)[j * 3 + 1]? = some (.string x.2.1) ∧ (toksC l)[j * 3 + 2]? = some (.int .i64 x.2.2)
  | [], j, x, h => by simp at h
  | y :: l, 0, x, h => by
    simp at h
    subst h
    exact ⟨rfl, rfl, rfl⟩
  | y :: l, j + 1, x, h => by
    have := toksC_get l j x (by simpa using h)
    have e : toksC (y :: l) = tokC y ++ toksC l := rfl
    rw [e, show (j + 1) * 3 = (tokC y).length + j * 3 by simp [tokC]; omega]
    refine ⟨?_, ?_, ?_⟩
    · rw [List.getElem?_append_right (by omega), Nat.add_sub_cancel_left]; exact this.1
    · rw [Nat.add_assoc, List.getElem?_append_right (by omega), Nat.add_sub_cancel_left]; exact this.2.1
    · rw [Nat.add_assoc, List.getElem?_append_right (by omega), Nat.add_sub_cancel_left]; exact this.2.2
def ToksIn (w : World) (base : Nat) (v : Value) (l : List Tk) : Prop := w.ownsRow base 42 3 v l.length (toksC l)
set_option maxRecDepth 100000 in
theorem info_tok : (Tryd.prog.info? 42).map (fun i => (i.zero, i.size, i.bytes)) = some (some (.agg #[.int .u8 0, .string ⟨#[]⟩, .int .i64 0]), 3, 32) := by kernel_rfl
/-- A row of words that is only read. -/
def ReadT (w : World) (oa : Option Addr) (l : List Tk) : Prop := ∀ (j : Nat) (x : Tk), l[j]? = some x → ∃ g o : Nat, oa = some ⟨g, o, none⟩ ∧ w.cell? ⟨g, o + j * 3, none⟩ = some (.int .u8 x.1) ∧ w.cell? ⟨g, o + j * 3 + 1, none⟩ = some (.string x.2.1) ∧ w.cell? ⟨g, o + j * 3 + 2, none⟩ = some (.int .i64 x.2.2)
set_option maxRecDepth 100000 in
theorem ReadT.below {w w' : World} {oa : Option Addr} {l : List Tk} (h : ReadT w oa l) (hb : Below w.heap.size w w') : ReadT w' oa l := fun j x hj => by
  obtain ⟨g, o, h0, h1, h2, h3⟩ := h j x hj
  exact ⟨g, o, h0, below_cell h1 hb, below_cell h2 hb, below_cell h3 hb⟩
set_option maxRecDepth 100000 in
theorem toks_reads {w : World} {base : Nat} {v : Value} {l : List Tk} (h : ToksIn w base v l) : ∃ oa cap, v = .slice oa l.length cap ∧ l.length ≤ cap ∧ cap ≤ maxLen ∧ ReadT w oa l := by
  rcases h.2 with ⟨rfl, h0⟩ | ⟨g, cap, cur, rfl, hb, hg, hn, hm, hs, ht⟩
  · have : l = [] := List.eq_nil_of_length_eq_zero h0
    subst this
    exact ⟨none, 0, rfl, by simp, by simp [maxLen], fun j x hj => by simp at hj⟩
  · refine ⟨_, cap, rfl, hn, hm, fun j x hj => ⟨g, 0, rfl, ?_⟩⟩
    have h3 := toksC_get l j x hj
    have hc := World.ownsRow.cells h (g := g) rfl
    simp only [Addr.add_lit] at hc
    exact ⟨hc _ _ h3.1, by simpa [Nat.add_assoc] using hc _ _ h3.2.1, by simpa [Nat.add_assoc] using hc _ _ h3.2.2⟩
/-- The terms' words, of field 0, at their places. -/
def outT (o : List (List Nat)) : List Tk := o.zipIdx.map fun x => ((0 : Int), byteText x.1, (x.2 : Int))
set_option maxRecDepth 100000 in
theorem outT_snoc (o : List (List Nat)) (t : List Nat) : outT (o ++ [t]) = outT o ++ [((0 : Int), byteText t, (o.length : Int))] := by
  unfold outT
  rw [List.zipIdx_append]
  simp
set_option maxRecDepth 100000 in
theorem outT_length (o : List (List Nat)) : (outT o).length = o.length := by simp [outT]
end Go.Proofs.YtmjjgjckpibmkaaDoor
