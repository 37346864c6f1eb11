/-
  What the program's three functions of layer 6 keep, as the laws' walks take it; the laws' own example, given that. Over the program's own text.
-/
import Derived.Test.YtaaeooimalglaaaDoorTokDoc
namespace Go.Proofs.YtaaeooimalglaaaDoor
open Go.RowKit

set_option maxRecDepth 100000 in
/-- One call more. -/
theorem low_more {a b c : World} (h : Below a.heap.size a b) (k : Below b.heap.size b c) : Below a.heap.size a c := h.trans (k.mono h.size)
set_option maxRecDepth 100000 in
theorem toks_slice {w : World} {base : Nat} {v : Value} {l : List Tk} (h : ToksIn w base v l) : ∃ oa cap, v = .slice oa l.length cap ∧ l.length ≤ cap ∧ cap ≤ maxLen ∧ (oa = none → cap = 0) ∧ ReadT w oa l := by
  obtain ⟨oa, cap, rfl, h1, h2, h3⟩ := toks_reads h
  refine ⟨oa, cap, rfl, h1, h2, fun e => ?_, h3⟩
  subst e
  rcases h.2 with ⟨e, _⟩ | ⟨g, cap', cur, e, _⟩
  · injection e
  · cases e
set_option maxRecDepth 100000 in
/-- A row just made, read. -/
theorem readT_new (w : World) (l : List Tk) (t : TypeId) : ReadT (w.alloc (.cells (toksC l).toArray t)) (some ⟨w.heap.size, 0, none⟩) l := by
  intro j x hj
  obtain ⟨h1, h2, h3⟩ := toksC_get l j x hj
  refine ⟨_, _, rfl, ?_, ?_, ?_⟩
  all_goals (rw [Lib.cell_of_heap (heap_alloc_new w _)]; simpa [Nat.zero_add])
set_option maxRecDepth 100000 in
theorem readS_new (w : World) (F : List ByteArray) (t : TypeId) : ReadS (w.alloc (.cells (F.map Value.string).toArray t)) (some ⟨w.heap.size, 0, none⟩) F := by
  intro j x hj
  refine ⟨_, _, rfl, ?_⟩
  rw [Lib.cell_of_heap (heap_alloc_new w _)]
  simp [hj]
set_option maxRecDepth 100000 in
theorem low_new {a b : World} {o : Obj} (h : Below a.heap.size a b) : Below a.heap.size a (b.alloc o) := h.alloc h.size o

end Go.Proofs.YtaaeooimalglaaaDoor
