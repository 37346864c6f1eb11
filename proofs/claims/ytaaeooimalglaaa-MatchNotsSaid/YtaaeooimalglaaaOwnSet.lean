/-
  A store into a row of one's own. Over any program's text.
-/
import Derived.Test.YtaaeooimalglaaaNums
namespace Go.Proofs.Ytaaeooimalglaaa
open Go.RowKit

theorem own_set {w : World} {base : Nat} {e : TypeId} {size n : Nat} {xs : List Value} {g cap : Nat} (h : w.ownsRow base e size (.slice (some ⟨g, 0, none⟩) n cap) n xs) {i : Nat} (hi : i < n * size) (u : Value) :
    (∃ x, xs[i]? = some x ∧ w.cell? ⟨g, i, none⟩ = some x) ∧ w.frozen? ⟨g, i, none⟩ = false ∧ (w.setCell ⟨g, i, none⟩ u).ownsRow base e size (.slice (some ⟨g, 0, none⟩) n cap) n (xs.set i u) := by
  obtain ⟨h0, ⟨h, _⟩ | ⟨g', cap', cur, k1, k2, k3, k4, k5, k6, k7⟩⟩ := h
  · cases h
  · cases k1
    have hlt : i < xs.length := by omega
    have hc : cur.toList[i]? = xs[i]? := by rw [← k7, List.getElem?_take, if_pos hi]
    refine ⟨⟨xs[i], List.getElem?_eq_getElem hlt, ?_⟩, ?_, by rw [List.length_set]; exact h0, .inr ⟨g, cap, cur.setIfInBounds i u, rfl, k2, ?_, k4, k5, by simpa using k6, ?_⟩⟩
    · rw [cell_at k3 i, ← List.getElem?_eq_getElem hlt, ← hc]
      simp
    · exact free_at k3 i
    · rw [heap_setCell_same _ _ _ _ _ _ k3]
    · rw [Array.toList_setIfInBounds, List.take_set, k7]
end Go.Proofs.Ytaaeooimalglaaa
