/-
  Rows of texts that are read; a list of texts that comes in.
-/
import Derived.Test.YteliaammffmmiaaArgs
import Derived.Test.YteliaammffmmiaaBytes
import Derived.ChangeSlices
import Derived.ChangeMaps5
namespace Go.Proofs.Yteliaammffmmiaa
open Go.ChangeShapes Go.WideShapes Go.ChangeAt Go.RowKit Go.Deep

/-- Texts, one behind the other, from an address on. -/
def ReadS (w : World) (oa : Option Addr) (F : List ByteArray) : Prop := ∀ (j : Nat) (x : ByteArray), F[j]? = some x → ∃ g o : Nat, oa = some ⟨g, o, none⟩ ∧ w.cell? ⟨g, o + j, none⟩ = some (.string x)
theorem ReadS.below {w w' : World} {oa : Option Addr} {F : List ByteArray} (h : ReadS w oa F) (hb : Below w.heap.size w w') : ReadS w' oa F := fun j x hj => by
  obtain ⟨g, o, h0, h1⟩ := h j x hj
  exact ⟨g, o, h0, below_cell h1 hb⟩
theorem cell_plain {w : World} {a : Addr} {v : Value} (h : w.cell? a = some v) : ∃ g o, a = ⟨g, o, none⟩ := by
  obtain ⟨g, o, q⟩ := a
  cases q with
  | none => exact ⟨g, o, rfl⟩
  | some q =>
    simp only [World.cell?] at h
    split at h <;> simp_all
theorem open_texts {H : Type} {enc : TypeId × Value → H} {W : World} {v : Value} {d : DataW H} {p : List MemPlace} {base : Nat}
    (hv : Value.okWide Try.prog W .any base 22 v) (h : DataW.Trod enc Try.prog W 0 (fun _ => true) true 22 v d p) :
    ∃ ao F cap, v = .slice ao F.length cap ∧ ReadS W ao F ∧ F.length ≤ cap ∧ cap ≤ maxLen ∧ ∀ x ∈ F, (x.size : Int) ≤ 9223372036854775807 := by
  obtain ⟨a, len, cap, rfl⟩ := okWide_slice Try.underlying22 hv
  obtain ⟨fuel, hf⟩ := h
  rcases DataW.trod_slice Try.underlying22 hf with ⟨hcs, _⟩ | ⟨a', len', cap', elems, rest, m, rfl, hcs, _, hb, hl, hm, hlen, hel, _, _⟩
  · simp only [Value.cells, List.cons.injEq, and_true, Value.slice.injEq] at hcs
    obtain ⟨rfl, rfl, rfl⟩ := hcs
    exact ⟨none, [], 0, rfl, fun j r hj => by simp at hj, by simp, by simp [maxLen], by simp⟩
  · simp only [Value.cells, List.cons.injEq, and_true, Value.slice.injEq] at hcs
    obtain ⟨rfl, rfl, rfl⟩ := hcs
    have hc1 : Try.prog.cellsOf 9 = 1 := by kernel_rfl
    have each : ∀ i, i < len → ∃ s : ByteArray, W.cell? (a'.add i) = some (.string s) ∧ s.size ≤ maxLen := by
      intro i hi
      have h5 := hel i hi
      rw [List.getElem?_eq_getElem (by omega), hc1, Nat.mul_one] at h5
      obtain ⟨cs2, hc2, h6⟩ := Option.bind_eq_some_iff.1 h5
      obtain ⟨_, hn, hcells⟩ := World.cells?_some hc2
      obtain ⟨s, rfl, _, hs⟩ := DataW.trod_string Try.underlying9 h6
      have := hcells 0 (by omega)
      rw [Addr.add_add, Nat.add_zero] at this
      exact ⟨s, by simpa using this, hs⟩
    let F := (List.range len).pmap (fun i hi => Classical.choose (each i hi)) (fun i hi => List.mem_range.1 hi)
    have hFl : F.length = len := by simp [F]
    have hget : ∀ j x, F[j]? = some x → W.cell? (a'.add j) = some (.string x) ∧ x.size ≤ maxLen := by
      intro j x hj
      obtain ⟨hj1, hj2⟩ := List.getElem?_eq_some_iff.1 hj
      simp only [F, List.getElem_pmap, List.getElem_range] at hj2
      subst hj2
      exact Classical.choose_spec (each j (by omega))
    refine ⟨some a', F, cap, by rw [hFl], fun j x hj => ?_, by omega, hm, fun x hx => ?_⟩
    · have hc := (hget j x hj).1
      obtain ⟨g, o, he⟩ : ∃ g o, a' = ⟨g, o, none⟩ := by
        obtain ⟨s0, h0, _⟩ := each 0 (by have := (List.getElem?_eq_some_iff.1 hj).1; omega)
        rw [show a'.add 0 = a' by simp [Addr.add]] at h0
        exact cell_plain h0
      subst he
      refine ⟨g, o, rfl, ?_⟩
      rwa [Addr.add_lit] at hc
    · obtain ⟨j, hj⟩ := List.getElem?_of_mem hx
      have := (hget j x hj).2
      unfold maxLen at this
      omega
theorem size_int {s : ByteArray} (h : s.size ≤ maxLen) : (s.size : Int) ≤ 9223372036854775807 := by unfold maxLen at h; omega
end Go.Proofs.Yteliaammffmmiaa
