/-
  A text that comes in, within the machine's reach. Over the program's own text.
-/
import Derived.Test.YtkjimgidlpocbaaArgs
import Derived.Test.YtkjimgidlpocbaaWeigh
namespace Go.Proofs.Ytkjimgidlpocbaa
open Go.ChangeShapes Go.WideShapes Go.ChangeAt Go.ChangeMaps Go.RowKit Go.Deep
theorem open_text_r {H : Type} {enc : TypeId × Value → H} {W : World} {v : Value} {d : DataW H} {p : List MemPlace} {base : Nat} (hs : ∀ n ∈ d.weights Try.prog 9, n ≤ reachBytes)
    (hv : Value.okWide Try.prog W .any base 9 v) (h : DataW.Trod enc Try.prog W 0 (fun _ => true) true 9 v d p) : ∃ s : ByteArray, v = .string s ∧ s.size ≤ reachBytes := by
  obtain ⟨s, rfl, rfl, rfl, _⟩ := open_string Try.underlying9 hv h
  exact ⟨s, rfl, hs _ (by simp [DataW.weights])⟩
end Go.Proofs.Ytkjimgidlpocbaa
