/-
  A list of runes that comes in.
-/
import Derived.Test.YtohlhjbnomknbaaUtfKept
import Derived.Test.YtohlhjbnomknbaaArgs
import Derived.ChangeSlices
import Derived.ChangeMaps5
namespace Go.Proofs.Ytohlhjbnomknbaa
open Go.ChangeShapes Go.WideShapes Go.ChangeAt Go.RowKit Go.Deep

theorem i32_of {r : Int} (h : (Lit.int .i32 r).wf = true) : -2147483648 ≤ r ∧ r ≤ 2147483647 := by
  simp [Lit.wf, IntKind.min, IntKind.max, IntKind.signed, IntKind.bits] at h
  omega
theorem open_runes {H : Type} {enc : TypeId × Value → H} {W : World} {v : Value} {d : DataW H} {p : List MemPlace} {base : Nat}
    (hv : Value.okWide Try.prog W .any base 24 v) (h : DataW.Trod enc Try.prog W 0 (fun _ => true) true 24 v d p) :
    ∃ ao L cap, v = .slice ao L.length cap ∧ ReadI W ao L ∧ L.length ≤ cap ∧ cap ≤ maxLen ∧ ∀ r ∈ L, -2147483648 ≤ r ∧ r ≤ 2147483647 := by
  obtain ⟨a, len, cap, rfl⟩ := okWide_slice Try.underlying24 hv
  obtain ⟨fuel, hf⟩ := h
  rcases open_ints Try.underlying24 Try.underlying21 (by kernel_rfl) hf with ⟨hcs, _⟩ | ⟨a', len', cap', zs, hcs, _, hl, hm, hz, _, hc, hwf⟩
  · simp only [Value.cells, List.cons.injEq, and_true, Value.slice.injEq] at hcs
    obtain ⟨rfl, rfl, rfl⟩ := hcs
    exact ⟨none, [], 0, rfl, fun j r hj => by simp at hj, by simp, by simp [maxLen], by simp⟩
  · simp only [Value.cells, List.cons.injEq, and_true, Value.slice.injEq] at hcs
    obtain ⟨rfl, rfl, rfl⟩ := hcs
    simp only [if_true] at hz
    have hlen : (zs.take len).length = len := by simp; omega
    refine ⟨_, zs.take len, cap, by rw [hlen], fun j r hj => ⟨_, rfl, ?_⟩, by omega, hm, fun r hr => i32_of (hwf r (List.mem_of_mem_take hr))⟩
    have hjl : j < len := by have := (List.getElem?_eq_some_iff.1 hj).1; omega
    rw [hc j (by omega)]
    rw [List.getElem?_take, if_pos hjl] at hj
    simp [hj]
theorem size_int {s : ByteArray} (h : s.size ≤ maxLen) : (s.size : Int) ≤ 9223372036854775807 := by unfold maxLen at h; omega
end Go.Proofs.Ytohlhjbnomknbaa
