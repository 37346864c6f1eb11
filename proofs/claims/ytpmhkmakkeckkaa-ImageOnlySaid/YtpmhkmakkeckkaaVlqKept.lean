/-
  What the program's three functions of layer 8 keep, as the laws' walks take it; the laws' own example, given that. Over the program's own text.
-/
import Derived.Test.YtpmhkmakkeckkaaVlqAll
namespace Go.Proofs.Ytpmhkmakkeckkaa
open Go.RowKit

set_option maxRecDepth 100000 in
theorem ref_put_of (n : Nat) (L : List Nat) (l : Nat) (hn : n < 4294967296) (hL : putN n = L) (hl : L.length = l) (w : World) : Calls Try.prog 52 #[.int .u32 (n : Int)] w fun e w' => ∃ oa c, e = .returned (.slice oa l c) ∧ l ≤ c ∧ c ≤ maxLen ∧ (oa = none → c = 0) ∧ ReadN .u8 w' oa L ∧ Below w.heap.size w w' := by
  subst hL
  refine (ref_put w n hn).mono fun _ _ ⟨v, h1, h2, h3⟩ => ?_
  obtain ⟨oa, c, rfl, h4, h5, h6, h7⟩ := h2.reads_of l hl
  exact ⟨oa, c, h1, h4, h5, h6, h7, h3⟩
end Go.Proofs.Ytpmhkmakkeckkaa
