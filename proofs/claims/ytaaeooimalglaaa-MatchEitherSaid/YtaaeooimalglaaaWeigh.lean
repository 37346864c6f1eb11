/-
  What the machine's reach tells of a part of an argument.
-/
import Derived.Test.YtaaeooimalglaaaArgs
import Derived.ChangeSlices
import Derived.ChangeMaps5
import Derived.SizedLaws
namespace Go.Proofs.Ytaaeooimalglaaa
open Go.ChangeShapes Go.WideShapes Go.ChangeAt Go.RowKit Go.Deep

theorem sz_at {H : Type} {P : Program} {ts : List TypeId} {ds : List (DataW H)} (j : Nat) (h : (DataW.weightsEach P ts ds).all (· ≤ reachBytes) = true) {t : TypeId} {d : DataW H} (ht : ts[j]? = some t) (hd : ds[j]? = some d) : ∀ n ∈ d.weights P t, n ≤ reachBytes := by
  intro n hn
  have := List.all_eq_true.1 h n (DataW.weights_mem_each ht hd n hn)
  simpa using this
theorem mem_weightsAll {H : Type} {P : Program} {e : TypeId} : ∀ {l : List (DataW H)} {i : Nat} {d : DataW H}, l[i]? = some d → ∀ n ∈ d.weights P e, n ∈ DataW.weightsAll P e l
  | d0 :: l, 0, d, hd, n, hn => by
    simp only [List.getElem?_cons_zero, Option.some.injEq] at hd
    subst hd
    simp only [DataW.weightsAll, List.mem_append]
    exact Or.inl hn
  | d0 :: l, i + 1, d, hd, n, hn => by
    simp only [List.getElem?_cons_succ] at hd
    simp only [DataW.weightsAll, List.mem_append]
    exact Or.inr (mem_weightsAll hd n hn)
  | [], _, _, hd, _, _ => by simp at hd
end Go.Proofs.Ytaaeooimalglaaa
