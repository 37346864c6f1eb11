/-
  Documents, and leaves' lists, that come in. Over the program's own text.
-/
import Derived.Test.YtaaeooimalglaaaRowArgs
import Derived.Test.YtaaeooimalglaaaMatI
namespace Go.Proofs.Ytaaeooimalglaaa
open Go.ChangeShapes Go.WideShapes Go.ChangeAt Go.RowKit Go.Deep

theorem trod_fo {H : Type} {enc : TypeId × Value → H} {W : World} {fuel : Nat} {c : Value} {x : DataW H × List MemPlace} (hf : DataW.trod enc Try.prog W 0 (fun _ => true) true fuel 27 [c] = some x) (hs : ∀ n ∈ x.1.weights Try.prog 27, n ≤ reachBytes) :
    ∃ l : List Fo, RdFo W c l ∧ l.length ≤ reachBytes := by
  obtain ⟨l, pa, cap, h1, h2, h3, h4, h5, h6⟩ := trod_row (α := Fo) 27 44 2 Try.underlying27 (by kernel_rfl) (by decide) (by decide +kernel) (fun b o x => W.cell? ⟨b, o, none⟩ = some (.int .i64 x.1) ∧ W.cell? ⟨b, o + 1, none⟩ = some (.int .i64 x.2)) hf hs
    (fun n cs y b o _ ht hw hcl hat => by
      obtain ⟨ys, n', _, _, _, hyl, hg⟩ := DataW.trod_struct Try.underlying44 ht
      match cs, hcl with
      | [c0, c1], _ =>
        have g0 := hg 0 _ rfl
        have g1 := hg 1 _ rfl
        match ys, hyl with
        | [y0, y1], _ =>
          obtain ⟨x0, rfl, _⟩ := trod_i64 (show DataW.trod enc Try.prog W 0 (fun _ => true) true n' 3 [c0] = some y0 from g0)
          obtain ⟨x1, rfl, _⟩ := trod_i64 (show DataW.trod enc Try.prog W 0 (fun _ => true) true n' 3 [c1] = some y1 from g1)
          exact ⟨(x0, x1), by simpa using hat 0 _ rfl, hat 1 _ rfl⟩)
  exact ⟨l, ⟨pa, cap, h1, h2, h3, h4, fun j x hj => by
    obtain ⟨g, o, q1, q2, q3⟩ := h6 j x hj
    exact ⟨g, o, q1, q2, q3⟩⟩, h5⟩
theorem open_fos {H : Type} {enc : TypeId × Value → H} {W : World} {v : Value} {d : DataW H} {p : List MemPlace} {base : Nat}
    (hs : ∀ n ∈ d.weights Try.prog 33, n ≤ reachBytes) (hv : Value.okWide Try.prog W .any base 33 v) (h : DataW.Trod enc Try.prog W 0 (fun _ => true) true 33 v d p) :
    ∃ L : List (List Fo), LvsAt W v L ∧ ∀ l ∈ L, l.length ≤ reachBytes := by
  obtain ⟨a, len, cap, rfl⟩ := okWide_slice Try.underlying33 hv
  obtain ⟨fuel, hf⟩ := h
  obtain ⟨l, pa, c, h1, h2, h3, h4, h5, h6⟩ := trod_row (α := List Fo) 33 27 1 Try.underlying33 (by kernel_rfl) (by decide) (by decide +kernel) (fun b o x => (∃ p, W.cell? ⟨b, o, none⟩ = some p ∧ RdFo W p x) ∧ x.length ≤ reachBytes) (show DataW.trod enc Try.prog W 0 (fun _ => true) true fuel 33 [.slice a len cap] = some (d, p) from hf) hs
    (fun n cs y b o _ ht hw hcl hat => by
      match cs, hcl with
      | [c0], _ =>
        obtain ⟨x, hx, hx2⟩ := trod_fo ht hw
        exact ⟨x, ⟨c0, by simpa using hat 0 _ rfl, hx⟩, hx2⟩)
  refine ⟨l, ⟨pa, c, h1, h2, h3, h4, fun j x hj => ?_⟩, fun x hx => ?_⟩
  · obtain ⟨g, o, q1, ⟨q, q2, q3⟩, _⟩ := h6 j x hj
    exact ⟨g, o, q1, q, by rw [Nat.mul_one] at q2; exact q2, q3⟩
  · obtain ⟨i, hi, rfl⟩ := List.getElem_of_mem hx
    obtain ⟨g, o, _, _, q⟩ := h6 i _ (List.getElem?_eq_getElem hi)
    exact q
theorem open_all {H : Type} {enc : TypeId × Value → H} {W : World} {v : Value} {d : DataW H} {p : List MemPlace} {base : Nat}
    (hs : ∀ n ∈ d.weights Try.prog 32, n ≤ reachBytes) (hv : Value.okWide Try.prog W .any base 32 v) (h : DataW.Trod enc Try.prog W 0 (fun _ => true) true 32 v d p) :
    ∃ l : List Int, RdP W v l := by
  obtain ⟨a, len, cap, rfl⟩ := okWide_slice Try.underlying32 hv
  obtain ⟨fuel, hf⟩ := h
  obtain ⟨l, h1, _⟩ := trod_places_r (show DataW.trod enc Try.prog W 0 (fun _ => true) true fuel 32 [.slice a len cap] = some (d, p) from hf) hs
  exact ⟨l, h1⟩
end Go.Proofs.Ytaaeooimalglaaa
