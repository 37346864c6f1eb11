/-
  Rows of words that come in. Over the program's own text.
-/
import Derived.Test.YtaaeooimalglaaaRowArgs
import Derived.Test.YtaaeooimalglaaaNodeRd
namespace Go.Proofs.Ytaaeooimalglaaa
open Go.ChangeShapes Go.WideShapes Go.ChangeAt Go.RowKit Go.Deep

theorem trod_toks {H : Type} {enc : TypeId × Value → H} {W : World} {fuel : Nat} {c : Value} {x : DataW H × List MemPlace} (hf : DataW.trod enc Try.prog W 0 (fun _ => true) true fuel 22 [c] = some x) (hs : ∀ n ∈ x.1.weights Try.prog 22, n ≤ reachBytes) :
    ∃ (l : List Tk) (pa : Option Addr) (cap : Nat), c = .slice pa l.length cap ∧ l.length ≤ cap ∧ cap ≤ maxLen ∧ (pa = none → cap = 0) ∧ l.length ≤ reachBytes ∧ ReadT W pa l ∧ ∀ t ∈ l, t.2.1.size ≤ reachBytes := by
  obtain ⟨l, pa, cap, h1, h2, h3, h4, h5, h6⟩ := trod_row (α := Tk) 22 41 3 Try.underlying22 (by kernel_rfl) (by decide) (by decide +kernel) (fun b o x => W.cell? ⟨b, o, none⟩ = some (.int .u8 x.1) ∧ W.cell? ⟨b, o + 1, none⟩ = some (.string x.2.1) ∧ W.cell? ⟨b, o + 2, none⟩ = some (.int .i64 x.2.2) ∧ x.2.1.size ≤ reachBytes) hf hs
    (fun n cs y b o _ ht hw hcl hat => by
      obtain ⟨ys, n', _, hD, hlen, hyl, hg⟩ := DataW.trod_struct Try.underlying41 ht
      match cs, hcl with
      | [c0, c1, c2], _ =>
        have g0 := hg 0 _ rfl
        have g1 := hg 1 _ rfl
        have g2 := hg 2 _ rfl
        match ys, hyl with
        | [y0, y1, y2], _ =>
          obtain ⟨x0, e0, _, wf0⟩ := DataW.trod_int Try.underlying5 (show DataW.trod enc Try.prog W 0 (fun _ => true) true n' 5 [c0] = some y0 from g0)
          obtain ⟨s, e1, ey1, _⟩ := DataW.trod_string Try.underlying9 (show DataW.trod enc Try.prog W 0 (fun _ => true) true n' 9 [c1] = some y1 from g1)
          obtain ⟨x2, e2, _⟩ := trod_i64 (show DataW.trod enc Try.prog W 0 (fun _ => true) true n' 3 [c2] = some y2 from g2)
          simp only [List.cons.injEq, and_true] at e0 e1
          subst e0 e1 e2
          refine ⟨(x0, s, x2), by simpa using hat 0 _ rfl, hat 1 _ rfl, hat 2 _ rfl, hw _ ?_⟩
          rw [show y.1 = _ from congrArg Prod.fst hD]
          unfold DataW.weights
          rw [show Try.prog.underlying 41 = _ from Try.underlying41]
          refine DataW.weights_mem_each (j := 1) rfl rfl _ ?_
          rw [ey1]
          show s.size ∈ [s.data.toList.length]
          rw [Array.length_toList]
          exact List.mem_singleton.2 rfl)
  exact ⟨l, pa, cap, h1, h2, h3, h4, h5, fun j x hj => by
    obtain ⟨g, o, q1, q2, q3, q4, _⟩ := h6 j x hj
    exact ⟨g, o, q1, q2, q3, q4⟩, fun t ht => by
    obtain ⟨i, hi, rfl⟩ := List.getElem_of_mem ht
    obtain ⟨g, o, _, _, _, _, q⟩ := h6 i _ (List.getElem?_eq_getElem hi)
    exact q⟩
theorem open_toks {H : Type} {enc : TypeId × Value → H} {W : World} {v : Value} {d : DataW H} {p : List MemPlace} {base : Nat}
    (hs : ∀ n ∈ d.weights Try.prog 22, n ≤ reachBytes) (hv : Value.okWide Try.prog W .any base 22 v) (h : DataW.Trod enc Try.prog W 0 (fun _ => true) true 22 v d p) :
    ∃ ao l cap, v = .slice ao (List.length l) cap ∧ ReadT W ao l ∧ l.length ≤ cap ∧ l.length ≤ reachBytes := by
  obtain ⟨a, len, cap, rfl⟩ := okWide_slice Try.underlying22 hv
  obtain ⟨fuel, hf⟩ := h
  obtain ⟨l, pa, c, h1, h2, _, _, h5, h6, _⟩ := trod_toks (show DataW.trod enc Try.prog W 0 (fun _ => true) true fuel 22 [.slice a len cap] = some (d, p) from hf) hs
  exact ⟨pa, l, c, h1, h6, h2, h5⟩
end Go.Proofs.Ytaaeooimalglaaa
