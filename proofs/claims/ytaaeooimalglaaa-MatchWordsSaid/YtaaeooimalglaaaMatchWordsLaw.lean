/-
  A phrase of one term is found as often as it has places; a longer one never more often than its beginning: the statement itself, of the landed code, with no further condition.
-/
import Derived.Test.YtaaeooimalglaaaMatM
import Derived.Test.YtaaeooimalglaaaMatN
import Derived.Test.YtaaeooimalglaaaMatArgs
import Derived.Test.YtaaeooimalglaaaFrame
namespace Go.Proofs.Ytaaeooimalglaaa.matchWords
open Go.ChangeShapes Go.WideShapes Go.ChangeAt Go.ChangeMaps Go.RowKit Go.Deep

set_option linter.unusedVariables false in
theorem walk {H : Type} {enc : TypeId × Value → H} (W : World) (args : Array Value) (ds : List (DataW H)) (hin : ArgsIn enc Try.prog Try.f6.params.toList W args ds) :
    Calls Try.prog 6 args W fun e W' => e = .returned (.bool true) ∧ Below W.heap.size W W' := by
  obtain ⟨⟨p, hA, hlt⟩, ⟨base, hval⟩, hsz⟩ := hin
  rw [Try.params6] at hA hval hsz
  obtain ⟨v0, vs0, d0, ds0, p0, q0, hargs, rfl, rfl, h0, r0⟩ := trodAll_cons hA
  obtain ⟨v1, vs1, d1, ds1, p1, q1, rfl, rfl, rfl, h1, r1⟩ := trodAll_cons r0
  obtain ⟨rfl, rfl, rfl⟩ := trodAll_nil r1
  obtain rfl : args = #[v0, v1] := by cases args; simp_all
  obtain ⟨ao0,T0,c0,rfl,hT0,hc0,hb0⟩ := open_toks (sz_at 0 hsz rfl rfl) (hval 0 22 v0 rfl rfl) h0
  obtain ⟨ao1,L1,c1,rfl,hL1,hc1,hb1⟩ := open_entss (sz_at 1 hsz rfl rfl) (hval 1 23 v1 rfl rfl) h1
  exact words18 W ao0 ao1 c0 c1 T0.length L1.length T0 L1 hT0 rfl hL1 rfl hc0 hc1

set_option maxRecDepth 100000 in
theorem proved : Rows.MatchWordsSaid :=
  OpenClaim.holds_of_wide 6 Try.f6 rfl rfl rfl rfl rfl rfl rfl ⟨rfl, rfl, rfl, rfl, rfl⟩ rfl rfl rfl rfl rfl (by kernel_rfl) Try.func6 (by kernel_rfl)
    (of_decide_eq_true (by kernel_rfl)) (by unfold Func.isWrapper; first | (rw [if_pos (by decide +kernel)]; kernel_rfl) | (rw [if_neg (by decide +kernel)]; exact ⟨rfl, rfl⟩))
    (fun os started H enc _ => law_lifted (s := Rows.matchWordsSpec) own started (by kernel_rfl) Try.func6 laidOut (by kernel_rfl) (by kernel_rfl) Try.underlying4 rfl
      (ChangeSpec.witness6 (enc := enc) (C := Try.checked) false ⟨#[], #[.slice none 0 0, .slice none 0 0], []⟩ 8 (by kernel_rfl) (by kernel_rfl) (by kernel_rfl) (by kernel_rfl))
      (fun ds h => match ds, h with | [_, _], _ => rfl) walk)
#print axioms proved
end Go.Proofs.Ytaaeooimalglaaa.matchWords
