/-
  A Not of an And finds what the Or of its kids' Nots finds, and the other way round: the statement itself, of the landed code, with no further condition.
-/
import Derived.Test.YtaaeooimalglaaaMatP
import Derived.Test.YtaaeooimalglaaaMatQ
import Derived.Test.YtaaeooimalglaaaNodeArgs
import Derived.Test.YtaaeooimalglaaaFoArgs
import Derived.Test.YtaaeooimalglaaaFrame
namespace Go.Proofs.Ytaaeooimalglaaa.matchEither
open Go.ChangeShapes Go.WideShapes Go.ChangeAt Go.ChangeMaps Go.RowKit Go.Deep

set_option linter.unusedVariables false in
theorem walk {H : Type} {enc : TypeId × Value → H} (W : World) (args : Array Value) (ds : List (DataW H)) (hin : ArgsIn enc Try.prog Try.f5.params.toList W args ds) :
    Calls Try.prog 5 args W fun e W' => e = .returned (.bool true) ∧ Below W.heap.size W W' := by
  obtain ⟨⟨p, hA, hlt⟩, ⟨base, hval⟩, hsz⟩ := hin
  rw [Try.params5] at hA hval hsz
  obtain ⟨v0, vs0, d0, ds0, p0, q0, hargs, rfl, rfl, h0, r0⟩ := trodAll_cons hA
  obtain ⟨v1, vs1, d1, ds1, p1, q1, rfl, rfl, rfl, h1, r1⟩ := trodAll_cons r0
  obtain ⟨v2, vs2, d2, ds2, p2, q2, rfl, rfl, rfl, h2, r2⟩ := trodAll_cons r1
  obtain ⟨rfl, rfl, rfl⟩ := trodAll_nil r2
  obtain rfl : args = #[v0, v1, v2] := by cases args; simp_all
  obtain ⟨ao0,ks0,rs0,c0,rfl,hc0,hm0,hk0,hl0,hr0,hre0,hb0⟩ := open_nodes (sz_at 0 hsz rfl rfl) (hval 0 29 v0 rfl rfl) h0
  obtain ⟨l1,hv1⟩ := open_all (sz_at 1 hsz rfl rfl) (hval 1 32 v1 rfl rfl) h1
  obtain ⟨L2,hl2,hb2⟩ := open_fos (sz_at 2 hsz rfl rfl) (hval 2 33 v2 rfl rfl) h2
  exact either18 W ao0 c0 ks0.length ks0 rs0 v1 v2 l1 L2 hk0 rfl hc0 hm0 hl0 hr0 hre0 hb0 hv1 hl2 hb2

set_option maxRecDepth 100000 in
theorem proved : Rows.MatchEitherSaid :=
  OpenClaim.holds_of_wide 5 Try.f5 rfl rfl rfl rfl rfl rfl rfl ⟨rfl, rfl, rfl, rfl, rfl⟩ rfl rfl rfl rfl rfl (by kernel_rfl) Try.func5 (by kernel_rfl)
    (of_decide_eq_true (by kernel_rfl)) (by unfold Func.isWrapper; first | (rw [if_pos (by decide +kernel)]; kernel_rfl) | (rw [if_neg (by decide +kernel)]; exact ⟨rfl, rfl⟩))
    (fun os started H enc _ => law_lifted (s := Rows.matchEitherSpec) own started (by kernel_rfl) Try.func5 laidOut (by kernel_rfl) (by kernel_rfl) Try.underlying4 rfl
      (ChangeSpec.witness6 (enc := enc) (C := Try.checked) false ⟨#[], #[.slice none 0 0, .slice none 0 0, .slice none 0 0], []⟩ 8 (by kernel_rfl) (by kernel_rfl) (by kernel_rfl) (by kernel_rfl))
      (fun ds h => match ds, h with | [_, _, _], _ => rfl) walk)
#print axioms proved
end Go.Proofs.Ytaaeooimalglaaa.matchEither
