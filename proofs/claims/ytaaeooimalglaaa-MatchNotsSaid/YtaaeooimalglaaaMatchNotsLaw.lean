/-
  A Not finds what its kid doesn't find, a Not of it what it does: the statement itself, of the landed code, with no further condition.
-/
import Derived.Test.YtaaeooimalglaaaMatP
import Derived.Test.YtaaeooimalglaaaMatQ
import Derived.Test.YtaaeooimalglaaaNodeArgs
import Derived.Test.YtaaeooimalglaaaFoArgs
import Derived.Test.YtaaeooimalglaaaFrame
namespace Go.Proofs.Ytaaeooimalglaaa.matchNots
open Go.ChangeShapes Go.WideShapes Go.ChangeAt Go.ChangeMaps Go.RowKit Go.Deep

set_option linter.unusedVariables false in
theorem walk {H : Type} {enc : TypeId × Value → H} (W : World) (args : Array Value) (ds : List (DataW H)) (hin : ArgsIn enc Try.prog Try.f4.params.toList W args ds) :
    Calls Try.prog 4 args W fun e W' => e = .returned (.bool true) ∧ Below W.heap.size W W' := by
  obtain ⟨⟨p, hA, hlt⟩, ⟨base, hval⟩, hsz⟩ := hin
  rw [Try.params4] at hA hval hsz
  obtain ⟨v0, vs0, d0, ds0, p0, q0, hargs, rfl, rfl, h0, r0⟩ := trodAll_cons hA
  obtain ⟨v1, vs1, d1, ds1, p1, q1, rfl, rfl, rfl, h1, r1⟩ := trodAll_cons r0
  obtain ⟨v2, vs2, d2, ds2, p2, q2, rfl, rfl, rfl, h2, r2⟩ := trodAll_cons r1
  obtain ⟨rfl, rfl, rfl⟩ := trodAll_nil r2
  obtain rfl : args = #[v0, v1, v2] := by cases args; simp_all
  obtain ⟨x0,r0,rfl,hx0,hre0⟩ := open_node (sz_at 0 hsz rfl rfl) (hval 0 31 v0 rfl rfl) h0
  obtain ⟨l1,hv1⟩ := open_all (sz_at 1 hsz rfl rfl) (hval 1 32 v1 rfl rfl) h1
  obtain ⟨L2,hl2,hb2⟩ := open_fos (sz_at 2 hsz rfl rfl) (hval 2 33 v2 rfl rfl) h2
  exact nots18 W x0 r0 v1 v2 l1 L2 hx0 hre0 hv1 hl2 hb2

set_option maxRecDepth 100000 in
theorem proved : Rows.MatchNotsSaid :=
  OpenClaim.holds_of_wide 4 Try.f4 rfl rfl rfl rfl rfl rfl rfl ⟨rfl, rfl, rfl, rfl, rfl⟩ rfl rfl rfl rfl rfl (by kernel_rfl) Try.func4 (by kernel_rfl)
    (of_decide_eq_true (by kernel_rfl)) (by unfold Func.isWrapper; first | (rw [if_pos (by decide +kernel)]; kernel_rfl) | (rw [if_neg (by decide +kernel)]; exact ⟨rfl, rfl⟩))
    (fun os started H enc _ => law_lifted (s := Rows.matchNotsSpec) own started (by kernel_rfl) Try.func4 laidOut (by kernel_rfl) (by kernel_rfl) Try.underlying4 rfl
      (ChangeSpec.witness6 (enc := enc) (C := Try.checked) false ⟨#[], #[.agg #[.int .i64 0, .int .u8 0, .slice none 0 0, .slice none 0 0], .slice none 0 0, .slice none 0 0], []⟩ 8 (by kernel_rfl) (by kernel_rfl) (by kernel_rfl) (by kernel_rfl))
      (fun ds h => match ds, h with | [_, _, _], _ => rfl) walk)
#print axioms proved
end Go.Proofs.Ytaaeooimalglaaa.matchNots
