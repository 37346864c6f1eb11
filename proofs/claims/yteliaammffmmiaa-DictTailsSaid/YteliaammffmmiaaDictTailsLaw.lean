/-
  A record's tail is what was stored last, and nothing else is turned by it: the statement itself, of the landed code, with no further condition.
-/
import Derived.Test.YteliaammffmmiaaDictFoundWalk
import Derived.Test.YteliaammffmmiaaDictUndWalk
import Derived.Test.YteliaammffmmiaaDictTailsWalk
import Derived.Test.YteliaammffmmiaaDictArgs
import Derived.Test.YteliaammffmmiaaDictLandsAll
import Derived.Test.YteliaammffmmiaaFrame
namespace Go.Proofs.Yteliaammffmmiaa.dictTails
open Go.ChangeShapes Go.WideShapes Go.ChangeAt Go.ChangeMaps Go.RowKit Go.Deep

set_option linter.unusedVariables false in
theorem walk {H : Type} {enc : TypeId × Value → H} (W : World) (args : Array Value) (ds : List (DataW H)) (hin : ArgsIn enc Try.prog Try.f5.params.toList W args ds) :
    Calls Try.prog 5 args W fun e W' => e = .returned (.bool true) ∧ Below W.heap.size W W' := by
  obtain ⟨⟨p, hA, hlt⟩, ⟨base, hval⟩, hsz⟩ := hin
  rw [Try.params5] at hA hval hsz
  obtain ⟨v0, vs0, d0, ds0, p0, q0, hargs, rfl, rfl, h0, r0⟩ := trodAll_cons hA
  obtain ⟨v1, vs1, d1, ds1, p1, q1, rfl, rfl, rfl, h1, r1⟩ := trodAll_cons r0
  obtain ⟨rfl, rfl, rfl⟩ := trodAll_nil r1
  obtain rfl : args = #[v0, v1] := by cases args; simp_all
  obtain ⟨s1,rfl,hs1⟩ := open_str_r (sz_at 0 hsz rfl rfl) (hval 0 9 v0 rfl rfl) h0
  obtain ⟨ao3,L3,c3,rfl,hR3,hm3,hb3⟩ := open_u32s (hval 1 50 v1 rfl rfl) h1
  exact tails_walk kept_dict W s1 (reach_max hs1) ao3 L3.length c3 L3 rfl hR3 hb3 hm3

set_option maxRecDepth 100000 in
theorem proved : Rows.DictTailsSaid :=
  OpenClaim.holds_of_wide 5 Try.f5 rfl rfl rfl rfl rfl rfl rfl ⟨rfl, rfl, rfl, rfl, rfl⟩ rfl rfl rfl rfl rfl (by kernel_rfl) Try.func5 (by kernel_rfl)
    (of_decide_eq_true (by kernel_rfl)) (by unfold Func.isWrapper; first | (rw [if_pos (by decide +kernel)]; kernel_rfl) | (rw [if_neg (by decide +kernel)]; exact ⟨rfl, rfl⟩))
    (fun os started H enc _ => law_lifted (s := Rows.dictTailsSpec) own started (by kernel_rfl) Try.func5 laidOut (by kernel_rfl) (by kernel_rfl) Try.underlying4 rfl
      (ChangeSpec.witness6 (enc := enc) (C := Try.checked) false ⟨#[], #[.string ByteArray.empty, .slice none 0 0], []⟩ 8 (by kernel_rfl) (by kernel_rfl) (by kernel_rfl) (by kernel_rfl))
      (fun ds h => match ds, h with | [_, _], _ => rfl) walk)
#print axioms proved
end Go.Proofs.Yteliaammffmmiaa.dictTails
