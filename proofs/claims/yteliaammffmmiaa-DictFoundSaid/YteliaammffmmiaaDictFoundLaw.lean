/-
  Of keys that were put where they were looked for, each is found again, and reads as it was; any other one isn't found: the statement itself, of the landed code, with no further condition.
-/
import Derived.Test.YteliaammffmmiaaDictFoundWalk
import Derived.Test.YteliaammffmmiaaDictUndWalk
import Derived.Test.YteliaammffmmiaaDictTailsWalk
import Derived.Test.YteliaammffmmiaaDictArgs
import Derived.Test.YteliaammffmmiaaDictLandsAll
import Derived.Test.YteliaammffmmiaaFrame
namespace Go.Proofs.Yteliaammffmmiaa.dictFound
open Go.ChangeShapes Go.WideShapes Go.ChangeAt Go.ChangeMaps Go.RowKit Go.Deep

set_option linter.unusedVariables false in
theorem walk {H : Type} {enc : TypeId × Value → H} (W : World) (args : Array Value) (ds : List (DataW H)) (hin : ArgsIn enc Try.prog Try.f3.params.toList W args ds) :
    Calls Try.prog 3 args W fun e W' => e = .returned (.bool true) ∧ Below W.heap.size W W' := by
  obtain ⟨⟨p, hA, hlt⟩, ⟨base, hval⟩, hsz⟩ := hin
  rw [Try.params3] at hA hval hsz
  obtain ⟨v0, vs0, d0, ds0, p0, q0, hargs, rfl, rfl, h0, r0⟩ := trodAll_cons hA
  obtain ⟨v1, vs1, d1, ds1, p1, q1, rfl, rfl, rfl, h1, r1⟩ := trodAll_cons r0
  obtain ⟨rfl, rfl, rfl⟩ := trodAll_nil r1
  obtain rfl : args = #[v0, v1] := by cases args; simp_all
  obtain ⟨ao1,F1,c1,rfl,hR1,hm1,hx1⟩ := open_texts_r (sz_at 0 hsz rfl rfl) (hval 0 22 v0 rfl rfl) h0
  obtain ⟨s2,rfl,hs2⟩ := open_str_r (sz_at 1 hsz rfl rfl) (hval 1 9 v1 rfl rfl) h1
  exact found_walk kept_dict W ao1 F1.length c1 F1 s2 rfl hR1 hx1 hm1 hs2

set_option maxRecDepth 100000 in
theorem proved : Rows.DictFoundSaid :=
  OpenClaim.holds_of_wide 3 Try.f3 rfl rfl rfl rfl rfl rfl rfl ⟨rfl, rfl, rfl, rfl, rfl⟩ rfl rfl rfl rfl rfl (by kernel_rfl) Try.func3 (by kernel_rfl)
    (of_decide_eq_true (by kernel_rfl)) (by unfold Func.isWrapper; first | (rw [if_pos (by decide +kernel)]; kernel_rfl) | (rw [if_neg (by decide +kernel)]; exact ⟨rfl, rfl⟩))
    (fun os started H enc _ => law_lifted (s := Rows.dictFoundSpec) own started (by kernel_rfl) Try.func3 laidOut (by kernel_rfl) (by kernel_rfl) Try.underlying4 rfl
      (ChangeSpec.witness6 (enc := enc) (C := Try.checked) false ⟨#[], #[.slice none 0 0, .string ByteArray.empty], []⟩ 8 (by kernel_rfl) (by kernel_rfl) (by kernel_rfl) (by kernel_rfl))
      (fun ds h => match ds, h with | [_, _], _ => rfl) walk)
#print axioms proved
end Go.Proofs.Yteliaammffmmiaa.dictFound
