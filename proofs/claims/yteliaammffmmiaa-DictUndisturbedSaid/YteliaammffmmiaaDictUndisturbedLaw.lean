/-
  A key that is there when it is looked for is found, whatever is put between the steps; one that isn't, and isn't put, is not: the statement itself, of the landed code, with no further condition.
-/
import Derived.Test.YteliaammffmmiaaDictFoundWalk
import Derived.Test.YteliaammffmmiaaDictUndWalk
import Derived.Test.YteliaammffmmiaaDictTailsWalk
import Derived.Test.YteliaammffmmiaaDictArgs
import Derived.Test.YteliaammffmmiaaDictLandsAll
import Derived.Test.YteliaammffmmiaaFrame
namespace Go.Proofs.Yteliaammffmmiaa.dictUndisturbed
open Go.ChangeShapes Go.WideShapes Go.ChangeAt Go.ChangeMaps Go.RowKit Go.Deep

set_option linter.unusedVariables false in
theorem walk {H : Type} {enc : TypeId × Value → H} (W : World) (args : Array Value) (ds : List (DataW H)) (hin : ArgsIn enc Try.prog Try.f4.params.toList W args ds) :
    Calls Try.prog 4 args W fun e W' => e = .returned (.bool true) ∧ Below W.heap.size W W' := by
  obtain ⟨⟨p, hA, hlt⟩, ⟨base, hval⟩, hsz⟩ := hin
  rw [Try.params4] at hA hval hsz
  obtain ⟨v0, vs0, d0, ds0, p0, q0, hargs, rfl, rfl, h0, r0⟩ := trodAll_cons hA
  obtain ⟨v1, vs1, d1, ds1, p1, q1, rfl, rfl, rfl, h1, r1⟩ := trodAll_cons r0
  obtain ⟨v2, vs2, d2, ds2, p2, q2, rfl, rfl, rfl, h2, r2⟩ := trodAll_cons r1
  obtain ⟨v3, vs3, d3, ds3, p3, q3, rfl, rfl, rfl, h3, r3⟩ := trodAll_cons r2
  obtain ⟨rfl, rfl, rfl⟩ := trodAll_nil r3
  obtain rfl : args = #[v0, v1, v2, v3] := by cases args; simp_all
  obtain ⟨ao1,F1,c1,rfl,hR1,hm1,hx1⟩ := open_texts_r (sz_at 0 hsz rfl rfl) (hval 0 22 v0 rfl rfl) h0
  obtain ⟨ao2,F2,c2,rfl,hR2,hm2,hx2⟩ := open_texts_r (sz_at 1 hsz rfl rfl) (hval 1 22 v1 rfl rfl) h1
  obtain ⟨s4,rfl,hs4⟩ := open_str_r (sz_at 2 hsz rfl rfl) (hval 2 9 v2 rfl rfl) h2
  obtain ⟨ao3,L3,c3,rfl,hR3,hm3,hb3⟩ := open_u8s (hval 3 41 v3 rfl rfl) h3
  exact und_walk kept_dict W ao1 ao2 ao3 F1.length F2.length L3.length c1 c2 c3 F1 F2 s4 L3 rfl hR1 hx1 hm1 rfl hR2 hx2 hm2 hs4 rfl hR3 hb3 hm3

set_option maxRecDepth 100000 in
theorem proved : Rows.DictUndisturbedSaid :=
  OpenClaim.holds_of_wide 4 Try.f4 rfl rfl rfl rfl rfl rfl rfl ⟨rfl, rfl, rfl, rfl, rfl⟩ rfl rfl rfl rfl rfl (by kernel_rfl) Try.func4 (by kernel_rfl)
    (of_decide_eq_true (by kernel_rfl)) (by unfold Func.isWrapper; first | (rw [if_pos (by decide +kernel)]; kernel_rfl) | (rw [if_neg (by decide +kernel)]; exact ⟨rfl, rfl⟩))
    (fun os started H enc _ => law_lifted (s := Rows.dictUndisturbedSpec) own started (by kernel_rfl) Try.func4 laidOut (by kernel_rfl) (by kernel_rfl) Try.underlying4 rfl
      (ChangeSpec.witness6 (enc := enc) (C := Try.checked) false ⟨#[], #[.slice none 0 0, .slice none 0 0, .string ByteArray.empty, .slice none 0 0], []⟩ 8 (by kernel_rfl) (by kernel_rfl) (by kernel_rfl) (by kernel_rfl))
      (fun ds h => match ds, h with | [_, _, _, _], _ => rfl) walk)
#print axioms proved
end Go.Proofs.Yteliaammffmmiaa.dictUndisturbed
