/-
  Any list is laid as the document says, or refused; what is handed in stays: the statement itself, of the landed code, with no further condition.
-/
import Derived.Test.YtecbkobliknpiaaBlkLawB
import Derived.Test.YtecbkobliknpiaaBlkLawC
import Derived.Test.YtecbkobliknpiaaEntArgs
import Derived.Test.YtecbkobliknpiaaFrame
namespace Go.Proofs.Ytecbkobliknpiaa.blockEncodes
open Go.ChangeShapes Go.WideShapes Go.ChangeAt Go.ChangeMaps Go.RowKit Go.Deep

set_option linter.unusedVariables false in
theorem walk {H : Type} {enc : TypeId × Value → H} (W : World) (args : Array Value) (ds : List (DataW H)) (hin : ArgsIn enc Try.prog Try.f3.params.toList W args ds) :
    Calls Try.prog 3 args W fun e W' => e = .returned (.bool true) ∧ Below W.heap.size W W' := by
  obtain ⟨⟨p, hA, hlt⟩, ⟨base, hval⟩, hsz⟩ := hin
  rw [Try.params3] at hA hval hsz
  obtain ⟨v0, vs0, d0, ds0, p0, q0, hargs, rfl, rfl, h0, r0⟩ := trodAll_cons hA
  obtain ⟨rfl, rfl, rfl⟩ := trodAll_nil r0
  obtain rfl : args = #[v0] := by cases args; simp_all
  obtain ⟨ao0,l0,c0,rfl,hR0,hc0,hm0,hn0,hb0⟩ := open_ents_r (sz_at 0 hsz rfl rfl) (hval 0 22 v0 rfl rfl) h0
  exact encodes13 W ao0 c0 l0.length l0 rfl hR0 hc0 (fun e he => (hb0 e he).2)

set_option maxRecDepth 100000 in
theorem proved : Rows.BlockEncodesSaid :=
  OpenClaim.holds_of_wide 3 Try.f3 rfl rfl rfl rfl rfl rfl rfl ⟨rfl, rfl, rfl, rfl, rfl⟩ rfl rfl rfl rfl rfl (by kernel_rfl) Try.func3 (by kernel_rfl)
    (of_decide_eq_true (by kernel_rfl)) (by unfold Func.isWrapper; first | (rw [if_pos (by decide +kernel)]; kernel_rfl) | (rw [if_neg (by decide +kernel)]; exact ⟨rfl, rfl⟩))
    (fun os started H enc _ => law_lifted (s := Rows.blockEncodesSpec) own started (by kernel_rfl) Try.func3 laidOut (by kernel_rfl) (by kernel_rfl) Try.underlying4 rfl
      (ChangeSpec.witness6 (enc := enc) (C := Try.checked) false ⟨#[], #[.slice none 0 0], []⟩ 8 (by kernel_rfl) (by kernel_rfl) (by kernel_rfl) (by kernel_rfl))
      (fun ds h => match ds, h with | [_], _ => rfl) walk)
#print axioms proved
end Go.Proofs.Ytecbkobliknpiaa.blockEncodes
