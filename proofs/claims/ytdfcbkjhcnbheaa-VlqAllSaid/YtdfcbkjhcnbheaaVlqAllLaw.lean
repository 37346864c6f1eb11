/-
  The numbers of any bytes are the document's, or they are refused; numbers' bytes, one behind the other, are these numbers: the statement itself, of the landed code, with no further condition.
-/
import Derived.Test.YtdfcbkjhcnbheaaVlqWalkA
import Derived.Test.YtdfcbkjhcnbheaaVlqLands
import Derived.Test.YtdfcbkjhcnbheaaFrame
namespace Go.Proofs.Ytdfcbkjhcnbheaa.vlqAll
open Go.ChangeShapes Go.WideShapes Go.ChangeAt Go.ChangeMaps Go.RowKit Go.Deep

set_option linter.unusedVariables false in
theorem walk {H : Type} {enc : TypeId × Value → H} (W : World) (args : Array Value) (ds : List (DataW H)) (hin : ArgsIn enc Try.prog Try.f6.params.toList W args ds) :
    Calls Try.prog 6 args W fun e W' => e = .returned (.bool true) ∧ Below W.heap.size W W' := by
  obtain ⟨⟨p, hA, hlt⟩, ⟨base, hval⟩, hsz⟩ := hin
  rw [Try.params6] at hA hval hsz
  obtain ⟨v0, vs0, d0, ds0, p0, q0, hargs, rfl, rfl, h0, r0⟩ := trodAll_cons hA
  obtain ⟨v1, vs1, d1, ds1, p1, q1, rfl, rfl, rfl, h1, r1⟩ := trodAll_cons r0
  obtain ⟨rfl, rfl, rfl⟩ := trodAll_nil r1
  obtain rfl : args = #[v0, v1] := by cases args; simp_all
  obtain ⟨ao0,L0,c0,rfl,hR0,hc0,hm0,hn0,hb0⟩ := open_u8 (hval 0 23 v0 rfl rfl) h0
  obtain ⟨ao1,L1,c1,rfl,hR1,hc1,hm1,hn1,hb1⟩ := open_u32 (hval 1 35 v1 rfl rfl) h1
  exact all_all kept_vlq W ao0 ao1 c0 c1 L0 L1 hR0 hR1 hc0 hm0 hb0 hb1

set_option maxRecDepth 100000 in
theorem proved : Rows.VlqAllSaid :=
  OpenClaim.holds_of_wide 6 Try.f6 rfl rfl rfl rfl rfl rfl rfl ⟨rfl, rfl, rfl, rfl, rfl⟩ rfl rfl rfl rfl rfl (by kernel_rfl) Try.func6 (by kernel_rfl)
    (of_decide_eq_true (by kernel_rfl)) (by unfold Func.isWrapper; first | (rw [if_pos (by decide +kernel)]; kernel_rfl) | (rw [if_neg (by decide +kernel)]; exact ⟨rfl, rfl⟩))
    (fun os started H enc _ => law_lifted (s := Rows.vlqAllSpec) own started (by kernel_rfl) Try.func6 laidOut (by kernel_rfl) (by kernel_rfl) Try.underlying4 rfl
      (ChangeSpec.witness6 (enc := enc) (C := Try.checked) false ⟨#[], #[.slice none 0 0, .slice none 0 0], []⟩ 8 (by kernel_rfl) (by kernel_rfl) (by kernel_rfl) (by kernel_rfl))
      (fun ds h => match ds, h with | [_, _], _ => rfl) walk)
#print axioms proved
end Go.Proofs.Ytdfcbkjhcnbheaa.vlqAll
