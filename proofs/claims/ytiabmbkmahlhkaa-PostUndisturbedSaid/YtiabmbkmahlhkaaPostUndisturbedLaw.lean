/-
  A walk reads what was there up to its tail, whatever is added to this term and to others between its steps: the statement itself, of the landed code, with no further condition.
-/
import Derived.Test.YtiabmbkmahlhkaaPostNeedsWalk
import Derived.Test.YtiabmbkmahlhkaaPostUndWalk
import Derived.Test.YtiabmbkmahlhkaaPostBackWalk
import Derived.Test.YtiabmbkmahlhkaaPostArgs
import Derived.Test.YtiabmbkmahlhkaaPostLands
import Derived.Test.YtiabmbkmahlhkaaFrame
namespace Go.Proofs.Ytiabmbkmahlhkaa.postUndisturbed
open Go.ChangeShapes Go.WideShapes Go.ChangeAt Go.ChangeMaps Go.RowKit Go.Deep

set_option linter.unusedVariables false in
theorem walk {H : Type} {enc : TypeId × Value → H} (W : World) (args : Array Value) (ds : List (DataW H)) (hin : ArgsIn enc Try.prog Try.f4.params.toList W args ds) :
    Calls Try.prog 4 args W fun e W' => e = .returned (.bool true) ∧ Below W.heap.size W W' := by
  obtain ⟨⟨p, hA, hlt⟩, ⟨base, hval⟩, hsz⟩ := hin
  rw [Try.params4] at hA hval hsz
  obtain ⟨v0, vs0, d0, ds0, p0, q0, hargs, rfl, rfl, h0, r0⟩ := trodAll_cons hA
  obtain ⟨v1, vs1, d1, ds1, p1, q1, rfl, rfl, rfl, h1, r1⟩ := trodAll_cons r0
  obtain ⟨v2, vs2, d2, ds2, p2, q2, rfl, rfl, rfl, h2, r2⟩ := trodAll_cons r1
  obtain ⟨v3, vs3, d3, ds3, p3, q3, rfl, rfl, rfl, h3, r3⟩ := trodAll_cons r2
  obtain ⟨rfl, rfl, rfl⟩ := trodAll_nil r3
  obtain rfl : args = #[v0, v1, v2, v3] := by cases args; simp_all
  obtain ⟨d,t,s,bk,rm,kf,bf,rfl,hs⟩ := open_conf (hval 0 25 v0 rfl rfl) h0
  obtain ⟨ao1,n1,c1,E1,rfl,hE1⟩ := open_ops (hval 1 26 v1 rfl rfl) h1
  obtain ⟨ao2,n2,c2,E2,rfl,hE2⟩ := open_ops (hval 2 26 v2 rfl rfl) h2
  obtain ⟨ao3,L3,c3,rfl,hR3,hm3,hb3⟩ := open_bytes8 (hval 3 48 v3 rfl rfl) h3
  exact und_walk kept_post W d t s bk rm kf bf ao1 ao2 ao3 n1 n2 L3.length c1 c2 c3 E1 E2 hE1 hE2 L3 rfl hR3 hb3 hm3

set_option maxRecDepth 100000 in
theorem proved : Rows.PostUndisturbedSaid :=
  OpenClaim.holds_of_wide 4 Try.f4 rfl rfl rfl rfl rfl rfl rfl ⟨rfl, rfl, rfl, rfl, rfl⟩ rfl rfl rfl rfl rfl (by kernel_rfl) Try.func4 (by kernel_rfl)
    (of_decide_eq_true (by kernel_rfl)) (by unfold Func.isWrapper; first | (rw [if_pos (by decide +kernel)]; kernel_rfl) | (rw [if_neg (by decide +kernel)]; exact ⟨rfl, rfl⟩))
    (fun os started H enc _ => law_lifted (s := Rows.postUndisturbedSpec) own started (by kernel_rfl) Try.func4 laidOut (by kernel_rfl) (by kernel_rfl) Try.underlying4 rfl
      (ChangeSpec.witness6 (enc := enc) (C := Try.checked) false ⟨#[], #[.agg #[.int .i64 0, .int .i64 0, .int .i64 0, .int .i64 0, .int .i64 0, .int .i64 0, .int .i64 0, .int .i64 0, .float .f64 0, .float .f64 0], .slice none 0 0, .slice none 0 0, .slice none 0 0], []⟩ 8 (by kernel_rfl) (by kernel_rfl) (by kernel_rfl) (by kernel_rfl))
      (fun ds h => match ds, h with | [_, _, _, _], _ => rfl) walk)
#print axioms proved
end Go.Proofs.Ytiabmbkmahlhkaa.postUndisturbed
