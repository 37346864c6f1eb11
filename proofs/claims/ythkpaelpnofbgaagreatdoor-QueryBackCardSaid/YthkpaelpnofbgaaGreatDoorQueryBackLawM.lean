/-
  What is shown of a query is read as it; what is read may be, and is shown again, unless that is too long: the statement itself, of the landed code, with no further condition: the tables and the library's errors as the program's own text lays them.
-/
import Derived.Test.YthkpaelpnofbgaaGreatDoorQbC01
import Derived.Test.YthkpaelpnofbgaaGreatDoorQsC20
import Derived.Test.YthkpaelpnofbgaaGreatDoorQsC07
import Derived.Test.YthkpaelpnofbgaaGreatDoorQsC09
import Derived.Test.YthkpaelpnofbgaaGreatDoorCards
import Derived.Test.YthkpaelpnofbgaaGreatDoorTie
import Derived.SevenTiedAt
namespace Go.Proofs.YthkpaelpnofbgaaGreatDoor.queryBack
open Go.ChangeShapes Go.WideShapes Go.ChangeAt Go.ChangeMaps Go.RowKit Go.Deep

set_option maxRecDepth 100000 in
set_option linter.unusedVariables false in
theorem walk {H : Type} {enc : TypeId × Value → H} (W : World) (args : Array Value) (ds : List (DataW H)) (hin : ArgsIn enc Tryz.prog Tryz.f4.params.toList W args ds) (hL : laidMetH Tryz.prog Rows.queryBackRow.laid W) :
    Calls Tryz.prog 4 args W fun e W' => e = .returned (.bool true) ∧ Below W.heap.size W W' := by
  obtain ⟨⟨p, hA, hlt⟩, ⟨base, hval⟩, hsz⟩ := hin
  rw [Tryz.params4] at hA hval hsz
  obtain ⟨v0, vs0, d0, ds0, p0, q0, hargs, rfl, rfl, h0, r0⟩ := trodAll_cons hA
  obtain ⟨v1, vs1, d1, ds1, p1, q1, rfl, rfl, rfl, h1, r1⟩ := trodAll_cons r0
  obtain ⟨rfl, rfl, rfl⟩ := trodAll_nil r1
  obtain rfl : args = #[v0, v1] := by cases args; simp_all
  obtain ⟨x0,rr0,lim0,ord0,rfl,hx0,hre0⟩ := open_query (sz_at 0 hsz rfl rfl) (hval 0 27 v0 rfl rfl) h0
  obtain ⟨a1, rfl, rfl, rfl, w1⟩ := open_string Tryz.underlying9 (hval 1 9 v1 rfl rfl) h1
  exact back17 W (of_laid_qry hL) x0 rr0 lim0 ord0 hx0 hre0 a1 (size_int w1)

set_option maxRecDepth 100000 in
set_option maxHeartbeats 8000000 in
theorem row_holds : Rows.QueryBackSaid :=
  OpenClaim.holds_of_wide 4 Tryz.f4 rfl rfl rfl rfl rfl rfl rfl ⟨rfl, rfl, rfl, rfl, rfl⟩ rfl rfl rfl rfl rfl (by as_aux_lemma => kernel_rfl) Tryz.func4 (by as_aux_lemma => kernel_rfl)
    (of_decide_eq_true (by as_aux_lemma => kernel_rfl)) (by unfold Func.isWrapper; first | (rw [if_pos (by decide +kernel)]; as_aux_lemma => kernel_rfl) | (rw [if_neg (by decide +kernel)]; exact ⟨rfl, rfl⟩))
    (fun os started H enc _ => law_laid (s := Rows.queryBackSpec) Rows.queryBackRow.laid own started (by as_aux_lemma => kernel_rfl) Tryz.func4 laidOut (by as_aux_lemma => kernel_rfl) (by as_aux_lemma => kernel_rfl) Tryz.underlying4 rfl
      (ChangeSpec.witness_shaped (enc := enc) (C := Tryz.checked) (os := os) (X := fun w _ => laidMetH Tryz.prog Rows.queryBackRow.laid w) false (World.doorLaid Tryz.prog 400 os) #[.agg #[.int .i64 0, .int .u8 0, .slice none 0 0, .slice none 0 0, .int .i64 0, .int .i64 0], .string ByteArray.empty] 8 rfl (World.shaped_of_RefB (by as_aux_lemma => kernel_rfl) (by as_aux_lemma => kernel_rfl)) (by as_aux_lemma => kernel_rfl) (by as_aux_lemma => kernel_rfl) (by as_aux_lemma => kernel_rfl) (door_met (n := 400) (fuel := 8) os _ (by as_aux_lemma => kernel_rfl) (by as_aux_lemma => kernel_rfl) (by as_aux_lemma => kernel_rfl) (by as_aux_lemma => kernel_rfl)))
      (fun ds h => match ds, h with | [_, _], _ => rfl) walk)
set_option maxRecDepth 100000 in
set_option maxHeartbeats 8000000 in
theorem proved : Rows.QueryBackCardSaid := by
  unfold Rows.QueryBackCardSaid Rows.queryBackCard
  refine Claim7.holds_tied_plain_at .later [] _ true _ true row_holds (fun _ h => by cases h) (by as_aux_lemma => kernel_rfl) (fun _ h => by cases h) queryBack_row_tie rfl ⟨rfl, rfl⟩ (by as_aux_lemma => kernel_rfl) rfl (fun f fn hf hfn => ?_) (by as_aux_lemma => kernel_rfl)
  obtain rfl : f = 4 := (Option.some.inj ((show Tryz.prog.funcNamed "plover/ploverlaw17.QueryBack" = some 4 by as_aux_lemma => kernel_rfl).symm.trans hf)).symm
  obtain rfl : fn = Tryz.f4 := (Option.some.inj (Tryz.func4.symm.trans hfn)).symm
  refine ⟨by kernel_rfl, fun j t ht => ?_⟩
  have hall : (Tryz.f4.params.toList.all fun u => !Tryz.prog.wantsStandIn u) = true := by kernel_rfl
  have hm : t ∈ Tryz.f4.params.toList := Array.mem_toList_iff.2 (Array.mem_of_getElem? ht)
  exact (show Tryz.prog.wantsStandIn t = false by simpa using List.all_eq_true.1 hall t hm)
#print axioms proved
end Go.Proofs.YthkpaelpnofbgaaGreatDoor.queryBack
