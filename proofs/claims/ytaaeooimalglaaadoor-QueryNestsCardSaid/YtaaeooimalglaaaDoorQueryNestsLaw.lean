/-
  A word in brackets, behind signs that turn it, is read as long as there are no more of these than may be: the statement itself, of the landed code, with no further condition: the tables and the library's errors as the program's own text lays them.
-/
import Derived.Test.YtaaeooimalglaaaDoorQryNestsM
import Derived.Test.YtaaeooimalglaaaDoorArgs
import Derived.Test.YtaaeooimalglaaaDoorLaid
import Derived.Test.YtaaeooimalglaaaDoorFrame
import Derived.Test.YtaaeooimalglaaaDoorCards
import Derived.Test.YtaaeooimalglaaaDoorTie
import Derived.SevenTiedAt
namespace Go.Proofs.YtaaeooimalglaaaDoor.queryNests
open Go.ChangeShapes Go.WideShapes Go.ChangeAt Go.ChangeMaps Go.RowKit Go.Deep

set_option maxRecDepth 100000 in
set_option linter.unusedVariables false in
theorem walk {H : Type} {enc : TypeId × Value → H} (W : World) (args : Array Value) (ds : List (DataW H)) (hin : ArgsIn enc Tryd.prog Tryd.f5.params.toList W args ds) (hL : laidMetH Tryd.prog Rows.queryNestsRow.laid W) :
    Calls Tryd.prog 5 args W fun e W' => e = .returned (.bool true) ∧ Below W.heap.size W W' := by
  obtain ⟨⟨p, hA, hlt⟩, ⟨base, hval⟩, hsz⟩ := hin
  rw [Tryd.params5] at hA hval hsz
  obtain ⟨v0, vs0, d0, ds0, p0, q0, hargs, rfl, rfl, h0, r0⟩ := trodAll_cons hA
  obtain ⟨v1, vs1, d1, ds1, p1, q1, rfl, rfl, rfl, h1, r1⟩ := trodAll_cons r0
  obtain ⟨v2, vs2, d2, ds2, p2, q2, rfl, rfl, rfl, h2, r2⟩ := trodAll_cons r1
  obtain ⟨rfl, rfl, rfl⟩ := trodAll_nil r2
  obtain rfl : args = #[v0, v1, v2] := by cases args; simp_all
  obtain ⟨a0, rfl, rfl, rfl, w0⟩ := open_int Tryd.underlying5 (hval 0 5 v0 rfl rfl) h0
  obtain ⟨a1, rfl, rfl, rfl, w1⟩ := open_int Tryd.underlying5 (hval 1 5 v1 rfl rfl) h1
  obtain ⟨a2, rfl, rfl, rfl, w2⟩ := open_string Tryd.underlying9 (hval 2 9 v2 rfl rfl) h2
  exact nests17 W (of_laid_qry hL) a0 a1 (u8_lo w0) (u8_hi w0) (u8_lo w1) (u8_hi w1) a2 (size_int w2)

set_option maxRecDepth 100000 in
set_option maxHeartbeats 8000000 in
theorem row_holds : Rows.QueryNestsSaid :=
  OpenClaim.holds_of_wide 5 Tryd.f5 rfl rfl rfl rfl rfl rfl rfl ⟨rfl, rfl, rfl, rfl, rfl⟩ rfl rfl rfl rfl rfl (by as_aux_lemma => kernel_rfl) Tryd.func5 (by as_aux_lemma => kernel_rfl)
    (of_decide_eq_true (by as_aux_lemma => kernel_rfl)) (by unfold Func.isWrapper; first | (rw [if_pos (by decide +kernel)]; as_aux_lemma => kernel_rfl) | (rw [if_neg (by decide +kernel)]; exact ⟨rfl, rfl⟩))
    (fun os started H enc _ => law_laid (s := Rows.queryNestsSpec) Rows.queryNestsRow.laid own started (by as_aux_lemma => kernel_rfl) Tryd.func5 laidOut (by as_aux_lemma => kernel_rfl) (by as_aux_lemma => kernel_rfl) Tryd.underlying4 rfl
      (ChangeSpec.witness_shaped (enc := enc) (C := Tryd.checked) (os := os) (X := fun w _ => laidMetH Tryd.prog Rows.queryNestsRow.laid w) false (World.doorLaid Tryd.prog 400 os) #[.int .u8 0, .int .u8 0, .string ByteArray.empty] 8 rfl (World.shaped_of_RefB (by as_aux_lemma => kernel_rfl) (by as_aux_lemma => kernel_rfl)) (by as_aux_lemma => kernel_rfl) (by as_aux_lemma => kernel_rfl) (by as_aux_lemma => kernel_rfl) (door_met (n := 400) (fuel := 8) os _ (by as_aux_lemma => kernel_rfl) (by as_aux_lemma => kernel_rfl) (by as_aux_lemma => kernel_rfl) (by as_aux_lemma => kernel_rfl)))
      (fun ds h => match ds, h with | [_, _, _], _ => rfl) walk)
set_option maxRecDepth 100000 in
set_option maxHeartbeats 8000000 in
theorem proved : Rows.QueryNestsCardSaid := by
  unfold Rows.QueryNestsCardSaid Rows.queryNestsCard
  refine Claim7.holds_tied_plain_at .later [] _ true _ true row_holds (fun _ h => by cases h) (by as_aux_lemma => kernel_rfl) (fun _ h => by cases h) queryNests_row_tie rfl ⟨rfl, rfl⟩ (by as_aux_lemma => kernel_rfl) rfl (fun f fn hf hfn => ?_) (by as_aux_lemma => kernel_rfl)
  obtain rfl : f = 5 := (Option.some.inj ((show Tryd.prog.funcNamed "plover/ploverlaw17.QueryNests" = some 5 by as_aux_lemma => kernel_rfl).symm.trans hf)).symm
  obtain rfl : fn = Tryd.f5 := (Option.some.inj (Tryd.func5.symm.trans hfn)).symm
  refine ⟨by kernel_rfl, fun j t ht => ?_⟩
  have hall : (Tryd.f5.params.toList.all fun u => !Tryd.prog.wantsStandIn u) = true := by kernel_rfl
  have hm : t ∈ Tryd.f5.params.toList := Array.mem_toList_iff.2 (Array.mem_of_getElem? ht)
  exact (show Tryd.prog.wantsStandIn t = false by simpa using List.all_eq_true.1 hall t hm)
#print axioms proved
end Go.Proofs.YtaaeooimalglaaaDoor.queryNests
