/-
  What a rune folds to folds to itself, and is of the same class: the given card, of the landed code: the tables as the program's own text lays them, no further condition.
-/
import Derived.Test.YthgnklbcomhalaaDoorFoldLands
import Derived.Test.YthgnklbcomhalaaDoorCards
import Derived.Test.YthgnklbcomhalaaDoorTie
import Derived.SevenTiedAt
namespace Go.Proofs.YthgnklbcomhalaaDoor.foldOnce
open Go.ChangeShapes Go.WideShapes Go.ChangeAt Go.ChangeMaps Go.RowKit

set_option linter.unusedVariables false in
theorem walk {H : Type} {enc : TypeId × Value → H} (W : World) (args : Array Value) (ds : List (DataW H)) (hin : ArgsIn enc Tryd.prog Tryd.f5.params.toList W args ds) (hL : laidMetH Tryd.prog Rows.foldOnceRow.laid W) :
    Calls Tryd.prog 5 args W fun e W' => e = .returned (.bool true) ∧ Below W.heap.size W W' := by
  obtain ⟨⟨p, hA, hlt⟩, ⟨base, hval⟩, hsz⟩ := hin
  rw [Tryd.params5] at hA hval hsz
  obtain ⟨v0, vs0, d0, ds0, p0, q0, hargs, rfl, rfl, h0, r0⟩ := trodAll_cons hA
  obtain ⟨rfl, rfl, rfl⟩ := trodAll_nil r0
  obtain rfl : args = #[v0] := by cases args; simp_all
  obtain ⟨a0, rfl, rfl, rfl, w0⟩ := open_int Tryd.underlying21 (hval 0 21 v0 rfl rfl) h0
  exact once_all kept W (of_laid hL) a0 (i32_lo w0) (i32_hi w0)

set_option maxRecDepth 100000 in
theorem row_holds : Rows.FoldOnceSaid :=
  OpenClaim.holds_of_wide 5 Tryd.f5 rfl rfl rfl rfl rfl rfl rfl ⟨rfl, rfl, rfl, rfl, rfl⟩ rfl rfl rfl rfl rfl (by kernel_rfl) Tryd.func5 (by kernel_rfl)
    (of_decide_eq_true (by kernel_rfl)) (by unfold Func.isWrapper; first | (rw [if_pos (by decide +kernel)]; kernel_rfl) | (rw [if_neg (by decide +kernel)]; exact ⟨rfl, rfl⟩))
    (fun os started H enc _ => law_laid (s := Rows.foldOnceSpec) Rows.foldOnceRow.laid own started (by kernel_rfl) Tryd.func5 laidOut (by kernel_rfl) (by kernel_rfl) Tryd.underlying4 rfl
      (ChangeSpec.witness_shaped (enc := enc) (C := Tryd.checked) (os := os) (X := fun w _ => laidMetH Tryd.prog Rows.foldOnceRow.laid w) false (World.doorLaid Tryd.prog 400 os) #[.int .i32 0] 8 rfl (World.shaped_of_RefB (by kernel_rfl) (by kernel_rfl)) (by kernel_rfl) (by kernel_rfl) (by kernel_rfl) (door_met (n := 400) (fuel := 8) os _ (by kernel_rfl) (by kernel_rfl) (by kernel_rfl) (by kernel_rfl)))
      (fun ds h => match ds, h with | [_], _ => rfl) walk)
set_option maxRecDepth 100000 in
theorem proved : Rows.FoldOnceCardSaid := by
  unfold Rows.FoldOnceCardSaid Rows.foldOnceCard
  refine Claim7.holds_tied_plain_at .later [] _ true _ false row_holds (fun _ h => by cases h) (by kernel_rfl) (fun _ h => by cases h) foldOnce_row_tie rfl ⟨rfl, rfl⟩ (by kernel_rfl) rfl (fun f fn hf hfn => ?_) (by kernel_rfl)
  obtain rfl : f = 5 := (Option.some.inj ((show Tryd.prog.funcNamed "plover/ploverlaw05.FoldOnce" = some 5 by kernel_rfl).symm.trans hf)).symm
  obtain rfl : fn = Tryd.f5 := (Option.some.inj (Tryd.func5.symm.trans hfn)).symm
  refine ⟨by kernel_rfl, fun j t ht => ?_⟩
  have hall : (Tryd.f5.params.toList.all fun u => !Tryd.prog.wantsStandIn u) = true := by kernel_rfl
  have hm : t ∈ Tryd.f5.params.toList := Array.mem_toList_iff.2 (Array.mem_of_getElem? ht)
  exact (show Tryd.prog.wantsStandIn t = false by simpa using List.all_eq_true.1 hall t hm)
#print axioms proved
end Go.Proofs.YthgnklbcomhalaaDoor.foldOnce
