/-
  The words of any text, and which are stop words, are the document's: the given card, of the landed code: the tables as the program's own text lays them, no further condition.
-/
import Derived.Test.YtpfbhafcjipmeaaDoorTokLands
import Derived.Test.YtpfbhafcjipmeaaDoorTokWalkA
import Derived.Test.YtpfbhafcjipmeaaDoorTokArgs
import Derived.Test.YtpfbhafcjipmeaaDoorCards
import Derived.Test.YtpfbhafcjipmeaaDoorTie
import Derived.SevenTiedAt
namespace Go.Proofs.YtpfbhafcjipmeaaDoor.tokenWords
open Go.ChangeShapes Go.WideShapes Go.ChangeAt Go.ChangeMaps Go.RowKit

set_option linter.unusedVariables false in
theorem walk {H : Type} {enc : TypeId × Value → H} (W : World) (args : Array Value) (ds : List (DataW H)) (hin : ArgsIn enc Tryd.prog Tryd.f3.params.toList W args ds) (hL : laidMetH Tryd.prog Rows.tokenWordsRow.laid W) :
    Calls Tryd.prog 3 args W fun e W' => e = .returned (.bool true) ∧ Below W.heap.size W W' := by
  obtain ⟨⟨p, hA, hlt⟩, ⟨base, hval⟩, hsz⟩ := hin
  rw [Tryd.params3] at hA hval hsz
  obtain ⟨v0, vs0, d0, ds0, p0, q0, hargs, rfl, rfl, h0, r0⟩ := trodAll_cons hA
  obtain ⟨rfl, rfl, rfl⟩ := trodAll_nil r0
  obtain rfl : args = #[v0] := by cases args; simp_all
  obtain ⟨a0, rfl, rfl, rfl, w0⟩ := open_string Tryd.underlying9 (hval 0 9 v0 rfl rfl) h0
  exact words_all kept_tok W (of_laid_tok hL) a0 (size_int w0)

set_option maxRecDepth 100000 in
theorem row_holds : Rows.TokenWordsSaid :=
  OpenClaim.holds_of_wide 3 Tryd.f3 rfl rfl rfl rfl rfl rfl rfl ⟨rfl, rfl, rfl, rfl, rfl⟩ rfl rfl rfl rfl rfl (by kernel_rfl) Tryd.func3 (by kernel_rfl)
    (of_decide_eq_true (by kernel_rfl)) (by unfold Func.isWrapper; first | (rw [if_pos (by decide +kernel)]; kernel_rfl) | (rw [if_neg (by decide +kernel)]; exact ⟨rfl, rfl⟩))
    (fun os started H enc _ => law_laid (s := Rows.tokenWordsSpec) Rows.tokenWordsRow.laid own started (by kernel_rfl) Tryd.func3 laidOut (by kernel_rfl) (by kernel_rfl) Tryd.underlying4 rfl
      (ChangeSpec.witness_shaped (enc := enc) (C := Tryd.checked) (os := os) (X := fun w _ => laidMetH Tryd.prog Rows.tokenWordsRow.laid w) false (World.doorLaid Tryd.prog 400 os) #[.string ByteArray.empty] 8 rfl (World.shaped_of_RefB (by kernel_rfl) (by kernel_rfl)) (by kernel_rfl) (by kernel_rfl) (by kernel_rfl) (door_met (n := 400) (fuel := 8) os _ (by kernel_rfl) (by kernel_rfl) (by kernel_rfl) (by kernel_rfl)))
      (fun ds h => match ds, h with | [_], _ => rfl) walk)
set_option maxRecDepth 100000 in
theorem proved : Rows.TokenWordsCardSaid := by
  unfold Rows.TokenWordsCardSaid Rows.tokenWordsCard
  refine Claim7.holds_tied_plain_at .later [] _ true _ false row_holds (fun _ h => by cases h) (by kernel_rfl) (fun _ h => by cases h) tokenWords_row_tie rfl ⟨rfl, rfl⟩ (by kernel_rfl) rfl (fun f fn hf hfn => ?_) (by kernel_rfl)
  obtain rfl : f = 3 := (Option.some.inj ((show Tryd.prog.funcNamed "plover/ploverlaw06.TokenWords" = some 3 by kernel_rfl).symm.trans hf)).symm
  obtain rfl : fn = Tryd.f3 := (Option.some.inj (Tryd.func3.symm.trans hfn)).symm
  refine ⟨by kernel_rfl, fun j t ht => ?_⟩
  have hall : (Tryd.f3.params.toList.all fun u => !Tryd.prog.wantsStandIn u) = true := by kernel_rfl
  have hm : t ∈ Tryd.f3.params.toList := Array.mem_toList_iff.2 (Array.mem_of_getElem? ht)
  exact (show Tryd.prog.wantsStandIn t = false by simpa using List.all_eq_true.1 hall t hm)
#print axioms proved
end Go.Proofs.YtpfbhafcjipmeaaDoor.tokenWords
