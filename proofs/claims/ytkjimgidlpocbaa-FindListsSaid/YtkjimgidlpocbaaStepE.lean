/-
  What a Step does to a run, the program being a list of instructions; and the making of such a program. Over the program's own text.
-/
import Derived.Test.YtkjimgidlpocbaaStepD
namespace Go.Proofs.Ytkjimgidlpocbaa
open Go.RowKit

section
variable {w : World} {rb mb cap at_ : Nat} {go : Option Nat} {log : List Int} {wi ma off ov : Bool} {er : Int}
theorem leave_d (h : RunAt w rb mb go cap log at_ wi ma off ov er) (u : FrameMode) :
    CallsD Try.prog 38 #[.pointer (some ⟨rb, 0, none⟩)] u w fun e u' w' => u' = u ∧ (e = .returned (.tuple #[]) ∧ RunAt w' rb mb go cap log at_ false ma (er != 0) ov er ∧ Mod (· = rb) w w') := by
  have h3 := h.c3
  have h5 := h.c5
  have h7 := h.c7
  have f3 := free_at h.rec_ 3
  have f5 := free_at h.rec_ 5
  go_enter_d Try.func38, Try.ntmps38
  go_wp2
  go_end0
  exact ⟨rfl, (h.set 3 _ (at' := at_) (wi' := false) (ma' := ma) (off' := off) (ov' := ov) (er' := er) rfl).set 5 _ rfl, Mod.setCell (S := fun k => k = rb) (Mod.setCell (S := fun k => k = rb) (Mod.refl _ _) (.inr rfl) _) (.inr rfl) _⟩
end

theorem step_over {w : World} {rb mb cb : Nat} {go : Option Nat} {st : St} (h : RM w rb mb cb go false st) (ho : st.over = true) (f : Value) :
    Calls Try.prog 19 #[.pointer (some ⟨rb, 0, none⟩), f] w fun e w' => e = .returned (.bool true) ∧ w = w' := by
  obtain ⟨cap, h1⟩ := h.run
  rw [ho] at h1
  go_enter_defers Try.func19, Try.ntmps19
  go_wp2_with (go_at_call 23; refine (over_at h1).mono ?_; rintro e w' ⟨rfl, rfl⟩)
  exact ⟨_, results_tmp rfl _ _ _, rfl, rfl⟩

end Go.Proofs.Ytkjimgidlpocbaa
