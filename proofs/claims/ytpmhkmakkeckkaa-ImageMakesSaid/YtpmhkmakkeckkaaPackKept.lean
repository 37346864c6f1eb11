/-
  What the program's six functions of layer 7 keep, as the laws' walks take it; the laws' own example, given that. Over the program's own text.
-/
import Derived.Test.YtpmhkmakkeckkaaPackRefB
namespace Go.Proofs.Ytpmhkmakkeckkaa
open Go.RowKit

set_option maxRecDepth 100000 in
theorem wordX_in {d p : Int} (h : inW d p) : wordX d p = 65536 * d + p ∧ wordE d p = 0 := ⟨by unfold wordX; rw [if_pos h], by unfold wordE; rw [if_pos h]⟩
set_option maxRecDepth 100000 in
theorem wordX_out {d p : Int} (h : ¬ inW d p) : wordX d p = 0 ∧ wordE d p = 1 := ⟨by unfold wordX; rw [if_neg h], by unfold wordE; rw [if_neg h]⟩
set_option maxRecDepth 100000 in
theorem ref_cells_of (s : ByteArray) (L : List Nat) (n : Nat) (hs : s.size ≤ 1000000) (hL : cellsN (bytesL s) = L) (hn : L.length = n) (w : World) : Calls Try.prog 40 #[.string s] w fun e w' => ∃ oa c, e = .returned (.slice oa n c) ∧ n ≤ c ∧ c ≤ maxLen ∧ ReadN .u32 w' oa L ∧ Below w.heap.size w w' := by
  subst hL hn
  refine (ref_cells w s hs).mono fun _ _ ⟨v, h1, h2, h3⟩ => ?_
  obtain ⟨oa, c, rfl, h4, h5, _, h6⟩ := h2.reads
  exact ⟨oa, c, h1, h4, h5, h6, h3⟩
set_option maxRecDepth 100000 in
theorem back_text (s : ByteArray) : bytesE (cellsN (bytesL s)) (s.size : Int) = 0 ∧ bytesX (cellsN (bytesL s)) (s.size : Int) = s := by
  have hE : bytesE (cellsN (bytesL s)) (s.size : Int) = 0 := by
    unfold bytesE
    have h := cellsN_length (bytesL s)
    rw [bytesL_length] at h
    rw [if_neg (by omega), if_neg (by omega)]
  refine ⟨hE, ?_⟩
  unfold bytesX
  rw [if_pos hE, show ((s.size : Int)).toNat = (bytesL s).length by rw [bytesL_length]; rfl, pack_back (bytesL_lt s), byteText_bytesL]
set_option maxRecDepth 100000 in
theorem cellsN_lt (s : ByteArray) : ∀ x ∈ cellsN (bytesL s), x < 4294967296 := by
  intro x hx
  obtain ⟨j, _, rfl⟩ := List.mem_map.1 hx
  exact cellAt_lt (bytesL_lt s) j
set_option maxRecDepth 100000 in
theorem list_ne {x s : ByteArray} (h : ¬ x = s) : (x.toList == s.toList) = false := by
  rw [beq_eq_false_iff_ne]
  intro e
  apply h
  rw [ByteArray.toList_eq, ByteArray.toList_eq] at e
  exact ByteArray.ext (Array.toList_inj.1 e)

end Go.Proofs.Ytpmhkmakkeckkaa
