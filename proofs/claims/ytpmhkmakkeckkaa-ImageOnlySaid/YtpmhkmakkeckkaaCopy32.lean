/-
  The reference of layer 1: a copy of a row of numbers. Over the program's own text.
-/
import Derived.Test.YtpmhkmakkeckkaaSame32
namespace Go.Proofs.Ytpmhkmakkeckkaa
open Go.RowKit

set_option maxRecDepth 100000 in
set_option maxHeartbeats 1000000 in
theorem copy32_at (w : World) (oa : Option Addr) (c n : Nat) (L : List Nat) (en : L.length = n) (hl : n ≤ 1000000) (ha : ReadN .u32 w oa L) :
    Calls Try.prog 15 #[.slice oa n c] w fun e w' => e = .returned (.slice (some ⟨w.heap.size, 0, none⟩) n n) ∧ ReadN .u32 w' (some ⟨w.heap.size, 0, none⟩) L ∧ Below w.heap.size w w' := by
  have hmk := make_u32 n hl
  have HA := Lib.hid (ha.alloc (.cells (numC .u32 (List.replicate n 0)).toArray 47))
  have HO := Lib.hid (numC_one .u32 L)
  have HN := Lib.hid en
  clear ha en
  have H1 := Lib.hid (show (numC .u32 L).length = Nat.min n n by rw [numC_length, HN.out]; simp)
  have H3 := Lib.hid (show 0 + (numC .u32 L).length ≤ (numC .u32 (List.replicate n 0)).length by rw [numC_length, numC_length, HN.out]; simp)
  have H2 := Lib.hid (show 0 < (numC .u32 L).length → ∃ ad, oa = some ad ∧ ∀ j v, (numC .u32 L)[j]? = some v → (w.alloc (.cells (numC .u32 (List.replicate n 0)).toArray 47)).cell? (ad.add j) = some v from by
    intro hp
    rw [numC_length] at hp
    obtain ⟨g, o, e, _⟩ := HA.out 0 _ (List.getElem?_eq_getElem hp)
    refine ⟨⟨g, o, none⟩, e, fun j v hj => ?_⟩
    unfold numC at hj
    rw [List.getElem?_map] at hj
    obtain ⟨x, hx, rfl⟩ := Option.map_eq_some_iff.1 hj
    obtain ⟨g2, o2, e2, hc⟩ := HA.out j x hx
    cases e.symm.trans e2
    rw [Addr.add_lit]
    exact hc)
  go_enter Try.func15, Try.ntmps15
  go_wp2_with (with_reducible refine wpList_copy_splice rfl (.tmp 7) (.tmp 8) 26 26 rfl 47 Try.underlying26 size_u32 _ _ _ _ _ _ rfl rfl w.heap.size 0 (numC .u32 (List.replicate n 0)) 47 (heap_alloc_new w _) (numC .u32 L) H1.out (fun hp => ⟨rfl, H2.out hp⟩) H3.out HO.out w.heap.size w (low_new (Below.refl _ _)) (Nat.le_refl _) ?_)
  intro w2 hg2 hb2
  have HG := Lib.hid hg2.out
  have HB := Lib.hid hb2
  clear hg2 hb2
  go_wp2_with fail
  go_ret
  refine ⟨rfl, fun j x hj => ⟨_, _, rfl, ?_⟩, HB.out⟩
  rw [Lib.cell_of_heap HG.out]
  have e : splice (numC .u32 (List.replicate n 0)) 0 (numC .u32 L) = numC .u32 L := by
    unfold splice
    rw [List.take_zero, List.nil_append, List.drop_eq_nil_of_le (by rw [numC_length, numC_length, HN.out]; simp), List.append_nil]
  rw [e]
  simpa using numC_get hj
end Go.Proofs.Ytpmhkmakkeckkaa
