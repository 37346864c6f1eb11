/-
  What is taken, as the reference has it, where there are so many cells, or not.
-/
import Derived.Test.YtniejikbbmileaaPoolI
namespace Go.Proofs.Ytniejikbbmileaa
open Go.RowKit

set_option maxHeartbeats 400000 in
theorem ref_take_full (w : World) (B S U : Nat → Int) (C T L n : Int) (k : Nat) (hk : k < 6) (hn : 1 ≤ n) (h0 : 0 ≤ U k) (h1 : U k ≤ S k) (hs : S k ≤ 1000000) (hf : S k - U k < n) :
    Calls Try.prog 13 #[.agg (planC B S C T L), .agg (six U), .int .i64 k, .int .i64 n] w fun e w' => e = .returned (.tuple #[.int .i64 0, .agg (six fun _ => 0), .int .i64 3]) ∧ Below w.heap.size w w' := by
  have d0 : decide ((k : Int) < 0) = false := decide_eq_false (by omega)
  have d1 : decide (5 < (k : Int)) = false := decide_eq_false (by omega)
  have d2 : decide (n < 1) = false := decide_eq_false (by omega)
  have d3 : decide (U k < 0) = false := decide_eq_false (by omega)
  have d4 : decide (S k < U k) = false := decide_eq_false (by omega)
  go_enter Try.func13, Try.ntmps13
  go_upto_region 1 with fail
  obtain ⟨w0, hw0⟩ : ∃ w0, w0 = ((w.alloc (.cells (planC B S C T L) 28)).alloc (.cells (six U) 26)).alloc (.cells #[.int .i64 0, .int .i64 0, .int .i64 0, .int .i64 0, .int .i64 0, .int .i64 0] 26) := ⟨_, rfl⟩
  rw [← hw0]
  have k0 : w0.heap[w.heap.size]? = some (.cells (planC B S C T L) 28 (0, 0)) := by rw [hw0]; exact heap3_0 _ _ _ _
  have k1 : w0.heap[w.heap.size + 1]? = some (.cells (six U) 26 (0, 0)) := by rw [hw0]; exact heap3_1 _ _ _ _
  have k2 : w0.heap[w.heap.size + 1 + 1]? = some (.cells (six fun _ => 0) 26 (0, 0)) := by rw [hw0]; exact heap3_2 _ _ _ _
  have hb : Below w.heap.size w w0 := by rw [hw0]; exact below_al3
  clear hw0
  have hk0 : (k : Int) < 6 := by omega
  have c0 : w0.cell? ⟨w.heap.size, 6 + k, none⟩ = some (.int .i64 (S k)) := (cell_at k0 (6 + k)).trans (planC_size _ _ _ _ _ k hk)
  have c1 : w0.cell? ⟨w.heap.size + 1, k, none⟩ = some (.int .i64 (U k)) := (cell_at k1 k).trans (six_get _ k hk)
  have K2 := Lib.hid k2
  have HB := Lib.hid hb
  clear k0 k1 k2 hb
  go_quiet (fail)
  go_wp2_with fail
  go_quiet (fail)
  go_wp2_with (first
    | (refine wpList_store_row rfl 26 (.tmp 9) (.tmp 49) rfl (w.heap.size + 1 + 1) (six fun _ => 0) rfl rfl 26 (six fun _ => 0) (show (World.drewN _ _).heap[w.heap.size + 1 + 1]? = _ from K2.out) (six_info _) (six_both _ _) (six_one _) ?_)
    | fail)
  refine bodyPost_ret (v := .tuple #[.int .i64 0, .agg (six fun _ => 0), .int .i64 3]) (results_tmp_cell_tmp rfl _ _ (w.heap.size + 1 + 1) _ _ (0, 0) _ _ _ rfl rfl rfl (setRow_heap _ _ _ _ _ _ (show (World.drewN _ _).heap[w.heap.size + 1 + 1]? = _ from K2.out)) Try.underlying26 rfl (six_info _)) rfl ⟨rfl, below_setRow (below_drawn HB.out _) (by omega) _⟩

set_option maxHeartbeats 400000 in
theorem ref_take_ok (w : World) (B S U : Nat → Int) (C T L n : Int) (k : Nat) (hk : k < 6) (hn : 1 ≤ n) (h0 : 0 ≤ U k) (h1 : U k ≤ S k) (hs : S k ≤ 1000000) (hf : n ≤ S k - U k) (hb0 : 0 ≤ B k) (hb1 : B k ≤ 1000000) :
    Calls Try.prog 13 #[.agg (planC B S C T L), .agg (six U), .int .i64 k, .int .i64 n] w fun e w' => e = .returned (.tuple #[.int .i64 (B k + U k), .agg (six (more U k n)), .int .i64 0]) ∧ Below w.heap.size w w' := by
  have d0 : decide ((k : Int) < 0) = false := decide_eq_false (by omega)
  have d1 : decide (5 < (k : Int)) = false := decide_eq_false (by omega)
  have d2 : decide (n < 1) = false := decide_eq_false (by omega)
  have d3 : decide (U k < 0) = false := decide_eq_false (by omega)
  have d4 : decide (S k < U k) = false := decide_eq_false (by omega)
  have d5 : decide (S k - U k < n) = false := decide_eq_false (by omega)
  go_enter Try.func13, Try.ntmps13
  go_upto_region 1 with fail
  obtain ⟨w0, hw0⟩ : ∃ w0, w0 = ((w.alloc (.cells (planC B S C T L) 28)).alloc (.cells (six U) 26)).alloc (.cells #[.int .i64 0, .int .i64 0, .int .i64 0, .int .i64 0, .int .i64 0, .int .i64 0] 26) := ⟨_, rfl⟩
  rw [← hw0]
  have k0 : w0.heap[w.heap.size]? = some (.cells (planC B S C T L) 28 (0, 0)) := by rw [hw0]; exact heap3_0 _ _ _ _
  have k1 : w0.heap[w.heap.size + 1]? = some (.cells (six U) 26 (0, 0)) := by rw [hw0]; exact heap3_1 _ _ _ _
  have k2 : w0.heap[w.heap.size + 1 + 1]? = some (.cells (six fun _ => 0) 26 (0, 0)) := by rw [hw0]; exact heap3_2 _ _ _ _
  have hb : Below w.heap.size w w0 := by rw [hw0]; exact below_al3
  clear hw0
  have hk0 : (k : Int) < 6 := by omega
  have c0 : w0.cell? ⟨w.heap.size, 6 + k, none⟩ = some (.int .i64 (S k)) := (cell_at k0 (6 + k)).trans (planC_size _ _ _ _ _ k hk)
  have c1 : w0.cell? ⟨w.heap.size + 1, k, none⟩ = some (.int .i64 (U k)) := (cell_at k1 k).trans (six_get _ k hk)
  have c2 : w0.cell? ⟨w.heap.size, k, none⟩ = some (.int .i64 (B k)) := (cell_at k0 k).trans (planC_base _ _ _ _ _ k hk)
  have f1 := free_at k1 k
  have K1 := Lib.hid k1
  have K2 := Lib.hid k2
  have HB := Lib.hid hb
  clear k0 k1 k2 hb
  go_quiet (fail)
  rename Nat => m1
  go_wp2_with fail
  go_quiet (fail)
  rename Nat => m2
  go_wp2_with fail
  go_quiet (fail)
  rename Nat => m3
  go_upto_region 7 with fail
  obtain ⟨w4, hw4⟩ : ∃ w4, w4 = (w0.drewN (m1 + m2 + m3)).setCell ⟨w.heap.size + 1, k, none⟩ (.int .i64 (U k + n)) := ⟨_, rfl⟩
  rw [← hw4]
  have k1 : w4.heap[w.heap.size + 1]? = some (.cells (six (more U k n)) 26 (0, 0)) := by
    rw [hw4, heap_setCell_same _ _ _ _ _ _ (show (World.drewN _ _).heap[w.heap.size + 1]? = _ from K1.out), six_set _ (more U k n) k _ hk (fun j _ => rfl)]
  have k2 : w4.heap[w.heap.size + 1 + 1]? = some (.cells (six fun _ => 0) 26 (0, 0)) := by
    rw [hw4, Below.heap_setCell _ _ _ _ (by simp)]; exact K2.out
  have hB4 : Below w.heap.size w w4 := by
    rw [hw4]; exact (below_drawn HB.out _).setCell (by simp) _
  clear hw4 K1 K2 HB c0 c1 c2 f1
  have e0 : w4.cell? ⟨w.heap.size + 1, 0, none⟩ = some (.int .i64 (more U k n 0)) := cell_at k1 0
  have e1 : w4.cell? ⟨w.heap.size + 1, 1, none⟩ = some (.int .i64 (more U k n 1)) := cell_at k1 1
  have e2 : w4.cell? ⟨w.heap.size + 1, 2, none⟩ = some (.int .i64 (more U k n 2)) := cell_at k1 2
  have e3 : w4.cell? ⟨w.heap.size + 1, 3, none⟩ = some (.int .i64 (more U k n 3)) := cell_at k1 3
  have e4 : w4.cell? ⟨w.heap.size + 1, 4, none⟩ = some (.int .i64 (more U k n 4)) := cell_at k1 4
  have e5 : w4.cell? ⟨w.heap.size + 1, 5, none⟩ = some (.int .i64 (more U k n 5)) := cell_at k1 5
  have K2 := Lib.hid k2
  have HB := Lib.hid hB4
  clear k1 k2 hB4
  go_still_tail 3, (by kernel_rfl)
  change wpList _ _ _ _ _ w4.drew
  clear e0 e1 e2 e3 e4 e5
  go_wp2_with (first
    | (refine wpList_store_row rfl 26 (.tmp 9) (.tmp 65) rfl (w.heap.size + 1 + 1) (six (more U k n)) rfl rfl 26 (six fun _ => 0) (show w4.drew.heap[w.heap.size + 1 + 1]? = _ from K2.out) (six_info _) (six_both _ _) (six_one _) ?_)
    | fail)
  refine bodyPost_ret (v := .tuple #[.int .i64 (B k + U k), .agg (six (more U k n)), .int .i64 0]) (results_tmp_cell_tmp rfl _ _ (w.heap.size + 1 + 1) _ _ (0, 0) _ _ _ rfl rfl rfl (setRow_heap _ _ _ _ _ _ (show w4.drew.heap[w.heap.size + 1 + 1]? = _ from K2.out)) Try.underlying26 rfl (six_info _)) rfl ⟨rfl, below_setRow HB.out.drew (by omega) _⟩
end Go.Proofs.Ytniejikbbmileaa
