/-
  What is taken, as the reference has it.
-/
import Derived.Test.YtniejikbbmileaaPoolH
namespace Go.Proofs.Ytniejikbbmileaa
open Go.RowKit

set_option maxHeartbeats 400000 in
theorem ref_take_k0 (w : World) (B S U : Nat → Int) (C T L n : Int) (k : Int) (hk : k < 0) :
    Calls Try.prog 13 #[.agg (planC B S C T L), .agg (six U), .int .i64 k, .int .i64 n] w fun e w' => e = .returned (.tuple #[.int .i64 0, .agg (six fun _ => 0), .int .i64 1]) ∧ Below w.heap.size w w' := by
  have d0 : decide (k < 0) = true := decide_eq_true hk
  go_enter Try.func13, Try.ntmps13
  go_upto_region 1 with fail
  obtain ⟨w0, hw0⟩ : ∃ w0, w0 = ((w.alloc (.cells (planC B S C T L) 28)).alloc (.cells (six U) 26)).alloc (.cells #[.int .i64 0, .int .i64 0, .int .i64 0, .int .i64 0, .int .i64 0, .int .i64 0] 26) := ⟨_, rfl⟩
  rw [← hw0]
  have k0 : w0.heap[w.heap.size]? = some (.cells (planC B S C T L) 28 (0, 0)) := by rw [hw0]; exact heap3_0 _ _ _ _
  have k1 : w0.heap[w.heap.size + 1]? = some (.cells (six U) 26 (0, 0)) := by rw [hw0]; exact heap3_1 _ _ _ _
  have k2 : w0.heap[w.heap.size + 1 + 1]? = some (.cells (six fun _ => 0) 26 (0, 0)) := by rw [hw0]; exact heap3_2 _ _ _ _
  have hb : Below w.heap.size w w0 := by rw [hw0]; exact below_al3
  clear hw0
  have K2 := Lib.hid k2
  have HB := Lib.hid hb
  clear k0 k1 k2 hb
  go_quiet (fail)
  go_wp2_with (first
    | (refine wpList_store_row rfl 26 (.tmp 9) (.tmp 38) rfl (w.heap.size + 1 + 1) (six fun _ => 0) rfl rfl 26 (six fun _ => 0) (show (World.drewN _ _).heap[w.heap.size + 1 + 1]? = _ from K2.out) (six_info _) (six_both _ _) (six_one _) ?_)
    | fail)
  refine bodyPost_ret (v := .tuple #[.int .i64 0, .agg (six fun _ => 0), .int .i64 1]) (results_tmp_cell_tmp rfl _ _ (w.heap.size + 1 + 1) _ _ (0, 0) _ _ _ rfl rfl rfl (setRow_heap _ _ _ _ _ _ (show (World.drewN _ _).heap[w.heap.size + 1 + 1]? = _ from K2.out)) Try.underlying26 rfl (six_info _)) rfl ⟨rfl, below_setRow (below_drawn HB.out _) (by omega) _⟩
set_option maxHeartbeats 400000 in
theorem ref_take_k6 (w : World) (B S U : Nat → Int) (C T L n : Int) (k : Int) (hk : 6 ≤ k) :
    Calls Try.prog 13 #[.agg (planC B S C T L), .agg (six U), .int .i64 k, .int .i64 n] w fun e w' => e = .returned (.tuple #[.int .i64 0, .agg (six fun _ => 0), .int .i64 1]) ∧ Below w.heap.size w w' := by
  have d0 : decide (k < 0) = false := decide_eq_false (by omega)
  have d1 : 5 < k := by omega
  go_enter Try.func13, Try.ntmps13
  go_upto_region 1 with fail
  obtain ⟨w0, hw0⟩ : ∃ w0, w0 = ((w.alloc (.cells (planC B S C T L) 28)).alloc (.cells (six U) 26)).alloc (.cells #[.int .i64 0, .int .i64 0, .int .i64 0, .int .i64 0, .int .i64 0, .int .i64 0] 26) := ⟨_, rfl⟩
  rw [← hw0]
  have k0 : w0.heap[w.heap.size]? = some (.cells (planC B S C T L) 28 (0, 0)) := by rw [hw0]; exact heap3_0 _ _ _ _
  have k1 : w0.heap[w.heap.size + 1]? = some (.cells (six U) 26 (0, 0)) := by rw [hw0]; exact heap3_1 _ _ _ _
  have k2 : w0.heap[w.heap.size + 1 + 1]? = some (.cells (six fun _ => 0) 26 (0, 0)) := by rw [hw0]; exact heap3_2 _ _ _ _
  have hb : Below w.heap.size w w0 := by rw [hw0]; exact below_al3
  clear hw0
  have K2 := Lib.hid k2
  have HB := Lib.hid hb
  clear k0 k1 k2 hb
  go_quiet (fail)
  go_wp2_with (first
    | (refine wpList_store_row rfl 26 (.tmp 9) (.tmp 38) rfl (w.heap.size + 1 + 1) (six fun _ => 0) rfl rfl 26 (six fun _ => 0) (show (World.drewN _ _).heap[w.heap.size + 1 + 1]? = _ from K2.out) (six_info _) (six_both _ _) (six_one _) ?_)
    | fail)
  refine bodyPost_ret (v := .tuple #[.int .i64 0, .agg (six fun _ => 0), .int .i64 1]) (results_tmp_cell_tmp rfl _ _ (w.heap.size + 1 + 1) _ _ (0, 0) _ _ _ rfl rfl rfl (setRow_heap _ _ _ _ _ _ (show (World.drewN _ _).heap[w.heap.size + 1 + 1]? = _ from K2.out)) Try.underlying26 rfl (six_info _)) rfl ⟨rfl, below_setRow (below_drawn HB.out _) (by omega) _⟩
set_option maxHeartbeats 400000 in
theorem ref_take_n (w : World) (B S U : Nat → Int) (C T L n : Int) (k : Nat) (hk : k < 6) (hn : n < 1) :
    Calls Try.prog 13 #[.agg (planC B S C T L), .agg (six U), .int .i64 k, .int .i64 n] w fun e w' => e = .returned (.tuple #[.int .i64 0, .agg (six fun _ => 0), .int .i64 1]) ∧ Below w.heap.size w w' := by
  have d0 : decide ((k : Int) < 0) = false := decide_eq_false (by omega)
  have d1 : decide (5 < (k : Int)) = false := decide_eq_false (by omega)
  go_enter Try.func13, Try.ntmps13
  go_upto_region 1 with fail
  obtain ⟨w0, hw0⟩ : ∃ w0, w0 = ((w.alloc (.cells (planC B S C T L) 28)).alloc (.cells (six U) 26)).alloc (.cells #[.int .i64 0, .int .i64 0, .int .i64 0, .int .i64 0, .int .i64 0, .int .i64 0] 26) := ⟨_, rfl⟩
  rw [← hw0]
  have k0 : w0.heap[w.heap.size]? = some (.cells (planC B S C T L) 28 (0, 0)) := by rw [hw0]; exact heap3_0 _ _ _ _
  have k1 : w0.heap[w.heap.size + 1]? = some (.cells (six U) 26 (0, 0)) := by rw [hw0]; exact heap3_1 _ _ _ _
  have k2 : w0.heap[w.heap.size + 1 + 1]? = some (.cells (six fun _ => 0) 26 (0, 0)) := by rw [hw0]; exact heap3_2 _ _ _ _
  have hb : Below w.heap.size w w0 := by rw [hw0]; exact below_al3
  clear hw0
  have K2 := Lib.hid k2
  have HB := Lib.hid hb
  clear k0 k1 k2 hb
  go_quiet (fail)
  go_wp2_with (first
    | (refine wpList_store_row rfl 26 (.tmp 9) (.tmp 38) rfl (w.heap.size + 1 + 1) (six fun _ => 0) rfl rfl 26 (six fun _ => 0) (show (World.drewN _ _).heap[w.heap.size + 1 + 1]? = _ from K2.out) (six_info _) (six_both _ _) (six_one _) ?_)
    | fail)
  refine bodyPost_ret (v := .tuple #[.int .i64 0, .agg (six fun _ => 0), .int .i64 1]) (results_tmp_cell_tmp rfl _ _ (w.heap.size + 1 + 1) _ _ (0, 0) _ _ _ rfl rfl rfl (setRow_heap _ _ _ _ _ _ (show (World.drewN _ _).heap[w.heap.size + 1 + 1]? = _ from K2.out)) Try.underlying26 rfl (six_info _)) rfl ⟨rfl, below_setRow (below_drawn HB.out _) (by omega) _⟩
set_option maxHeartbeats 400000 in
theorem ref_take_u0 (w : World) (B S U : Nat → Int) (C T L n : Int) (k : Nat) (hk : k < 6) (hn : 1 ≤ n) (hu : U k < 0) :
    Calls Try.prog 13 #[.agg (planC B S C T L), .agg (six U), .int .i64 k, .int .i64 n] w fun e w' => e = .returned (.tuple #[.int .i64 0, .agg (six fun _ => 0), .int .i64 1]) ∧ Below w.heap.size w w' := by
  have d0 : decide ((k : Int) < 0) = false := decide_eq_false (by omega)
  have d1 : decide (5 < (k : Int)) = false := decide_eq_false (by omega)
  have d2 : decide (n < 1) = false := decide_eq_false (by omega)
  go_enter Try.func13, Try.ntmps13
  go_upto_region 1 with fail
  obtain ⟨w0, hw0⟩ : ∃ w0, w0 = ((w.alloc (.cells (planC B S C T L) 28)).alloc (.cells (six U) 26)).alloc (.cells #[.int .i64 0, .int .i64 0, .int .i64 0, .int .i64 0, .int .i64 0, .int .i64 0] 26) := ⟨_, rfl⟩
  rw [← hw0]
  have k0 : w0.heap[w.heap.size]? = some (.cells (planC B S C T L) 28 (0, 0)) := by rw [hw0]; exact heap3_0 _ _ _ _
  have k1 : w0.heap[w.heap.size + 1]? = some (.cells (six U) 26 (0, 0)) := by rw [hw0]; exact heap3_1 _ _ _ _
  have k2 : w0.heap[w.heap.size + 1 + 1]? = some (.cells (six fun _ => 0) 26 (0, 0)) := by rw [hw0]; exact heap3_2 _ _ _ _
  have hb : Below w.heap.size w w0 := by rw [hw0]; exact below_al3
  clear hw0
  have hk0 : (k : Int) < 6 := by omega
  have c0 : w0.cell? ⟨w.heap.size, 6 + k, none⟩ = some (.int .i64 (S k)) := (cell_at k0 (6 + k)).trans (planC_size _ _ _ _ _ k hk)
  have c1 : w0.cell? ⟨w.heap.size + 1, k, none⟩ = some (.int .i64 (U k)) := (cell_at k1 k).trans (six_get _ k hk)
  have K2 := Lib.hid k2
  have HB := Lib.hid hb
  clear k0 k1 k2 hb
  go_quiet (fail)
  go_wp2_with (first
    | (refine wpList_store_row rfl 26 (.tmp 9) (.tmp 38) rfl (w.heap.size + 1 + 1) (six fun _ => 0) rfl rfl 26 (six fun _ => 0) (show (World.drewN _ _).heap[w.heap.size + 1 + 1]? = _ from K2.out) (six_info _) (six_both _ _) (six_one _) ?_)
    | fail)
  refine bodyPost_ret (v := .tuple #[.int .i64 0, .agg (six fun _ => 0), .int .i64 1]) (results_tmp_cell_tmp rfl _ _ (w.heap.size + 1 + 1) _ _ (0, 0) _ _ _ rfl rfl rfl (setRow_heap _ _ _ _ _ _ (show (World.drewN _ _).heap[w.heap.size + 1 + 1]? = _ from K2.out)) Try.underlying26 rfl (six_info _)) rfl ⟨rfl, below_setRow (below_drawn HB.out _) (by omega) _⟩
set_option maxHeartbeats 400000 in
theorem ref_take_us (w : World) (B S U : Nat → Int) (C T L n : Int) (k : Nat) (hk : k < 6) (hn : 1 ≤ n) (hu : 0 ≤ U k) (hus : S k < U k) :
    Calls Try.prog 13 #[.agg (planC B S C T L), .agg (six U), .int .i64 k, .int .i64 n] w fun e w' => e = .returned (.tuple #[.int .i64 0, .agg (six fun _ => 0), .int .i64 1]) ∧ Below w.heap.size w w' := by
  have d0 : decide ((k : Int) < 0) = false := decide_eq_false (by omega)
  have d1 : decide (5 < (k : Int)) = false := decide_eq_false (by omega)
  have d2 : decide (n < 1) = false := decide_eq_false (by omega)
  have d3 : decide (U k < 0) = false := decide_eq_false (by omega)
  go_enter Try.func13, Try.ntmps13
  go_upto_region 1 with fail
  obtain ⟨w0, hw0⟩ : ∃ w0, w0 = ((w.alloc (.cells (planC B S C T L) 28)).alloc (.cells (six U) 26)).alloc (.cells #[.int .i64 0, .int .i64 0, .int .i64 0, .int .i64 0, .int .i64 0, .int .i64 0] 26) := ⟨_, rfl⟩
  rw [← hw0]
  have k0 : w0.heap[w.heap.size]? = some (.cells (planC B S C T L) 28 (0, 0)) := by rw [hw0]; exact heap3_0 _ _ _ _
  have k1 : w0.heap[w.heap.size + 1]? = some (.cells (six U) 26 (0, 0)) := by rw [hw0]; exact heap3_1 _ _ _ _
  have k2 : w0.heap[w.heap.size + 1 + 1]? = some (.cells (six fun _ => 0) 26 (0, 0)) := by rw [hw0]; exact heap3_2 _ _ _ _
  have hb : Below w.heap.size w w0 := by rw [hw0]; exact below_al3
  clear hw0
  have hk0 : (k : Int) < 6 := by omega
  have c0 : w0.cell? ⟨w.heap.size, 6 + k, none⟩ = some (.int .i64 (S k)) := (cell_at k0 (6 + k)).trans (planC_size _ _ _ _ _ k hk)
  have c1 : w0.cell? ⟨w.heap.size + 1, k, none⟩ = some (.int .i64 (U k)) := (cell_at k1 k).trans (six_get _ k hk)
  have K2 := Lib.hid k2
  have HB := Lib.hid hb
  clear k0 k1 k2 hb
  go_quiet (fail)
  go_wp2_with (first
    | (refine wpList_store_row rfl 26 (.tmp 9) (.tmp 38) rfl (w.heap.size + 1 + 1) (six fun _ => 0) rfl rfl 26 (six fun _ => 0) (show (World.drewN _ _).heap[w.heap.size + 1 + 1]? = _ from K2.out) (six_info _) (six_both _ _) (six_one _) ?_)
    | fail)
  refine bodyPost_ret (v := .tuple #[.int .i64 0, .agg (six fun _ => 0), .int .i64 1]) (results_tmp_cell_tmp rfl _ _ (w.heap.size + 1 + 1) _ _ (0, 0) _ _ _ rfl rfl rfl (setRow_heap _ _ _ _ _ _ (show (World.drewN _ _).heap[w.heap.size + 1 + 1]? = _ from K2.out)) Try.underlying26 rfl (six_info _)) rfl ⟨rfl, below_setRow (below_drawn HB.out _) (by omega) _⟩
end Go.Proofs.Ytniejikbbmileaa
