/-
  What is taken: pool.Take.
-/
import Derived.Test.YteliaammffmmiaaPoolD
import Derived.Test.YteliaammffmmiaaRets
namespace Go.Proofs.Yteliaammffmmiaa
open Go.RowKit

/-- n more of the pool k. -/
def more (U : Nat → Int) (k : Nat) (n : Int) (j : Nat) : Int := if j = k then U k + n else U j

set_option maxHeartbeats 400000 in
theorem take_k (w : World) (B S U : Nat → Int) (C T L k n : Int) (hk : k < 0 ∨ 6 ≤ k) :
    Calls Try.prog 42 #[.agg (planC B S C T L), .agg (six U), .int .i64 k, .int .i64 n] w fun e w' => e = .returned (.tuple #[.int .i64 0, .agg (six fun _ => 0), .int .i64 1]) ∧ Below w.heap.size w w' := by
  rcases hk with hk | hk
  · go_enter Try.func42, Try.ntmps42
    go_wp2
    refine bodyPost_ret (v := .tuple #[.int .i64 0, .agg (six fun _ => 0), .int .i64 1]) (by simp [results, Try.results42, go_sem, six]) rfl ⟨rfl, below_al3⟩
  · have hk' : ¬ k < 0 := by omega
    go_enter Try.func42, Try.ntmps42
    go_wp2
    refine bodyPost_ret (v := .tuple #[.int .i64 0, .agg (six fun _ => 0), .int .i64 1]) (by simp [results, Try.results42, go_sem, six]) rfl ⟨rfl, below_al3⟩
theorem take_n (w : World) (B S U : Nat → Int) (C T L n : Int) (k : Nat) (hk : k < 6) (hn : n < 1) :
    Calls Try.prog 42 #[.agg (planC B S C T L), .agg (six U), .int .i64 k, .int .i64 n] w fun e w' => e = .returned (.tuple #[.int .i64 0, .agg (six fun _ => 0), .int .i64 1]) ∧ Below w.heap.size w w' := by
  have hk0 : (k : Int) < 6 := by omega
  go_enter Try.func42, Try.ntmps42
  go_wp2
  refine bodyPost_ret (v := .tuple #[.int .i64 0, .agg (six fun _ => 0), .int .i64 1]) (by simp [results, Try.results42, go_sem, six]) rfl ⟨rfl, below_al3⟩

set_option maxHeartbeats 400000 in
theorem take_off (w : World) (B S U : Nat → Int) (C T L n : Int) (k : Nat) (hk : k < 6) (hn : 1 ≤ n) (hu : wB U S k = false) :
    Calls Try.prog 42 #[.agg (planC B S C T L), .agg (six U), .int .i64 k, .int .i64 n] w fun e w' => e = .returned (.tuple #[.int .i64 0, .agg (six fun _ => 0), .int .i64 1]) ∧ Below w.heap.size w w' := by
  have hk0 : decide ((k : Int) < 0) = false := decide_eq_false (by omega)
  have hk6 : decide (6 ≤ (k : Int)) = false := decide_eq_false (by omega)
  have hn1 : decide (n < 1) = false := decide_eq_false (by omega)
  go_enter Try.func42, Try.ntmps42
  go_wp2_with (first
    | (refine wpList_load_row_g rfl 25 (.tmp 4) rfl w.heap.size rfl 25 (planC B S C T L) (0, 0) _ (heap3_0 w _ _ _) Try.underlying25 rfl (planC_info _ _ _ _ _) ?_)
    | (refine wpList_load_row_g rfl 23 (.tmp 5) rfl (w.heap.size + 1) rfl 23 (six U) (0, 0) _ (heap3_1 w _ _ _) Try.underlying23 rfl (six_info _) ?_)
    | fail)
  refine (within_any _ B S U C T L k hk).mono ?_; rintro e w1 ⟨rfl, hb1⟩
  rw [hu]
  have h2 : w1.heap[w.heap.size + 1 + 1]? = some (.cells (six fun _ => 0) 23) := (hb1.block _ (by simp)).trans (heap3_2 _ _ _ _)
  have H2 := Lib.hid h2
  have HB := Lib.hid (below_al3.trans (hb1.mono (by simp; omega)))
  clear h2 hb1
  go_wp2_with (first
    | (refine wpList_store_row rfl 23 (.tmp 9) (.tmp 29) rfl (w.heap.size + 1 + 1) (six fun _ => 0) rfl rfl 23 (six fun _ => 0) H2.out (six_info _) (six_both _ _) (six_one _) ?_)
    | fail)
  refine bodyPost_ret (v := .tuple #[.int .i64 0, .agg (six fun _ => 0), .int .i64 1]) (results_tmp_cell_tmp rfl _ _ (w.heap.size + 1 + 1) _ _ (0, 0) _ _ _ rfl rfl rfl (setRow_heap _ _ _ _ _ _ H2.out) Try.underlying23 rfl (six_info _)) rfl ⟨rfl, below_setRow HB.out (by omega) _⟩

set_option maxHeartbeats 400000 in
theorem take_full (w : World) (B S U : Nat → Int) (C T L n : Int) (k : Nat) (hk : k < 6) (hn : 1 ≤ n) (h0 : 0 ≤ U k) (h1 : U k ≤ S k) (hs : S k ≤ 1000000) (hf : S k - U k < n) :
    Calls Try.prog 42 #[.agg (planC B S C T L), .agg (six U), .int .i64 k, .int .i64 n] w fun e w' => e = .returned (.tuple #[.int .i64 0, .agg (six fun _ => 0), .int .i64 3]) ∧ Below w.heap.size w w' := by
  have hk0 : decide ((k : Int) < 0) = false := decide_eq_false (by omega)
  have hk6 : decide (6 ≤ (k : Int)) = false := decide_eq_false (by omega)
  have hn1 : decide (n < 1) = false := decide_eq_false (by omega)
  have hu : wB U S k = true := wB_yes h0 h1
  have HU := Lib.hid hu
  clear hu
  go_enter Try.func42, Try.ntmps42
  go_wp2_with (first
    | (refine wpList_load_row_g rfl 25 (.tmp 4) rfl w.heap.size rfl 25 (planC B S C T L) (0, 0) _ (heap3_0 w _ _ _) Try.underlying25 rfl (planC_info _ _ _ _ _) ?_)
    | (refine wpList_load_row_g rfl 23 (.tmp 5) rfl (w.heap.size + 1) rfl 23 (six U) (0, 0) _ (heap3_1 w _ _ _) Try.underlying23 rfl (six_info _) ?_)
    | fail)
  refine (within_any _ B S U C T L k hk).mono ?_; rintro e w1 ⟨rfl, hb1⟩
  rw [HU.out]
  have g0 : w1.heap[w.heap.size]? = some (.cells (planC B S C T L) 25 (0, 0)) := (hb1.block _ (by simp; omega)).trans (heap3_0 _ _ _ _)
  have g1 : w1.heap[w.heap.size + 1]? = some (.cells (six U) 23 (0, 0)) := (hb1.block _ (by simp)).trans (heap3_1 _ _ _ _)
  have g2 : w1.heap[w.heap.size + 1 + 1]? = some (.cells (six fun _ => 0) 23 (0, 0)) := (hb1.block _ (by simp)).trans (heap3_2 _ _ _ _)
  have G0 := Lib.hid g0
  have G1 := Lib.hid g1
  have G2 := Lib.hid g2
  have HB := Lib.hid (below_al3.trans (hb1.mono (by simp; omega)))
  clear g0 g1 g2 hb1
  go_wp2_with (first
    | (refine wpList_load_row rfl 25 (.tmp 4) rfl w.heap.size rfl 25 (planC B S C T L) (0, 0) _ G0.out Try.underlying25 rfl (planC_info _ _ _ _ _) ?_)
    | (refine wpList_load_row rfl 23 (.tmp 5) rfl (w.heap.size + 1) rfl 23 (six U) (0, 0) _ G1.out Try.underlying23 rfl (six_info _) ?_)
    | fail)
  refine (left_any _ B S U C T L k hk h0 h1 hs).mono ?_; rintro e w2 ⟨rfl, hb2⟩
  have G0 := Lib.hid ((hb2.block _ (lt_of_heap G0.out)).trans G0.out)
  have G1 := Lib.hid ((hb2.block _ (lt_of_heap G1.out)).trans G1.out)
  have G2 := Lib.hid ((hb2.block _ (lt_of_heap G2.out)).trans G2.out)
  have HB := Lib.hid (HB.out.trans (hb2.mono HB.out.size))
  clear hb2
  go_wp2_with (first
    | (refine wpList_store_row rfl 23 (.tmp 9) (.tmp 36) rfl (w.heap.size + 1 + 1) (six fun _ => 0) rfl rfl 23 (six fun _ => 0) G2.out (six_info _) (six_both _ _) (six_one _) ?_)
    | fail)
  refine bodyPost_ret (v := .tuple #[.int .i64 0, .agg (six fun _ => 0), .int .i64 3]) (results_tmp_cell_tmp rfl _ _ (w.heap.size + 1 + 1) _ _ (0, 0) _ _ _ rfl rfl rfl (setRow_heap _ _ _ _ _ _ G2.out) Try.underlying23 rfl (six_info _)) rfl ⟨rfl, below_setRow HB.out (by omega) _⟩

set_option maxHeartbeats 400000 in
theorem take_ok (w : World) (B S U : Nat → Int) (C T L n : Int) (k : Nat) (hk : k < 6) (hn : 1 ≤ n) (h0 : 0 ≤ U k) (h1 : U k ≤ S k) (hs : S k ≤ 1000000) (hf : n ≤ S k - U k) (hb0 : 0 ≤ B k) (hb1 : B k ≤ 1000000) :
    Calls Try.prog 42 #[.agg (planC B S C T L), .agg (six U), .int .i64 k, .int .i64 n] w fun e w' => e = .returned (.tuple #[.int .i64 (B k + U k), .agg (six (more U k n)), .int .i64 0]) ∧ Below w.heap.size w w' := by
  have hB0 := hb0
  have hB1 := hb1
  clear hb0 hb1
  have hk0 : decide ((k : Int) < 0) = false := decide_eq_false (by omega)
  have hk6 : decide (6 ≤ (k : Int)) = false := decide_eq_false (by omega)
  have hn1 : decide (n < 1) = false := decide_eq_false (by omega)
  have hu : wB U S k = true := wB_yes h0 h1
  have HU := Lib.hid hu
  clear hu
  go_enter Try.func42, Try.ntmps42
  go_wp2_with (first
    | (refine wpList_load_row_g rfl 25 (.tmp 4) rfl w.heap.size rfl 25 (planC B S C T L) (0, 0) _ (heap3_0 w _ _ _) Try.underlying25 rfl (planC_info _ _ _ _ _) ?_)
    | (refine wpList_load_row_g rfl 23 (.tmp 5) rfl (w.heap.size + 1) rfl 23 (six U) (0, 0) _ (heap3_1 w _ _ _) Try.underlying23 rfl (six_info _) ?_)
    | fail)
  refine (within_any _ B S U C T L k hk).mono ?_; rintro e w1 ⟨rfl, hb1⟩
  rw [HU.out]
  have g0 : w1.heap[w.heap.size]? = some (.cells (planC B S C T L) 25 (0, 0)) := (hb1.block _ (by simp; omega)).trans (heap3_0 _ _ _ _)
  have g1 : w1.heap[w.heap.size + 1]? = some (.cells (six U) 23 (0, 0)) := (hb1.block _ (by simp)).trans (heap3_1 _ _ _ _)
  have g2 : w1.heap[w.heap.size + 1 + 1]? = some (.cells (six fun _ => 0) 23 (0, 0)) := (hb1.block _ (by simp)).trans (heap3_2 _ _ _ _)
  have G0 := Lib.hid g0
  have G1 := Lib.hid g1
  have G2 := Lib.hid g2
  have HB := Lib.hid (below_al3.trans (hb1.mono (by simp; omega)))
  clear g0 g1 g2 hb1
  go_wp2_with (first
    | (refine wpList_load_row rfl 25 (.tmp 4) rfl w.heap.size rfl 25 (planC B S C T L) (0, 0) _ G0.out Try.underlying25 rfl (planC_info _ _ _ _ _) ?_)
    | (refine wpList_load_row rfl 23 (.tmp 5) rfl (w.heap.size + 1) rfl 23 (six U) (0, 0) _ G1.out Try.underlying23 rfl (six_info _) ?_)
    | fail)
  refine (left_any _ B S U C T L k hk h0 h1 hs).mono ?_; rintro e w2 ⟨rfl, hb2⟩
  have G0 := Lib.hid ((hb2.block _ (lt_of_heap G0.out)).trans G0.out)
  have G1 := Lib.hid ((hb2.block _ (lt_of_heap G1.out)).trans G1.out)
  have G2 := Lib.hid ((hb2.block _ (lt_of_heap G2.out)).trans G2.out)
  have HB := Lib.hid (HB.out.trans (hb2.mono HB.out.size))
  clear hb2
  have hsz : w.heap.size + 1 + 1 < w2.heap.size := lt_of_heap G2.out
  go_upto_region 6 with (first
    | (refine wpList_load_row rfl 23 (.tmp 5) rfl (w.heap.size + 1) rfl 23 (six U) (0, 0) _ G1.out Try.underlying23 rfl (six_info _) ?_)
    | (refine wpList_store_row rfl 23 (.tmp 11) (.tmp 37) rfl w2.heap.size (six U) rfl rfl 23 (six fun _ => 0) (heap_alloc_new w2 _) (six_info _) (six_both _ _) (six_one _) ?_)
    | fail)
  obtain ⟨w3, hw3⟩ : ∃ w3, w3 = (w2.alloc (.cells (six fun _ => 0) 23)).setRow w2.heap.size (six U) := ⟨_, rfl⟩
  rw [show (w2.alloc (.cells #[.int .i64 0, .int .i64 0, .int .i64 0, .int .i64 0, .int .i64 0, .int .i64 0] 23)).setRow w2.heap.size (six U) = w3 from hw3.symm]
  have k3 : w3.heap[w2.heap.size]? = some (.cells (six U) 23 (0, 0)) := by
    rw [hw3]; exact setRow_heap _ _ _ _ _ _ (heap_alloc_new w2 _)
  have k0 : w3.heap[w.heap.size]? = some (.cells (planC B S C T L) 25 (0, 0)) := by
    rw [hw3, setRow_other _ _ _ _ (by omega), Below.heap_alloc _ _ _ (by omega)]; exact G0.out
  have k1 : w3.heap[w.heap.size + 1]? = some (.cells (six U) 23 (0, 0)) := by
    rw [hw3, setRow_other _ _ _ _ (by omega), Below.heap_alloc _ _ _ (by omega)]; exact G1.out
  have k2 : w3.heap[w.heap.size + 1 + 1]? = some (.cells (six fun _ => 0) 23 (0, 0)) := by
    rw [hw3, setRow_other _ _ _ _ (by omega), Below.heap_alloc _ _ _ (by omega)]; exact G2.out
  have hB3 : Below w.heap.size w w3 := by
    rw [hw3]; exact below_setRow (HB.out.alloc HB.out.size _) (by omega) _
  obtain ⟨q, hq⟩ : ∃ q, q = w2.heap.size := ⟨_, rfl⟩
  rw [← hq] at hsz k3 ⊢
  clear hw3 G0 G1 G2 HB hq
  have c3 : w3.cell? ⟨q, k, none⟩ = some (.int .i64 (U k)) := (cell_at k3 k).trans (six_get _ k hk)
  have f3 := free_at k3 k
  have hk1 : (k : Int) < 6 := by omega
  have K0 := Lib.hid k0
  have K1 := Lib.hid k1
  have K2 := Lib.hid k2
  have K3 := Lib.hid k3
  have HB := Lib.hid hB3
  clear k0 k1 k2 k3 hB3
  go_upto_region 7 with fail
  obtain ⟨w4, hw4⟩ : ∃ w4, w4 = w3.setCell ⟨q, k, none⟩ (.int .i64 (U k + n)) := ⟨_, rfl⟩
  rw [← hw4]
  have k3 : w4.heap[q]? = some (.cells (six (more U k n)) 23 (0, 0)) := by
    rw [hw4, heap_setCell_same _ _ _ _ _ _ K3.out, six_set _ (more U k n) k _ hk (fun j _ => rfl)]
  have k0 : w4.heap[w.heap.size]? = some (.cells (planC B S C T L) 25 (0, 0)) := by
    rw [hw4, Below.heap_setCell _ _ _ _ (by simp; omega)]; exact K0.out
  have k1 : w4.heap[w.heap.size + 1]? = some (.cells (six U) 23 (0, 0)) := by
    rw [hw4, Below.heap_setCell _ _ _ _ (by simp; omega)]; exact K1.out
  have k2 : w4.heap[w.heap.size + 1 + 1]? = some (.cells (six fun _ => 0) 23 (0, 0)) := by
    rw [hw4, Below.heap_setCell _ _ _ _ (by simp; omega)]; exact K2.out
  have hB4 : Below w.heap.size w w4 := by
    rw [hw4]; exact HB.out.setCell (by simp; omega) _
  clear hw4 K0 K1 K2 K3 HB c3 f3
  have c0 : w4.cell? ⟨w.heap.size, k, none⟩ = some (.int .i64 (B k)) := (cell_at k0 k).trans (planC_base _ _ _ _ _ k hk)
  have c1 : w4.cell? ⟨w.heap.size + 1, k, none⟩ = some (.int .i64 (U k)) := (cell_at k1 k).trans (six_get _ k hk)
  have e0 : w4.cell? ⟨q, 0, none⟩ = some (.int .i64 (more U k n 0)) := cell_at k3 0
  have e1 : w4.cell? ⟨q, 1, none⟩ = some (.int .i64 (more U k n 1)) := cell_at k3 1
  have e2 : w4.cell? ⟨q, 2, none⟩ = some (.int .i64 (more U k n 2)) := cell_at k3 2
  have e3 : w4.cell? ⟨q, 3, none⟩ = some (.int .i64 (more U k n 3)) := cell_at k3 3
  have e4 : w4.cell? ⟨q, 4, none⟩ = some (.int .i64 (more U k n 4)) := cell_at k3 4
  have e5 : w4.cell? ⟨q, 5, none⟩ = some (.int .i64 (more U k n 5)) := cell_at k3 5
  have K2 := Lib.hid k2
  have HB := Lib.hid hB4
  clear k0 k1 k2 k3 hB4
  go_still_tail 10, (by kernel_rfl)
  change wpList _ _ _ _ _ w4.drew
  clear e0 e1 e2 e3 e4 e5 c0 c1
  go_wp2_with (first
    | (refine wpList_store_row rfl 23 (.tmp 9) (.tmp 52) rfl (w.heap.size + 1 + 1) (six (more U k n)) rfl rfl 23 (six fun _ => 0) (show w4.drew.heap[w.heap.size + 1 + 1]? = _ from K2.out) (six_info _) (six_both _ _) (six_one _) ?_)
    | fail)
  refine bodyPost_ret (v := .tuple #[.int .i64 (B k + U k), .agg (six (more U k n)), .int .i64 0]) (results_tmp_cell_tmp rfl _ _ (w.heap.size + 1 + 1) _ _ (0, 0) _ _ _ rfl rfl rfl (setRow_heap _ _ _ _ _ _ (show w4.drew.heap[w.heap.size + 1 + 1]? = _ from K2.out)) Try.underlying23 rfl (six_info _)) rfl ⟨rfl, below_setRow HB.out.drew (by omega) _⟩
end Go.Proofs.Yteliaammffmmiaa
