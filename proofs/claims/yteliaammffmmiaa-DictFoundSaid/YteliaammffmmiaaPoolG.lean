/-
  Where the pools lie, as the reference has it.
-/
import Derived.Test.YteliaammffmmiaaPoolF
namespace Go.Proofs.Yteliaammffmmiaa
open Go.RowKit

theorem ref_lay_bad (w : World) (d t : Int) (s : Nat → Int) (bk rm : Int) (kf bf : Nat) (h : ¬ OkConf d t s bk rm) :
    Calls Try.prog 25 #[.agg (confC d t s bk rm kf bf)] w fun e w' => e = .returned (.tuple #[.agg (planC (fun _ => 0) (fun _ => 0) 0 0 0), .int .i64 1]) ∧ Below w.heap.size w w' := by
  unfold confC
  go_enter Try.func25, Try.ntmps25
  go_wp2_with fail
  refine (ref_sizes_any _ d t s bk rm kf bf).mono ?_; rintro e w1 ⟨hb1, ⟨hok, rfl⟩ | ⟨_, U, rfl⟩⟩
  · exact absurd hok h
  · simp only [six]
    have h1 := (hb1.block (w.heap.size + 1) (by simp)).trans (heap2_1 _ _ _)
    have hne : w.heap.size + 1 ≠ w1.heap.size := by have := lt_of_heap h1; omega
    have H1 := Lib.hid h1
    have HB := Lib.hid (below_al2.trans (hb1.mono (by simp; omega)))
    clear h1 hb1
    go_wp2_with (first
      | (refine wpList_store_row rfl 25 (.tmp 2) (.tmp 16) rfl (w.heap.size + 1) (planC (fun _ => 0) (fun _ => 0) 0 0 0) rfl rfl 25 (planC (fun _ => 0) (fun _ => 0) 0 0 0) ((Below.heap_alloc _ _ _ (lt_of_heap H1.out)).trans H1.out) (planC_info _ _ _ _ _) rfl (planC_one _ _ _ _ _) ?_))
    refine bodyPost_ret (v := .tuple #[.agg (planC (fun _ => 0) (fun _ => 0) 0 0 0), .int .i64 1]) (results_cell_tmp rfl _ _ (w.heap.size + 1) _ _ (0, 0) _ _ rfl rfl (setRow_heap _ _ _ _ _ _ ((Below.heap_alloc _ _ _ (lt_of_heap H1.out)).trans H1.out)) Try.underlying25 rfl (planC_info _ _ _ _ _)) rfl ⟨rfl, ?_⟩
    exact below_setRow (HB.out.alloc HB.out.size _) (by omega) _

/-- Behind i rounds: the plan so far at block q, its sizes at block p. -/
def RefLayRel (w : World) (d t : Int) (s : Nat → Int) (bk rm : Int) (kf bf : Nat) (p q i : Nat) (wr : World) : Prop :=
  LayAt w d t s bk rm kf bf wr ∧ wr.heap[p]? = some (.cells (six (szOf s bk rm)) 23 (0, 0)) ∧ wr.heap[q]? = some (.cells (planC (baseTo (szOf s bk rm) i) (szOf s bk rm) 0 128 0) 25 (0, 0))

set_option maxHeartbeats 1000000 in
theorem ref_lay_ok (w : World) (d t : Int) (s : Nat → Int) (bk rm : Int) (kf bf : Nat) (h : OkConf d t s bk rm) :
    Calls Try.prog 25 #[.agg (confC d t s bk rm kf bf)] w fun e w' => e = .returned (.tuple #[.agg (planC (baseOf (szOf s bk rm)) (szOf s bk rm) (baseOf (szOf s bk rm) 6) (slotsOf t) (liveOf d t)), .int .i64 0]) ∧ Below w.heap.size w w' := by
  unfold confC
  go_enter Try.func25, Try.ntmps25
  go_wp2_with fail
  refine (ref_sizes_any _ d t s bk rm kf bf).mono ?_; rintro e w1 ⟨hb1, ⟨hok, rfl⟩ | ⟨hno, U, rfl⟩⟩
  rotate_left
  · exact absurd h hno
  · simp only [six]
    have h1 := (hb1.block (w.heap.size + 1) (by simp)).trans (heap2_1 _ _ _)
    have h0 := (hb1.block w.heap.size (by simp; omega)).trans (heap2_0 _ _ _)
    have hL : LayAt w d t s bk rm kf bf w1 := ⟨h0, h1, below_al2.trans (hb1.mono (by simp; omega))⟩
    clear h0 h1 hb1 hok
    have hlim := h.1
    go_wp2_with fail
    have hr : RefLayRel w d t s bk rm kf bf w1.heap.size (w1.heap.size + 1) 0 ((w1.alloc (.cells (six (szOf s bk rm)) 23)).alloc (.cells (planC (fun _ => 0) (szOf s bk rm) 0 128 0) 25)) :=
      ⟨(hL.below below_one).below below_one, heap2_0 _ _ _, heap2_1 _ _ _⟩
    obtain ⟨p, hp⟩ : ∃ p, p = w1.heap.size := ⟨_, rfl⟩
    have hpw : w.heap.size + 2 ≤ p := by have := lt_of_heap hL.2.1; omega
    rw [← hp] at hr ⊢
    have HH := Lib.hid h
    clear hL h hp
    go_loopw [7, 8] (fun al i wr => ∃ k : Nat, k ≤ 6 ∧ i = .int .i64 k ∧ al = .int .i64 (baseOf (szOf s bk rm) k) ∧ RefLayRel w d t s bk rm kf bf p (p + 1) k wr) (fun _ i _ => 6 - (intOf i).toNat)
    case atStart => exact ⟨0, by omega, rfl, rfl, hr⟩
    case round =>
      clear hr
      obtain ⟨k, hk, rfl, rfl, hL, hp, hq⟩ := hrel
      by_cases hlt : k < 6
      · have hlt6 : (k : Int) < 6 := by omega
        have c1 : wr.cell? ⟨p + 1, k, none⟩ = some (.int .i64 (baseTo (szOf s bk rm) k k)) := (cell_at hq k).trans (planC_base _ _ _ _ _ k hlt)
        have c2 : wr.cell? ⟨p, k, none⟩ = some (.int .i64 (szOf s bk rm k)) := (cell_at hp k).trans (six_get _ k hlt)
        have f1 := free_at hq k
        have b0 := baseOf_lo hlim k
        have b1 := baseOf_hi hlim k
        have s0 := szOf_lo hlim k
        have s1 := szOf_hi hlim k
        have HQ := Lib.hid hq
        have HP := Lib.hid hp
        have HL := Lib.hid hL
        clear hq hp hL
        go_wp2_with fail
        go_roundw
        case rel =>
          refine ⟨k + 1, by omega, by go_num, by simp only [baseOf], ?_, ?_, ?_⟩
          · exact HL.out.setCell (by simp; omega) _
          · rw [Below.heap_setCell _ _ _ _ (by simp)]; exact HP.out
          · rw [heap_setCell_same _ _ _ _ _ _ HQ.out, planC_setBase _ _ _ _ _ _ k _ hlt (fun j _ => baseTo_next _ k j)]
        case measure => simp [intOf]; omega
      · obtain rfl : k = 6 := by omega
        have c1 : wr.cell? ⟨p + 1, 12, none⟩ = some (.int .i64 0) := cell_at hq 12
        have f1 := free_at hq 12
        have HQ := Lib.hid hq
        have HL := Lib.hid hL
        clear hq hp hL
        go_upto_region 12 with fail
        obtain ⟨w5, hw5⟩ : ∃ w5, w5 = wr.setCell ⟨p + 1, 12, none⟩ (.int .i64 (baseOf (szOf s bk rm) 6)) := ⟨_, rfl⟩
        rw [← hw5]
        have hq5 : w5.heap[p + 1]? = some (.cells (planC (baseOf (szOf s bk rm)) (szOf s bk rm) (baseOf (szOf s bk rm) 6) 128 0) 25 (0, 0)) := by
          rw [hw5, heap_setCell_same _ _ _ _ _ _ HQ.out, planC_setCells]; rfl
        have hL5 : LayAt w d t s bk rm kf bf w5 := by
          rw [hw5]
          exact HL.out.setCell (by simp; omega) _
        clear hw5 HQ HL c1 f1
        have k0 : w5.cell? ⟨w.heap.size, 0, none⟩ = some (.int .i64 d) := cell_at hL5.1 0
        have k1 : w5.cell? ⟨w.heap.size, 1, none⟩ = some (.int .i64 t) := cell_at hL5.1 1
        have k3 : w5.cell? ⟨p + 1, 13, none⟩ = some (.int .i64 128) := cell_at hq5 13
        have f3 := free_at hq5 13
        have k4 : w5.cell? ⟨p + 1, 14, none⟩ = some (.int .i64 0) := cell_at hq5 14
        have f4 := free_at hq5 14
        have d0 := hlim.d0
        have d1 := hlim.d1
        have HQ5 := Lib.hid hq5
        have HL5 := Lib.hid hL5
        clear hq5 hL5
        by_cases ht : t < 128
        · have HS := Lib.hid (show slotsOf t = 128 by simp [slotsOf, ht])
          have ht' : ¬ 128 ≤ t := by omega
          have ht'' : ¬ 256 ≤ t := by omega
          go_upto_region 17 with fail
          obtain ⟨w6, hw6⟩ : ∃ w6, w6 = w5.setCell ⟨p + 1, 14, none⟩ (.int .i64 (1 + 4 * d + 128)) := ⟨_, rfl⟩
          rw [← hw6]
          have hq6 : w6.heap[p + 1]? = some (.cells (planC (baseOf (szOf s bk rm)) (szOf s bk rm) (baseOf (szOf s bk rm) 6) (slotsOf t) (liveOf d t)) 25 (0, 0)) := by
            rw [hw6, heap_setCell_same _ _ _ _ _ _ HQ5.out]
            simp only [liveOf, HS.out]; rfl
          have hL6 : LayAt w d t s bk rm kf bf w6 := by
            rw [hw6]
            exact (HL5.out.setCell (p := ⟨p + 1, 14, none⟩) (by simp; omega) _)
          clear hw6
          have H2 := Lib.hid hL6.2.1
          have HQ6 := Lib.hid hq6
          have HB := Lib.hid hL6.2.2
          clear hq6 hL6
          go_wp2_with (first
            | (refine wpList_load_row rfl 25 (.tmp 6) rfl (p + 1) rfl 25 (planC (baseOf (szOf s bk rm)) (szOf s bk rm) (baseOf (szOf s bk rm) 6) (slotsOf t) (liveOf d t)) (0, 0) _ HQ6.out Try.underlying25 rfl (planC_info _ _ _ _ _) ?_)
            | (refine wpList_store_row rfl 25 (.tmp 2) (.tmp 50) rfl (w.heap.size + 1) (planC (baseOf (szOf s bk rm)) (szOf s bk rm) (baseOf (szOf s bk rm) 6) (slotsOf t) (liveOf d t)) rfl rfl 25 (planC (fun _ => 0) (fun _ => 0) 0 0 0) H2.out (planC_info _ _ _ _ _) rfl (planC_one _ _ _ _ _) ?_))
          refine bodyPost_ret (v := .tuple #[.agg (planC (baseOf (szOf s bk rm)) (szOf s bk rm) (baseOf (szOf s bk rm) 6) (slotsOf t) (liveOf d t)), .int .i64 0]) (results_cell_tmp rfl _ _ (w.heap.size + 1) _ _ (0, 0) _ _ rfl rfl (setRow_heap _ _ _ _ _ _ H2.out) Try.underlying25 rfl (planC_info _ _ _ _ _)) rfl ⟨rfl, below_setRow HB.out (by omega) _⟩
        · by_cases hu : t < 256
          · have HS := Lib.hid (show slotsOf t = 256 by simp [slotsOf, ht, hu])
            have ht' : 128 ≤ t := by omega
            have hu' : ¬ 256 ≤ t := by omega
            clear ht
            go_upto_region 17 with fail
            obtain ⟨w6, hw6⟩ : ∃ w6, w6 = (w5.setCell ⟨p + 1, 13, none⟩ (.int .i64 256)).setCell ⟨p + 1, 14, none⟩ (.int .i64 (1 + 4 * d + 256)) := ⟨_, rfl⟩
            rw [← hw6]
            have hq6 : w6.heap[p + 1]? = some (.cells (planC (baseOf (szOf s bk rm)) (szOf s bk rm) (baseOf (szOf s bk rm) 6) (slotsOf t) (liveOf d t)) 25 (0, 0)) := by
              rw [hw6, heap_setCell_same _ _ _ _ _ _ (heap_setCell_same _ _ _ _ _ _ HQ5.out)]
              simp only [liveOf, HS.out]; rfl
            have hL6 : LayAt w d t s bk rm kf bf w6 := by
              rw [hw6]
              exact ((HL5.out.setCell (p := ⟨p + 1, 13, none⟩) (by simp; omega) _).setCell (p := ⟨p + 1, 14, none⟩) (by simp; omega) _)
            clear hw6
            have H2 := Lib.hid hL6.2.1
            have HQ6 := Lib.hid hq6
            have HB := Lib.hid hL6.2.2
            clear hq6 hL6
            go_wp2_with (first
              | (refine wpList_load_row rfl 25 (.tmp 6) rfl (p + 1) rfl 25 (planC (baseOf (szOf s bk rm)) (szOf s bk rm) (baseOf (szOf s bk rm) 6) (slotsOf t) (liveOf d t)) (0, 0) _ HQ6.out Try.underlying25 rfl (planC_info _ _ _ _ _) ?_)
              | (refine wpList_store_row rfl 25 (.tmp 2) (.tmp 50) rfl (w.heap.size + 1) (planC (baseOf (szOf s bk rm)) (szOf s bk rm) (baseOf (szOf s bk rm) 6) (slotsOf t) (liveOf d t)) rfl rfl 25 (planC (fun _ => 0) (fun _ => 0) 0 0 0) H2.out (planC_info _ _ _ _ _) rfl (planC_one _ _ _ _ _) ?_))
            refine bodyPost_ret (v := .tuple #[.agg (planC (baseOf (szOf s bk rm)) (szOf s bk rm) (baseOf (szOf s bk rm) 6) (slotsOf t) (liveOf d t)), .int .i64 0]) (results_cell_tmp rfl _ _ (w.heap.size + 1) _ _ (0, 0) _ _ rfl rfl (setRow_heap _ _ _ _ _ _ H2.out) Try.underlying25 rfl (planC_info _ _ _ _ _)) rfl ⟨rfl, below_setRow HB.out (by omega) _⟩
          · have HS := Lib.hid (show slotsOf t = 512 by simp [slotsOf, ht, hu])
            have ht' : 128 ≤ t := by omega
            have hu' : 256 ≤ t := by omega
            clear ht hu
            go_upto_region 17 with fail
            obtain ⟨w6, hw6⟩ : ∃ w6, w6 = ((w5.setCell ⟨p + 1, 13, none⟩ (.int .i64 256)).setCell ⟨p + 1, 13, none⟩ (.int .i64 512)).setCell ⟨p + 1, 14, none⟩ (.int .i64 (1 + 4 * d + 512)) := ⟨_, rfl⟩
            rw [← hw6]
            have hq6 : w6.heap[p + 1]? = some (.cells (planC (baseOf (szOf s bk rm)) (szOf s bk rm) (baseOf (szOf s bk rm) 6) (slotsOf t) (liveOf d t)) 25 (0, 0)) := by
              rw [hw6, heap_setCell_same _ _ _ _ _ _ (heap_setCell_same _ _ _ _ _ _ (heap_setCell_same _ _ _ _ _ _ HQ5.out))]
              simp only [liveOf, HS.out]; rfl
            have hL6 : LayAt w d t s bk rm kf bf w6 := by
              rw [hw6]
              exact (((HL5.out.setCell (p := ⟨p + 1, 13, none⟩) (by simp; omega) _).setCell (p := ⟨p + 1, 13, none⟩) (by simp; omega) _).setCell (p := ⟨p + 1, 14, none⟩) (by simp; omega) _)
            clear hw6
            have H2 := Lib.hid hL6.2.1
            have HQ6 := Lib.hid hq6
            have HB := Lib.hid hL6.2.2
            clear hq6 hL6
            go_wp2_with (first
              | (refine wpList_load_row rfl 25 (.tmp 6) rfl (p + 1) rfl 25 (planC (baseOf (szOf s bk rm)) (szOf s bk rm) (baseOf (szOf s bk rm) 6) (slotsOf t) (liveOf d t)) (0, 0) _ HQ6.out Try.underlying25 rfl (planC_info _ _ _ _ _) ?_)
              | (refine wpList_store_row rfl 25 (.tmp 2) (.tmp 50) rfl (w.heap.size + 1) (planC (baseOf (szOf s bk rm)) (szOf s bk rm) (baseOf (szOf s bk rm) 6) (slotsOf t) (liveOf d t)) rfl rfl 25 (planC (fun _ => 0) (fun _ => 0) 0 0 0) H2.out (planC_info _ _ _ _ _) rfl (planC_one _ _ _ _ _) ?_))
            refine bodyPost_ret (v := .tuple #[.agg (planC (baseOf (szOf s bk rm)) (szOf s bk rm) (baseOf (szOf s bk rm) 6) (slotsOf t) (liveOf d t)), .int .i64 0]) (results_cell_tmp rfl _ _ (w.heap.size + 1) _ _ (0, 0) _ _ rfl rfl (setRow_heap _ _ _ _ _ _ H2.out) Try.underlying25 rfl (planC_info _ _ _ _ _)) rfl ⟨rfl, below_setRow HB.out (by omega) _⟩
end Go.Proofs.Yteliaammffmmiaa
