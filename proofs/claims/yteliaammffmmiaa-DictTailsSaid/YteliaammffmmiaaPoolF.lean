/-
  The reference's sizes of the pools, for numbers that may be.
-/
import Derived.Test.YteliaammffmmiaaPoolE
namespace Go.Proofs.Yteliaammffmmiaa
open Go.RowKit

/-- What the reference's Sizes comes to. -/
def SizesPost (d t : Int) (s : Nat → Int) (bk rm : Int) (w : World) (e : Ending) (w' : World) : Prop :=
  Below w.heap.size w w' ∧ ((OkConf d t s bk rm ∧ e = .returned (.tuple #[.agg (six (szOf s bk rm)), .bool true])) ∨ (¬ OkConf d t s bk rm ∧ ∃ U, e = .returned (.tuple #[.agg (six U), .bool false])))

def outTo (S : Nat → Int) (i k : Nat) : Int := if k < i then S k else 0
theorem outTo_next (S : Nat → Int) (k j : Nat) : outTo S (k + 1) j = if j = k then S k else outTo S k j := by
  unfold outTo
  by_cases e : j = k
  · subst e; simp
  · by_cases a : j < k
    · simp [e, a, show j < k + 1 by omega]
    · simp [e, a, show ¬ j < k + 1 by omega]

/-- Behind i rounds. -/
def SzRel2 (w : World) (d t : Int) (s : Nat → Int) (bk rm : Int) (kf bf : Nat) (i : Nat) (wr : World) : Prop :=
  wr.heap[w.heap.size]? = some (.cells (confC d t s bk rm kf bf) 63 (0, 0)) ∧ wr.heap[w.heap.size + 1]? = some (.cells (six fun _ => 0) 23 (0, 0)) ∧
  wr.heap[w.heap.size + 1 + 1]? = some (.cells (six (outTo (szOf s bk rm) i)) 23 (0, 0)) ∧ Below w.heap.size w wr ∧ (∀ j, j < i → j < 4 → 0 ≤ s j ∧ s j ≤ 512) ∧
  3 ≤ baseOf (szOf s bk rm) i ∧ baseOf (szOf s bk rm) i ≤ 3 + 131072 * i
theorem SzRel2.put {w : World} {d t : Int} {s : Nat → Int} {bk rm : Int} {kf bf i : Nat} {wr w' : World} (h : SzRel2 w d t s bk rm kf bf i wr) (hi : i < 6) (h4 : i < 4 → 0 ≤ s i ∧ s i ≤ 512) (h0 : 0 ≤ szOf s bk rm i) (h1 : szOf s bk rm i ≤ 131072)
    (hw : w' = wr.setCell ⟨w.heap.size + 1 + 1, i, none⟩ (.int .i64 (szOf s bk rm i)) ∨ w' = (wr.setCell ⟨w.heap.size + 1 + 1, i, none⟩ (.int .i64 (szOf s bk rm i))).drew) : SzRel2 w d t s bk rm kf bf (i + 1) w' := by
  obtain ⟨a, b, c, e, f, g0, g1⟩ := h
  have key : SzRel2 w d t s bk rm kf bf (i + 1) (wr.setCell ⟨w.heap.size + 1 + 1, i, none⟩ (.int .i64 (szOf s bk rm i))) := by
    refine ⟨?_, ?_, ?_, e.setCell (by simp; omega) _, fun j hj hj4 => ?_, ?_, ?_⟩
    · rw [Below.heap_setCell _ _ _ _ (by simp; omega)]; exact a
    · rw [Below.heap_setCell _ _ _ _ (by simp)]; exact b
    · rw [heap_setCell_same _ _ _ _ _ _ c, six_set _ (outTo (szOf s bk rm) (i + 1)) i _ hi (fun j _ => outTo_next _ i j)]
    · by_cases e : j = i
      · subst e; exact h4 hj4
      · exact f j (by omega) hj4
    · simp only [baseOf]; omega
    · simp only [baseOf]; omega
  rcases hw with rfl | rfl
  · exact key
  · obtain ⟨a, b, c, e, f, g⟩ := key
    exact ⟨a, b, c, e.drew, f, g⟩

theorem ref_slab_still (w : World) (k : Nat) (hk : k < 4) : Calls Try.prog 51 #[.int .i64 k] w fun e w' => e = .returned (.int .i64 (slab k)) ∧ w' = w := (ref_slab_in w k hk).mono fun _ _ ⟨h, h'⟩ => ⟨h, h'.symm⟩

set_option maxHeartbeats 1000000 in
theorem ref_sizes_in (w : World) (d t : Int) (s : Nat → Int) (bk rm : Int) (kf bf : Nat) (g0 : 1 ≤ d) (g1 : d ≤ 64) (g2 : 64 ≤ t) (g3 : t ≤ 256) (g4 : 0 ≤ bk) (g5 : bk ≤ 65536) (g6 : 0 ≤ rm) (g7 : rm ≤ 65536) :
    Calls Try.prog 40 #[.agg (confC d t s bk rm kf bf)] w fun e w' => SizesPost d t s bk rm w e w' := by
  unfold confC
  go_enter Try.func40, Try.ntmps40
  go_wp2_with fail
  go_loopw [5, 6] (fun al i wr => ∃ k : Nat, k ≤ 6 ∧ i = .int .i64 k ∧ al = .int .i64 (baseOf (szOf s bk rm) k) ∧ SzRel2 w d t s bk rm kf bf k wr) (fun _ i _ => 6 - (intOf i).toNat)
  case atStart => exact ⟨0, by omega, rfl, rfl, heap3_0 _ _ _ _, heap3_1 _ _ _ _, heap3_2 _ _ _ _, below_al3, (fun j hj => by omega), by simp [baseOf], by simp [baseOf]⟩
  case round =>
    obtain ⟨k, hk, rfl, rfl, hrel⟩ := hrel
    by_cases hlt : k < 4
    · have hlt4 : (k : Int) < 4 := by omega
      have hlt6 : (k : Int) < 6 := by omega
      have c1 := cell_at hrel.1 (2 + k)
      rw [conf_slab _ _ _ _ _ _ _ k hlt] at c1
      have c3 := cell_at hrel.2.2.1 k
      rw [six_get _ k (by omega)] at c3
      have f3 := free_at hrel.2.2.1 k
      have hk4 : ((k : Int) == 4) = false := by simp; omega
      have hk5 : ((k : Int) == 5) = false := by simp; omega
      have hA0 := hrel.2.2.2.2.2.1
      have hA1 := hrel.2.2.2.2.2.2
      have H := Lib.hid hrel
      clear hrel
      by_cases h0 : 0 ≤ s k
      · by_cases h1 : s k ≤ 512
        · have hm0 : 0 ≤ s k * slab k := Int.mul_nonneg h0 (by have := slab_lo k; omega)
          have hm1 : s k * slab k ≤ 131072 := by
            calc s k * slab k ≤ 512 * slab k := Int.mul_le_mul_of_nonneg_right h1 (by have := slab_lo k; omega)
              _ ≤ 131072 := by have := slab_hi k; omega
          have hwr : IntKind.i64.wrap (s k * slab k) = s k * slab k := IntWalk.i64_in _ (by omega)
          go_upto_region 11 with fail
          refine wp_region_still_tail 9 (by kernel_rfl) (by kernel_rfl) ?_
          simp only [List.take_succ_cons, List.take_zero, List.drop_succ_cons, List.drop_zero]
          repeat still_step
          still_call (ref_slab_still _ k hlt)
          repeat still_step
          refine wpStill_nil ?_
          change wpList _ _ _ _ _ (World.drew _)
          clear hwr
          go_wp2_with fail
          go_roundw
          case rel =>
            have e1 : szOf s bk rm k = s k * slab k := by unfold szOf; rw [if_pos hlt]
            refine ⟨k + 1, by omega, by go_num, ?_, ?_⟩
            · simp only [baseOf, e1]
            · have := H.out.put (w' := (wr.setCell ⟨w.heap.size + 1 + 1, k, none⟩ (.int .i64 (szOf s bk rm k))).drew) (by omega) (fun _ => ⟨h0, h1⟩) (by rw [e1]; exact hm0) (by rw [e1]; exact hm1) (.inr rfl)
              rw [e1] at this
              exact this
          case measure => simp [intOf]; omega
        · have hn : ¬ OkConf d t s bk rm := fun h => h1 (h.1.s1 k hlt)
          have HN := Lib.hid hn
          clear hn
          have H1 := Lib.hid H.out.2.1
          have H2 := Lib.hid H.out.2.2.1
          go_wp2_with (first
            | (refine wpList_load_row rfl 23 (.tmp 4) rfl (w.heap.size + 1 + 1) rfl 23 (six (outTo (szOf s bk rm) k)) (0, 0) _ H2.out Try.underlying23 rfl (six_info _) ?_)
            | (refine wpList_store_row rfl 23 (.tmp 2) (.tmp 65) rfl (w.heap.size + 1) (six (outTo (szOf s bk rm) k)) rfl rfl 23 (six fun _ => 0) H1.out (six_info _) (six_both _ _) (six_one _) ?_))
          refine bodyPost_ret (v := .tuple #[.agg (six (outTo (szOf s bk rm) k)), .bool false]) (results_cell_tmp rfl _ _ (w.heap.size + 1) _ _ (0, 0) _ _ rfl rfl (setRow_heap _ _ _ _ _ _ H1.out) Try.underlying23 rfl (six_info _)) rfl ⟨below_setRow H.out.2.2.2.1 (by omega) _, .inr ⟨HN.out, _, rfl⟩⟩
      · have hn : ¬ OkConf d t s bk rm := fun h => h0 (h.1.s0 k hlt)
        have HN := Lib.hid hn
        clear hn
        have H1 := Lib.hid H.out.2.1
        have H2 := Lib.hid H.out.2.2.1
        go_wp2_with (first
          | (refine wpList_load_row rfl 23 (.tmp 4) rfl (w.heap.size + 1 + 1) rfl 23 (six (outTo (szOf s bk rm) k)) (0, 0) _ H2.out Try.underlying23 rfl (six_info _) ?_)
          | (refine wpList_store_row rfl 23 (.tmp 2) (.tmp 65) rfl (w.heap.size + 1) (six (outTo (szOf s bk rm) k)) rfl rfl 23 (six fun _ => 0) H1.out (six_info _) (six_both _ _) (six_one _) ?_))
        refine bodyPost_ret (v := .tuple #[.agg (six (outTo (szOf s bk rm) k)), .bool false]) (results_cell_tmp rfl _ _ (w.heap.size + 1) _ _ (0, 0) _ _ rfl rfl (setRow_heap _ _ _ _ _ _ H1.out) Try.underlying23 rfl (six_info _)) rfl ⟨below_setRow H.out.2.2.2.1 (by omega) _, .inr ⟨HN.out, _, rfl⟩⟩
    · have h45 : k = 4 ∨ k = 5 ∨ k = 6 := by omega
      rcases h45 with rfl | rfl | rfl
      · have c1 : wr.cell? ⟨w.heap.size, 6, none⟩ = some (.int .i64 bk) := cell_at hrel.1 6
        have c3 : wr.cell? ⟨w.heap.size + 1 + 1, 4, none⟩ = some (.int .i64 (outTo (szOf s bk rm) 4 4)) := cell_at hrel.2.2.1 4
        have f3 := free_at hrel.2.2.1 4
        have hA0 := hrel.2.2.2.2.2.1
        have hA1 := hrel.2.2.2.2.2.2
        have H := Lib.hid hrel
        clear hrel
        go_wp2_with fail
        go_roundw
        case rel => exact ⟨5, by omega, rfl, rfl, H.out.put (by omega) (fun h => by omega) g4 (by simp [szOf]; omega) (.inl rfl)⟩
        case measure => simp [intOf]
      · have c1 : wr.cell? ⟨w.heap.size, 7, none⟩ = some (.int .i64 rm) := cell_at hrel.1 7
        have c3 : wr.cell? ⟨w.heap.size + 1 + 1, 5, none⟩ = some (.int .i64 (outTo (szOf s bk rm) 5 5)) := cell_at hrel.2.2.1 5
        have f3 := free_at hrel.2.2.1 5
        have hA0 := hrel.2.2.2.2.2.1
        have hA1 := hrel.2.2.2.2.2.2
        have H := Lib.hid hrel
        clear hrel
        go_wp2_with fail
        go_roundw
        case rel => exact ⟨6, by omega, rfl, rfl, H.out.put (by omega) (fun h => by omega) g6 (by simp [szOf]; omega) (.inl rfl)⟩
        case measure => simp [intOf]
      · have hlim : Lim d t s bk rm := ⟨g0, g1, g2, g3, fun k hk => (hrel.2.2.2.2.1 k (by omega) hk).1, fun k hk => (hrel.2.2.2.2.1 k (by omega) hk).2, g4, g5, g6, g7⟩
        have eo : six (outTo (szOf s bk rm) 6) = six (szOf s bk rm) := rfl
        have H1 := Lib.hid hrel.2.1
        have H2 := Lib.hid (eo ▸ hrel.2.2.1)
        have HB := Lib.hid hrel.2.2.2.1
        clear hrel eo
        by_cases hc : baseOf (szOf s bk rm) 6 ≤ 65536
        · have HC := Lib.hid (show OkConf d t s bk rm from ⟨hlim, hc⟩)
          clear hlim
          go_wp2_with (first
            | (refine wpList_load_row rfl 23 (.tmp 4) rfl (w.heap.size + 1 + 1) rfl 23 (six (szOf s bk rm)) (0, 0) _ H2.out Try.underlying23 rfl (six_info _) ?_)
            | (refine wpList_store_row rfl 23 (.tmp 2) (.tmp 92) rfl (w.heap.size + 1) (six (szOf s bk rm)) rfl rfl 23 (six fun _ => 0) H1.out (six_info _) (six_both _ _) (six_one _) ?_))
          refine bodyPost_ret (v := .tuple #[.agg (six (szOf s bk rm)), .bool true]) (results_cell_tmp rfl _ _ (w.heap.size + 1) _ _ (0, 0) _ _ rfl rfl (setRow_heap _ _ _ _ _ _ H1.out) Try.underlying23 rfl (six_info _)) rfl ⟨below_setRow HB.out (by omega) _, .inl ⟨HC.out, rfl⟩⟩
        · have HC := Lib.hid (show ¬ OkConf d t s bk rm from fun h => hc h.2)
          have hc' : decide (baseOf (szOf s bk rm) 6 ≤ 65536) = false := decide_eq_false hc
          clear hlim hc
          go_wp2_with (first
            | (refine wpList_load_row rfl 23 (.tmp 4) rfl (w.heap.size + 1 + 1) rfl 23 (six (szOf s bk rm)) (0, 0) _ H2.out Try.underlying23 rfl (six_info _) ?_)
            | (refine wpList_store_row rfl 23 (.tmp 2) (.tmp 92) rfl (w.heap.size + 1) (six (szOf s bk rm)) rfl rfl 23 (six fun _ => 0) H1.out (six_info _) (six_both _ _) (six_one _) ?_))
          refine bodyPost_ret (v := .tuple #[.agg (six (szOf s bk rm)), .bool false]) (results_cell_tmp rfl _ _ (w.heap.size + 1) _ _ (0, 0) _ _ rfl rfl (setRow_heap _ _ _ _ _ _ H1.out) Try.underlying23 rfl (six_info _)) rfl ⟨below_setRow HB.out (by omega) _, .inr ⟨HC.out, _, rfl⟩⟩

theorem ref_sizes_any (w : World) (d t : Int) (s : Nat → Int) (bk rm : Int) (kf bf : Nat) :
    Calls Try.prog 40 #[.agg (confC d t s bk rm kf bf)] w fun e w' => SizesPost d t s bk rm w e w' := by
  have no : ∀ {e : Ending} {w' : World}, ¬ Lim d t s bk rm → e = .returned (.tuple #[.agg (six fun _ => 0), .bool false]) ∧ Below w.heap.size w w' → SizesPost d t s bk rm w e w' := fun hn h => ⟨h.2, .inr ⟨fun h' => hn h'.1, _, h.1⟩⟩
  by_cases g0 : 1 ≤ d
  rotate_left; · exact (ref_sizes_c0 w d t s bk rm kf bf (by omega)).mono fun _ _ h => no (fun h' => g0 h'.d0) h
  by_cases g1 : d ≤ 64
  rotate_left; · exact (ref_sizes_c1 w d t s bk rm kf bf g0 (by omega)).mono fun _ _ h => no (fun h' => g1 h'.d1) h
  by_cases g2 : 64 ≤ t
  rotate_left; · exact (ref_sizes_c2 w d t s bk rm kf bf g0 g1 (by omega)).mono fun _ _ h => no (fun h' => g2 h'.t0) h
  by_cases g3 : t ≤ 256
  rotate_left; · exact (ref_sizes_c3 w d t s bk rm kf bf g0 g1 g2 (by omega)).mono fun _ _ h => no (fun h' => g3 h'.t1) h
  by_cases g4 : 0 ≤ bk
  rotate_left; · exact (ref_sizes_c4 w d t s bk rm kf bf g0 g1 g2 g3 (by omega)).mono fun _ _ h => no (fun h' => g4 h'.b0) h
  by_cases g5 : bk ≤ 65536
  rotate_left; · exact (ref_sizes_c5 w d t s bk rm kf bf g0 g1 g2 g3 g4 (by omega)).mono fun _ _ h => no (fun h' => g5 h'.b1) h
  by_cases g6 : 0 ≤ rm
  rotate_left; · exact (ref_sizes_c6 w d t s bk rm kf bf g0 g1 g2 g3 g4 g5 (by omega)).mono fun _ _ h => no (fun h' => g6 h'.r0) h
  by_cases g7 : rm ≤ 65536
  rotate_left; · exact (ref_sizes_c7 w d t s bk rm kf bf g0 g1 g2 g3 g4 g5 g6 (by omega)).mono fun _ _ h => no (fun h' => g7 h'.r1) h
  exact ref_sizes_in w d t s bk rm kf bf g0 g1 g2 g3 g4 g5 g6 g7
end Go.Proofs.Yteliaammffmmiaa
