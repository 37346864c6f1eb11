/-
  Where the pools lie: what pool.Lay answers.
-/
import Derived.Test.YtniejikbbmileaaPoolC
import Derived.Test.YtniejikbbmileaaRets
import Derived.Test.YtniejikbbmileaaRegion
namespace Go.Proofs.Ytniejikbbmileaa
open Go.RowKit

/-- The first cell of a pool; of one pool more than there are: all cells. -/
def baseOf (S : Nat → Int) : Nat → Int
  | 0 => 3
  | k + 1 => baseOf S k + S k
/-- Behind i rounds. -/
def baseTo (S : Nat → Int) (i k : Nat) : Int := if k < i then baseOf S k else 0
def liveOf (d t : Int) : Int := 1 + 4 * d + slotsOf t

theorem sizes_lit (w : World) (d t : Int) (s : Nat → Int) (bk rm : Int) (kf bf : Nat) (h : Lim d t s bk rm) :
    Calls Try.prog 21 #[.agg (confC d t s bk rm kf bf)] w fun e w' => e = .returned (.agg #[.int .i64 (szOf s bk rm 0), .int .i64 (szOf s bk rm 1), .int .i64 (szOf s bk rm 2), .int .i64 (szOf s bk rm 3), .int .i64 (szOf s bk rm 4), .int .i64 (szOf s bk rm 5)]) ∧ Below w.heap.size w w' :=
  sizes_any w d t s bk rm kf bf h
theorem planC_one (B S : Nat → Int) (C T L : Int) : (planC B S C T L).all (·.oneCell') = true := by simp [planC, Value.oneCell']
theorem planC_both (B S B' S' : Nat → Int) (C T L C' T' L' : Int) : (planC B S C T L).size = (planC B' S' C' T' L').size := rfl
theorem planC_info (B S : Nat → Int) (C T L : Int) : (Try.prog.info? 28).map (·.size) = some (planC B S C T L).size := by kernel_rfl

theorem planC_base (B S : Nat → Int) (C T L : Int) (k : Nat) (hk : k < 6) : (planC B S C T L)[k]? = some (.int .i64 (B k)) := by
  rcases below6 hk with rfl | rfl | rfl | rfl | rfl | rfl <;> rfl
theorem planC_size (B S : Nat → Int) (C T L : Int) (k : Nat) (hk : k < 6) : (planC B S C T L)[6 + k]? = some (.int .i64 (S k)) := by
  rcases below6 hk with rfl | rfl | rfl | rfl | rfl | rfl <;> rfl
theorem planC_setBase (B S B' : Nat → Int) (C T L : Int) (k : Nat) (x : Int) (hk : k < 6) (h : ∀ j, j < 6 → B' j = if j = k then x else B j) : (planC B S C T L).setIfInBounds k (.int .i64 x) = planC B' S C T L := by
  have h0 := h 0 (by omega)
  have h1 := h 1 (by omega)
  have h2 := h 2 (by omega)
  have h3 := h 3 (by omega)
  have h4 := h 4 (by omega)
  have h5 := h 5 (by omega)
  rcases below6 hk with rfl | rfl | rfl | rfl | rfl | rfl <;> simp at h0 h1 h2 h3 h4 h5 <;> simp [planC, h0, h1, h2, h3, h4, h5]
theorem planC_setCells (B S : Nat → Int) (C T L x : Int) : (planC B S C T L).setIfInBounds 12 (.int .i64 x) = planC B S x T L := rfl
theorem planC_setLive (B S : Nat → Int) (C T L x : Int) : (planC B S C T L).setIfInBounds 14 (.int .i64 x) = planC B S C T x := rfl
theorem baseTo_next (S : Nat → Int) (k j : Nat) : baseTo S (k + 1) j = if j = k then baseOf S k else baseTo S k j := by
  unfold baseTo
  by_cases e : j = k
  · subst e; simp
  · by_cases a : j < k
    · simp [e, a, show j < k + 1 by omega]
    · simp [e, a, show ¬ j < k + 1 by omega]

/-- The configuration's copy at one block, the answer's variable at the next. -/
def LayAt (w : World) (d t : Int) (s : Nat → Int) (bk rm : Int) (kf bf : Nat) (wr : World) : Prop :=
  wr.heap[w.heap.size]? = some (.cells (confC d t s bk rm kf bf) 25 (0, 0)) ∧ wr.heap[w.heap.size + 1]? = some (.cells (planC (fun _ => 0) (fun _ => 0) 0 0 0) 28 (0, 0)) ∧ Below w.heap.size w wr

theorem LayAt.below {w : World} {d t : Int} {s : Nat → Int} {bk rm : Int} {kf bf : Nat} {wr w' : World} (h : LayAt w d t s bk rm kf bf wr) (hb : Below wr.heap.size wr w') : LayAt w d t s bk rm kf bf w' :=
  ⟨(hb.block _ (lt_of_heap h.1)).trans h.1, (hb.block _ (lt_of_heap h.2.1)).trans h.2.1, h.2.2.trans (hb.mono h.2.2.size)⟩

theorem LayAt.setCell {w : World} {d t : Int} {s : Nat → Int} {bk rm : Int} {kf bf : Nat} {wr : World} (h : LayAt w d t s bk rm kf bf wr) {p : Addr} (hp : w.heap.size + 2 ≤ p.block) (v : Value) : LayAt w d t s bk rm kf bf (wr.setCell p v) :=
  ⟨by rw [Below.heap_setCell _ _ _ _ (by omega)]; exact h.1, by rw [Below.heap_setCell _ _ _ _ (by omega)]; exact h.2.1, h.2.2.setCell (by omega) _⟩
theorem LayAt.drew {w : World} {d t : Int} {s : Nat → Int} {bk rm : Int} {kf bf : Nat} {wr : World} (h : LayAt w d t s bk rm kf bf wr) : LayAt w d t s bk rm kf bf wr.drew := ⟨h.1, h.2.1, h.2.2.drew⟩
theorem baseOf_lo {d t : Int} {s : Nat → Int} {bk rm : Int} (h : Lim d t s bk rm) : ∀ k, 3 ≤ baseOf (szOf s bk rm) k
  | 0 => by simp [baseOf]
  | k + 1 => by have := baseOf_lo h k; have := szOf_lo h k; simp only [baseOf]; omega
theorem baseOf_hi {d t : Int} {s : Nat → Int} {bk rm : Int} (h : Lim d t s bk rm) : ∀ k, baseOf (szOf s bk rm) k ≤ 3 + 131072 * k
  | 0 => by simp [baseOf]
  | k + 1 => by have := baseOf_hi h k; have := szOf_hi h k; simp only [baseOf]; omega
theorem slotsOf_lo (t : Int) : 128 ≤ slotsOf t := by unfold slotsOf; split; omega; split <;> omega
theorem slotsOf_hi (t : Int) : slotsOf t ≤ 512 := by unfold slotsOf; split; omega; split <;> omega

theorem lay_bad1 (w : World) (d t : Int) (s : Nat → Int) (bk rm : Int) (kf bf : Nat) (h : ¬ Lim d t s bk rm) :
    Calls Try.prog 9 #[.agg (confC d t s bk rm kf bf)] w fun e w' => e = .returned (.tuple #[.agg (planC (fun _ => 0) (fun _ => 0) 0 0 0), .int .i64 1]) ∧ Below w.heap.size w w' := by
  unfold confC
  go_enter Try.func9, Try.ntmps9
  go_wp2_with fail
  refine (inLimits_no _ d t s bk rm kf bf h).mono ?_; rintro e w1 ⟨rfl, hb1⟩
  have hz : w.heap.size + 1 < w1.heap.size := by have := hb1.size; simp at this; omega
  have h2 := (hb1.block (w.heap.size + 1) (by simp)).trans (heap2_1 _ _ _)
  have H2 := Lib.hid h2
  have HB := Lib.hid hb1
  clear h2 hb1 hz
  go_wp2_with (first
    | (refine wpList_store_row rfl 28 (.tmp 2) (.tmp 9) rfl (w.heap.size + 1) (planC (fun _ => 0) (fun _ => 0) 0 0 0) rfl rfl 28 (planC (fun _ => 0) (fun _ => 0) 0 0 0) H2.out (planC_info _ _ _ _ _) rfl (planC_one _ _ _ _ _) ?_))
  refine bodyPost_ret (v := .tuple #[.agg (planC (fun _ => 0) (fun _ => 0) 0 0 0), .int .i64 1]) (results_cell_tmp rfl _ _ (w.heap.size + 1) _ _ (0, 0) _ _ rfl rfl (setRow_heap _ _ _ _ _ _ H2.out) Try.underlying28 rfl (planC_info _ _ _ _ _)) rfl ⟨rfl, ?_⟩
  exact below_setRow (below_al2.trans (HB.out.mono (by simp; omega))) (by omega) _

set_option maxHeartbeats 1000000 in
theorem lay_walk (w : World) (d t : Int) (s : Nat → Int) (bk rm : Int) (kf bf : Nat) (h : Lim d t s bk rm) :
    Calls Try.prog 9 #[.agg (confC d t s bk rm kf bf)] w fun e w' => e = .returned (if baseOf (szOf s bk rm) 6 ≤ 65536 then .tuple #[.agg (planC (baseOf (szOf s bk rm)) (szOf s bk rm) (baseOf (szOf s bk rm) 6) (slotsOf t) (liveOf d t)), .int .i64 0] else .tuple #[.agg (planC (fun _ => 0) (fun _ => 0) 0 0 0), .int .i64 1]) ∧ Below w.heap.size w w' := by
  obtain ⟨R, hR⟩ : ∃ R, R = (if baseOf (szOf s bk rm) 6 ≤ 65536 then Value.tuple #[.agg (planC (baseOf (szOf s bk rm)) (szOf s bk rm) (baseOf (szOf s bk rm) 6) (slotsOf t) (liveOf d t)), .int .i64 0] else .tuple #[.agg (planC (fun _ => 0) (fun _ => 0) 0 0 0), .int .i64 1]) := ⟨_, rfl⟩
  rw [← hR]
  have HR := Lib.hid hR
  clear hR
  unfold confC
  go_enter Try.func9, Try.ntmps9
  go_wp2_with fail
  refine (inLimits_yes _ d t s bk rm kf bf h).mono ?_; rintro e w1 ⟨rfl, hb1⟩
  have h1 := (hb1.block w.heap.size (by simp; omega)).trans (heap2_0 _ _ _)
  have h2 := (hb1.block (w.heap.size + 1) (by simp)).trans (heap2_1 _ _ _)
  have hr : LayAt w d t s bk rm kf bf w1 := ⟨h1, h2, below_al2.trans (hb1.mono (by simp; omega))⟩
  clear h1 h2 hb1
  go_upto_region 3 with fail
  go_cut [4] (fun p wx => ∃ q, p = .pointer (some ⟨q, 0, none⟩) ∧ w.heap.size + 2 ≤ q ∧ wx.heap[q]? = some (.cells (planC (fun _ => 0) (szOf s bk rm) 3 (slotsOf t) 0) 28 (0, 0)) ∧ LayAt w d t s bk rm kf bf wx)
  case first =>
    refine wp_region_by (fun (q : Nat) j => [.agg #[.int .i64 d, .int .i64 t, .int .i64 (s 0), .int .i64 (s 1), .int .i64 (s 2), .int .i64 (s 3), .int .i64 bk, .int .i64 rm, .float .f64 kf, .float .f64 bf], .agg #[.int .i64 (szOf s bk rm 0), .int .i64 (szOf s bk rm 1), .int .i64 (szOf s bk rm 2), .int .i64 (szOf s bk rm 3), .int .i64 (szOf s bk rm 4), .int .i64 (szOf s bk rm 5)], .pointer (some ⟨w.heap.size, 1, none⟩), .int .i64 t, .int .i64 (slotsOf t), .agg #[.int .i64 0, .int .i64 0, .int .i64 0, .int .i64 0, .int .i64 0, .int .i64 0, .int .i64 (szOf s bk rm 0), .int .i64 (szOf s bk rm 1), .int .i64 (szOf s bk rm 2), .int .i64 (szOf s bk rm 3), .int .i64 (szOf s bk rm 4), .int .i64 (szOf s bk rm 5), .int .i64 3, .int .i64 (slotsOf t), .int .i64 0], .pointer (some ⟨q, 0, none⟩)].getD j undef)
      (fun q l wx => LayAt w d t s bk rm kf bf wx ∧ (l 7 = true → l 6 = true) ∧ (l 6 = true → w.heap.size + 2 ≤ q ∧ wx.heap[q]? = some (.cells (if l 7 then planC (fun _ => 0) (szOf s bk rm) 3 (slotsOf t) 0 else planC (fun _ => 0) (fun _ => 0) 0 0 0) 28 (0, 0))))
      (by kernel_rfl) (by kernel_rfl) (fun q => by simp only [putTo, dstOf, Act.put, List.size_toArray, List.length_cons, List.length_nil, List.getElem?_toArray, Nat.reduceAdd, Option.bind_some, List.getElem?_cons_zero, List.getElem?_cons_succ, List.setIfInBounds_toArray, List.set_cons_zero, List.set_cons_succ, List.getD_cons_zero, List.getD_cons_succ]; exact rfl) 0 ?_ ?_ ?_
    · exact ⟨⟨hr.1, hr.2.1, hr.2.2.drew⟩, (fun h => by cases h), fun h => by cases h⟩
    · intro i o ho q l wx hR hl he K hK
      have hsz := lt_of_heap hR.1.2.1
      rcases i with _ | _ | _ | _ | _ | _ | _ | _ | i
      · obtain rfl : _ = o := Option.some.inj ho
        refine wp_load_row 25 (.tmp 1) rfl w.heap.size rfl 25 (confC d t s bk rm kf bf) (0, 0) _ hR.1.1 Try.underlying25 rfl (by kernel_rfl) ?_
        exact hK q wx (fun _ _ => rfl) hR
      · obtain rfl : _ = o := Option.some.inj ho
        go_simp
        refine (sizes_any _ d t s bk rm kf bf h).mono ?_; rintro e w2 ⟨rfl, hb2⟩
        exact hK q w2 (fun _ _ => rfl) ⟨hR.1.below hb2, hR.2.1, fun h6 => ⟨(hR.2.2 h6).1, (hb2.block q (lt_of_heap (hR.2.2 h6).2)).trans (hR.2.2 h6).2⟩⟩
      · obtain rfl : _ = o := Option.some.inj ho
        go_simp
        exact hK q wx (fun _ _ => rfl) hR
      · obtain rfl : _ = o := Option.some.inj ho
        have c1 : wx.cell? ⟨w.heap.size, 1, none⟩ = some (.int .i64 t) := cell_at hR.1.1 1
        go_simp
        exact hK q wx (fun _ _ => rfl) hR
      · obtain rfl : _ = o := Option.some.inj ho
        go_simp
        refine (slots_any _ t h.t0 h.t1).mono ?_; rintro e w2 ⟨rfl, rfl⟩
        exact hK q wx (fun _ _ => rfl) hR
      · obtain rfl : _ = o := Option.some.inj ho
        go_simp
        exact hK q wx (fun _ _ => rfl) hR
      · obtain rfl : _ = o := Option.some.inj ho
        go_simp
        refine hK wx.heap.size _ (fun j hj => ?_) ⟨hR.1.below below_one, (fun _ => rfl), fun _ => ⟨by omega, ?_⟩⟩
        · rcases j with _ | _ | _ | _ | _ | _ | _ | j
          all_goals first | rfl | (rw [hl] at hj; cases hj)
        · have h7 : l 7 = false := by
            cases h : l 7 with
            | false => rfl
            | true => have := hR.2.1 h; rw [hl] at this; cases this
          rw [if_neg (by show ¬ ((7 == 6 || l 7) = true); rw [h7]; decide)]
          exact heap_alloc_new _ _
      · obtain rfl : _ = o := Option.some.inj ho
        have h6 := he ⟨6, .data⟩ (by simp) rfl
        obtain ⟨hq1, hq2⟩ := hR.2.2 h6
        rw [if_neg (by rw [hl]; decide)] at hq2
        refine wp_store_row 28 (.tmp 4) (.tmp 15) rfl q (planC (fun _ => 0) (szOf s bk rm) 3 (slotsOf t) 0) rfl rfl 28 _ hq2 (planC_info _ _ _ _ _) rfl (planC_one _ _ _ _ _) ?_
        refine hK q _ (fun _ _ => rfl) ⟨?_, (fun _ => h6), fun _ => ⟨hq1, setRow_heap _ _ _ _ _ _ hq2⟩⟩
        exact ⟨(setRow_other _ _ _ _ (by omega)).trans hR.1.1, (setRow_other _ _ _ _ (by omega)).trans hR.1.2.1, below_setRow hR.1.2.2 (by omega) _⟩
      · simp at ho
    · intro q l wx hl hR
      have h6 := hl 6 (by decide)
      have h7 := hl 7 (by decide)
      obtain ⟨hq1, hq2⟩ := hR.2.2 h6
      rw [if_pos h7] at hq2
      have hL := hR.1
      clear hR
      go_wp2_with fail
      go_meet
      exact ⟨q, rfl, hq1, hq2, hL⟩
  case rest =>
    obtain ⟨q, rfl, hq1, hq2, hL⟩ := hcut
    have hlim := h
    clear h
    go_wp2_with fail
    go_loopw [16] (fun i wr => ∃ k : Nat, k ≤ 6 ∧ i = .int .i64 k ∧ wr.heap[q]? = some (.cells (planC (baseTo (szOf s bk rm) k) (szOf s bk rm) (baseOf (szOf s bk rm) k) (slotsOf t) 0) 28 (0, 0)) ∧ LayAt w d t s bk rm kf bf wr) (fun i _ => 6 - (intOf i).toNat)
    case atStart => exact ⟨0, by omega, rfl, hq2, hL⟩
    case round =>
      obtain ⟨k, hk, rfl, hq, hL⟩ := hrel
      by_cases hlt : k < 6
      · have hlt6 : (k : Int) < 6 := by omega
        have c1 : wr.cell? ⟨q, k, none⟩ = some (.int .i64 (baseTo (szOf s bk rm) k k)) := (cell_at hq k).trans (planC_base _ _ _ _ _ k hlt)
        have c2 : wr.cell? ⟨q, 12, none⟩ = some (.int .i64 (baseOf (szOf s bk rm) k)) := cell_at hq 12
        have f1 := free_at hq k
        have HQ := Lib.hid hq
        have HL := Lib.hid hL
        clear hq hL
        go_upto_region 8 with fail
        obtain ⟨w5, hw5⟩ : ∃ w5, w5 = wr.setCell ⟨q, k, none⟩ (.int .i64 (baseOf (szOf s bk rm) k)) := ⟨_, rfl⟩
        rw [← hw5]
        have hq5 : w5.heap[q]? = some (.cells (planC (baseTo (szOf s bk rm) (k + 1)) (szOf s bk rm) (baseOf (szOf s bk rm) k) (slotsOf t) 0) 28 (0, 0)) := by
          rw [hw5, heap_setCell_same _ _ _ _ _ _ HQ.out, planC_setBase _ _ _ _ _ _ k _ hlt (fun j _ => baseTo_next _ k j)]
        have hL5 : LayAt w d t s bk rm kf bf w5 := by
          rw [hw5]
          exact HL.out.setCell hq1 _
        clear c1 c2 f1 hw5
        have c2 : w5.cell? ⟨q, 12, none⟩ = some (.int .i64 (baseOf (szOf s bk rm) k)) := cell_at hq5 12
        have c3 : w5.cell? ⟨q, 6 + k, none⟩ = some (.int .i64 (szOf s bk rm k)) := (cell_at hq5 (6 + k)).trans (planC_size _ _ _ _ _ k hlt)
        have f2 := free_at hq5 12
        have b0 := baseOf_lo hlim k
        have b1 := baseOf_hi hlim k
        have s0 := szOf_lo hlim k
        have s1 := szOf_hi hlim k
        have HQ5 := Lib.hid hq5
        have HL5 := Lib.hid hL5
        clear hq5 hL5
        go_still_tail 8, (by kernel_rfl)
        change wpList _ _ _ _ _ w5.drew
        go_wp2_with fail
        go_roundw
        case rel =>
          refine ⟨k + 1, by omega, by go_num, ?_, ?_⟩
          · change (World.heap (World.setCell _ _ _))[_]? = _
            rw [heap_setCell_same _ _ _ _ _ _ HQ5.out, planC_setCells]; rfl
          · exact (HL5.out.setCell hq1 _).drew
        case measure => simp [intOf]; omega
      · obtain rfl : k = 6 := by omega
        have c2 : wr.cell? ⟨q, 12, none⟩ = some (.int .i64 (baseOf (szOf s bk rm) 6)) := cell_at hq 12
        have c3 : wr.cell? ⟨w.heap.size, 0, none⟩ = some (.int .i64 d) := cell_at hL.1 0
        have c4 : wr.cell? ⟨q, 13, none⟩ = some (.int .i64 (slotsOf t)) := cell_at hq 13
        have c5 : wr.cell? ⟨q, 14, none⟩ = some (.int .i64 0) := cell_at hq 14
        have f5 := free_at hq 14
        have t0 := slotsOf_lo t
        have t1 := slotsOf_hi t
        have d0 := hlim.d0
        have d1 := hlim.d1
        have HQ := Lib.hid hq
        have HL := Lib.hid hL
        clear hq hL
        by_cases hc : baseOf (szOf s bk rm) 6 ≤ 65536
        · go_upto_region 13 with fail
          obtain ⟨w6, hw6⟩ : ∃ w6, w6 = wr.setCell ⟨q, 14, none⟩ (.int .i64 (1 + 4 * d + slotsOf t)) := ⟨_, rfl⟩
          rw [← hw6]
          have hq6 : w6.heap[q]? = some (.cells (planC (baseOf (szOf s bk rm)) (szOf s bk rm) (baseOf (szOf s bk rm) 6) (slotsOf t) (liveOf d t)) 28 (0, 0)) := by
            rw [hw6, heap_setCell_same _ _ _ _ _ _ HQ.out, planC_setLive]; rfl
          have hL6 : LayAt w d t s bk rm kf bf w6 := by
            rw [hw6]
            exact HL.out.setCell hq1 _
          clear hw6 HQ HL c2 c3 c4 c5 f5
          have H2 := Lib.hid hL6.2.1
          have HQ6 := Lib.hid hq6
          have HB := Lib.hid hL6.2.2
          clear hq6 hL6
          go_wp2_with (first
            | (refine wpList_load_row rfl 28 (.tmp 4) rfl q rfl 28 (planC (baseOf (szOf s bk rm)) (szOf s bk rm) (baseOf (szOf s bk rm) 6) (slotsOf t) (liveOf d t)) (0, 0) _ HQ6.out Try.underlying28 rfl (planC_info _ _ _ _ _) ?_)
            | (refine wpList_store_row rfl 28 (.tmp 2) (.tmp 45) rfl (w.heap.size + 1) (planC (baseOf (szOf s bk rm)) (szOf s bk rm) (baseOf (szOf s bk rm) 6) (slotsOf t) (liveOf d t)) rfl rfl 28 (planC (fun _ => 0) (fun _ => 0) 0 0 0) H2.out (planC_info _ _ _ _ _) rfl (planC_one _ _ _ _ _) ?_))
          refine bodyPost_ret (v := .tuple #[.agg (planC (baseOf (szOf s bk rm)) (szOf s bk rm) (baseOf (szOf s bk rm) 6) (slotsOf t) (liveOf d t)), .int .i64 0]) (results_cell_tmp rfl _ _ (w.heap.size + 1) _ _ (0, 0) _ _ rfl rfl (setRow_heap _ _ _ _ _ _ H2.out) Try.underlying28 rfl (planC_info _ _ _ _ _)) rfl ⟨by rw [HR.out, if_pos hc], ?_⟩
          exact below_setRow HB.out (by omega) _
        · have H2 := Lib.hid HL.out.2.1
          have HC := Lib.hid hc
          go_wp2_with (first
            | (refine wpList_store_row rfl 28 (.tmp 2) (.tmp 36) rfl (w.heap.size + 1) (planC (fun _ => 0) (fun _ => 0) 0 0 0) rfl rfl 28 (planC (fun _ => 0) (fun _ => 0) 0 0 0) H2.out (planC_info _ _ _ _ _) rfl (planC_one _ _ _ _ _) ?_))
          refine bodyPost_ret (v := .tuple #[.agg (planC (fun _ => 0) (fun _ => 0) 0 0 0), .int .i64 1]) (results_cell_tmp rfl _ _ (w.heap.size + 1) _ _ (0, 0) _ _ rfl rfl (setRow_heap _ _ _ _ _ _ H2.out) Try.underlying28 rfl (planC_info _ _ _ _ _)) rfl ⟨by have := HC.out; rw [HR.out, if_neg (by omega)], ?_⟩
          exact below_setRow HL.out.2.2 (by omega) _

/-- May a configuration be? -/
def OkConf (d t : Int) (s : Nat → Int) (bk rm : Int) : Prop := Lim d t s bk rm ∧ baseOf (szOf s bk rm) 6 ≤ 65536
theorem lay_ok (w : World) (d t : Int) (s : Nat → Int) (bk rm : Int) (kf bf : Nat) (h : OkConf d t s bk rm) :
    Calls Try.prog 9 #[.agg (confC d t s bk rm kf bf)] w fun e w' => e = .returned (.tuple #[.agg (planC (baseOf (szOf s bk rm)) (szOf s bk rm) (baseOf (szOf s bk rm) 6) (slotsOf t) (liveOf d t)), .int .i64 0]) ∧ Below w.heap.size w w' :=
  (lay_walk w d t s bk rm kf bf h.1).mono fun _ _ ⟨he, hb⟩ => ⟨by rw [he, if_pos h.2], hb⟩
theorem lay_bad (w : World) (d t : Int) (s : Nat → Int) (bk rm : Int) (kf bf : Nat) (h : ¬ OkConf d t s bk rm) :
    Calls Try.prog 9 #[.agg (confC d t s bk rm kf bf)] w fun e w' => e = .returned (.tuple #[.agg (planC (fun _ => 0) (fun _ => 0) 0 0 0), .int .i64 1]) ∧ Below w.heap.size w w' := by
  by_cases hl : Lim d t s bk rm
  · exact (lay_walk w d t s bk rm kf bf hl).mono fun _ _ ⟨he, hb⟩ => ⟨by rw [he, if_neg fun h' => h ⟨hl, h'⟩], hb⟩
  · exact lay_bad1 w d t s bk rm kf bf hl
end Go.Proofs.Ytniejikbbmileaa
