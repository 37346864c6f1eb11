/-
  The laws' plan of a configuration that isn't too great. Over the program's own text.
-/
import Derived.Test.YtiabmbkmahlhkaaPostCalls
import Derived.Test.YtiabmbkmahlhkaaPoolG
import Derived.Deep.WholeRow
namespace Go.Proofs.Ytiabmbkmahlhkaa
open Go.RowKit

theorem laid_of {d t : Int} {s : Nat → Int} {bk rm : Int} (h : OkConf d t s bk rm) : Laid (baseOf (szOf s bk rm)) (szOf s bk rm) (baseOf (szOf s bk rm) 6) where
  b0 := rfl
  next := fun _ _ => rfl
  c := rfl
  c1 := h.2
  s0 := fun k _ => szOf_lo h.1 k
  m := ⟨s, fun k hk => ⟨h.1.s0 k hk, by unfold szOf; rw [if_pos hk]⟩⟩

/-- Where the plan is laid, and it is told. -/
def PlanRel (w : World) (B S : Nat → Int) (C T L : Int) (p : Nat) (wr : World) : Prop :=
  wr.heap[p]? = some (.cells (planC B S C T L) 29 (0, 0)) ∧ w.heap.size + 2 ≤ p ∧ Below w.heap.size w wr
def isOk (er C : Int) : Bool := decide (er = 0) && decide (C ≤ 9000)

set_option maxRecDepth 100000 in
set_option maxHeartbeats 2000000 in
theorem plan_walk (w : World) (d t : Int) (s : Nat → Int) (bk rm : Int) (kf bf : Nat) (B S : Nat → Int) (C T L er : Int) (hlay : ∀ w, Calls Try.prog 21 #[.agg (confC d t s bk rm kf bf)] w fun e w' => e = .returned (.tuple #[.agg (planC B S C T L), .int .i64 er]) ∧ Below w.heap.size w w') :
    Calls Try.prog 6 #[.agg (confC d t s bk rm kf bf)] w fun e w' => e = .returned (.tuple #[.agg (planC B S C T L), .bool (isOk er C)]) ∧ Below w.heap.size w w' := by
  have HL := Lib.hid hlay
  clear hlay
  go_enter Try.func6, Try.ntmps6
  go_wp2_with (first
    | (refine wpList_load_row rfl 25 (.tmp 1) rfl w.heap.size rfl 25 (confC d t s bk rm kf bf) (0, 0) _ (heap2_0 w _ _) Try.underlying25 rfl (by kernel_rfl) ?_)
    | fail)
  refine (HL.out _).mono ?_; rintro e w1 ⟨rfl, hb1⟩
  have g1 : w1.heap[w.heap.size + 1]? = some (.cells (planC (fun _ => 0) (fun _ => 0) 0 0 0) 29 (0, 0)) := (hb1.block _ (by simp)).trans (heap2_1 w _ _)
  have hB : Below w.heap.size w w1 := below_al2.trans (hb1.mono (by simp; omega))
  have hz1 : w.heap.size + 1 < w1.heap.size := lt_of_heap g1
  go_upto_region 2 with (first
    | (refine wpList_store_row rfl 29 (.tmp 4) (.tmp 9) rfl w1.heap.size (planC B S C T L) rfl rfl 29 (planC (fun _ => 0) (fun _ => 0) 0 0 0) (heap_alloc_new w1 _) (planC_info _ _ _ _ _) rfl (planC_one _ _ _ _ _) ?_)
    | fail)
  rw [World.setRow_alloc_new]
  obtain ⟨w2, hw2⟩ : ∃ w2, w2 = w1.alloc (.cells (planC B S C T L) 29) := ⟨_, rfl⟩
  rw [← hw2]
  have g2 : w2.heap[w1.heap.size]? = some (.cells (planC B S C T L) 29 (0, 0)) := by rw [hw2]; exact heap_alloc_new _ _
  have g1 : w2.heap[w.heap.size + 1]? = some (.cells (planC (fun _ => 0) (fun _ => 0) 0 0 0) 29 (0, 0)) := by rw [hw2]; exact heap_below g1
  have hB : Below w.heap.size w w2 := by rw [hw2]; exact hB.alloc hB.size _
  obtain ⟨p, hp⟩ : ∃ p, p = w1.heap.size := ⟨_, rfl⟩
  rw [← hp] at g2 hz1 ⊢
  have H1 := Lib.hid g1
  have H2 := Lib.hid g2
  have HB := Lib.hid hB
  clear hw2 hp hb1 g1 g2 hB
  by_cases he : er = 0
  · subst he
    by_cases hc : C ≤ 9000
    · have hk : isOk 0 C = true := by simp [isOk, hc]
      have HKK := Lib.hid hk
      clear hk
      refine wp_region_by (fun (_ : Unit) j => [.agg (planC B S C T L), .int .i64 0, .bool true, .bool true, .pointer (some ⟨p, 12, none⟩), .int .i64 C, .bool true, .bool true, undef, .bool true].getD j undef)
        (fun _ l wx => wx.heap[p]? = some (.cells (planC B S C T L) 29 (0, 0)) ∧ (∃ B' S' C' T' L', wx.heap[w.heap.size + 1]? = some (.cells (planC B' S' C' T' L') 29 (0, 0))) ∧ (l 8 = true → wx.heap[w.heap.size + 1]? = some (.cells (planC B S C T L) 29 (0, 0))) ∧ Below w.heap.size w wx)
        (by kernel_rfl) (by kernel_rfl) (fun q => by simp only [putTo, dstOf, Act.put, List.size_toArray, List.length_cons, List.length_nil, List.getElem?_toArray, Nat.reduceAdd, Option.bind_some, List.getElem?_cons_zero, List.getElem?_cons_succ, List.setIfInBounds_toArray, List.set_cons_zero, List.set_cons_succ, List.getD_cons_zero, List.getD_cons_succ]; exact rfl) () ?_ ?_ ?_
      · exact ⟨H2.out, ⟨_, _, _, _, _, H1.out⟩, (fun h => by cases h), HB.out.drew⟩
      · intro i o ho q l wx hR hl he K hK
        rcases i with _ | _ | _ | _ | _ | _ | _ | _ | _ | _ | i
        · obtain rfl : _ = o := Option.some.inj ho
          refine wp_load_row 29 (.tmp 4) rfl p rfl 29 (planC B S C T L) (0, 0) _ hR.1 Try.underlying29 rfl (planC_info _ _ _ _ _) ?_
          exact hK () wx (fun _ _ => rfl) hR
        · obtain rfl : _ = o := Option.some.inj ho
          go_simp
          exact hK () wx (fun _ _ => rfl) hR
        · obtain rfl : _ = o := Option.some.inj ho
          go_simp
          exact hK () wx (fun _ _ => rfl) hR
        · obtain rfl : _ = o := Option.some.inj ho
          go_simp
          exact hK () wx (fun _ _ => rfl) hR
        · obtain rfl : _ = o := Option.some.inj ho
          go_simp
          exact hK () wx (fun _ _ => rfl) hR
        · obtain rfl : _ = o := Option.some.inj ho
          have c1 : wx.cell? ⟨p, 12, none⟩ = some (.int .i64 C) := cell_at hR.1 12
          go_simp
          exact hK () wx (fun _ _ => rfl) hR
        · obtain rfl : _ = o := Option.some.inj ho
          have hc' : decide (C ≤ 9000) = true := by simp [hc]
          go_simp
          exact hK () wx (fun _ _ => rfl) hR
        · obtain rfl : _ = o := Option.some.inj ho
          go_simp
          exact hK () wx (fun _ _ => rfl) hR
        · obtain rfl : _ = o := Option.some.inj ho
          obtain ⟨B', S', C', T', L', hV⟩ := hR.2.1
          refine wp_store_row 29 (.tmp 2) (.tmp 11) rfl (w.heap.size + 1) (planC B S C T L) rfl rfl 29 _ hV (planC_info _ _ _ _ _) rfl (planC_one _ _ _ _ _) ?_
          have hs := setRow_heap wx (w.heap.size + 1) _ (planC B S C T L) _ _ hV
          exact hK () _ (fun _ _ => rfl) ⟨(setRow_other _ _ _ _ (by omega)).trans hR.1, ⟨_, _, _, _, _, hs⟩, fun _ => hs, below_setRow hR.2.2.2 (by omega) _⟩
        · obtain rfl : _ = o := Option.some.inj ho
          go_simp
          exact hK () wx (fun _ _ => rfl) hR
        · simp at ho
      · intro q l wx hl hR
        have H4 := Lib.hid (hR.2.2.1 (hl 8 (by decide)))
        have HMX := Lib.hid hR.2.2.2
        clear hR hl H1 H2 HB
        go_wp2_with fail
        have h4 := H4.out
        refine bodyPost_ret (v := .tuple #[.agg (planC B S C T L), .bool true]) (results_cell_tmp rfl _ _ (w.heap.size + 1) _ _ (0, 0) _ _ rfl rfl h4 Try.underlying29 rfl (planC_info _ _ _ _ _)) rfl ⟨by rw [HKK.out], HMX.out⟩
    · have hk : isOk 0 C = false := by simp [isOk, hc]
      have HKK := Lib.hid hk
      clear hk
      refine wp_region_by (fun (_ : Unit) j => [.agg (planC B S C T L), .int .i64 0, .bool true, .bool true, .pointer (some ⟨p, 12, none⟩), .int .i64 C, .bool false, .bool false, undef, .bool false].getD j undef)
        (fun _ l wx => wx.heap[p]? = some (.cells (planC B S C T L) 29 (0, 0)) ∧ (∃ B' S' C' T' L', wx.heap[w.heap.size + 1]? = some (.cells (planC B' S' C' T' L') 29 (0, 0))) ∧ (l 8 = true → wx.heap[w.heap.size + 1]? = some (.cells (planC B S C T L) 29 (0, 0))) ∧ Below w.heap.size w wx)
        (by kernel_rfl) (by kernel_rfl) (fun q => by simp only [putTo, dstOf, Act.put, List.size_toArray, List.length_cons, List.length_nil, List.getElem?_toArray, Nat.reduceAdd, Option.bind_some, List.getElem?_cons_zero, List.getElem?_cons_succ, List.setIfInBounds_toArray, List.set_cons_zero, List.set_cons_succ, List.getD_cons_zero, List.getD_cons_succ]; exact rfl) () ?_ ?_ ?_
      · exact ⟨H2.out, ⟨_, _, _, _, _, H1.out⟩, (fun h => by cases h), HB.out.drew⟩
      · intro i o ho q l wx hR hl he K hK
        rcases i with _ | _ | _ | _ | _ | _ | _ | _ | _ | _ | i
        · obtain rfl : _ = o := Option.some.inj ho
          refine wp_load_row 29 (.tmp 4) rfl p rfl 29 (planC B S C T L) (0, 0) _ hR.1 Try.underlying29 rfl (planC_info _ _ _ _ _) ?_
          exact hK () wx (fun _ _ => rfl) hR
        · obtain rfl : _ = o := Option.some.inj ho
          go_simp
          exact hK () wx (fun _ _ => rfl) hR
        · obtain rfl : _ = o := Option.some.inj ho
          go_simp
          exact hK () wx (fun _ _ => rfl) hR
        · obtain rfl : _ = o := Option.some.inj ho
          go_simp
          exact hK () wx (fun _ _ => rfl) hR
        · obtain rfl : _ = o := Option.some.inj ho
          go_simp
          exact hK () wx (fun _ _ => rfl) hR
        · obtain rfl : _ = o := Option.some.inj ho
          have c1 : wx.cell? ⟨p, 12, none⟩ = some (.int .i64 C) := cell_at hR.1 12
          go_simp
          exact hK () wx (fun _ _ => rfl) hR
        · obtain rfl : _ = o := Option.some.inj ho
          have hc' : decide (C ≤ 9000) = false := by simp; omega
          go_simp
          exact hK () wx (fun _ _ => rfl) hR
        · obtain rfl : _ = o := Option.some.inj ho
          go_simp
          exact hK () wx (fun _ _ => rfl) hR
        · obtain rfl : _ = o := Option.some.inj ho
          obtain ⟨B', S', C', T', L', hV⟩ := hR.2.1
          refine wp_store_row 29 (.tmp 2) (.tmp 11) rfl (w.heap.size + 1) (planC B S C T L) rfl rfl 29 _ hV (planC_info _ _ _ _ _) rfl (planC_one _ _ _ _ _) ?_
          have hs := setRow_heap wx (w.heap.size + 1) _ (planC B S C T L) _ _ hV
          exact hK () _ (fun _ _ => rfl) ⟨(setRow_other _ _ _ _ (by omega)).trans hR.1, ⟨_, _, _, _, _, hs⟩, fun _ => hs, below_setRow hR.2.2.2 (by omega) _⟩
        · obtain rfl : _ = o := Option.some.inj ho
          go_simp
          exact hK () wx (fun _ _ => rfl) hR
        · simp at ho
      · intro q l wx hl hR
        have H4 := Lib.hid (hR.2.2.1 (hl 8 (by decide)))
        have HMX := Lib.hid hR.2.2.2
        clear hR hl H1 H2 HB
        go_wp2_with fail
        have h4 := H4.out
        refine bodyPost_ret (v := .tuple #[.agg (planC B S C T L), .bool false]) (results_cell_tmp rfl _ _ (w.heap.size + 1) _ _ (0, 0) _ _ rfl rfl h4 Try.underlying29 rfl (planC_info _ _ _ _ _)) rfl ⟨by rw [HKK.out], HMX.out⟩
  · have hk : isOk er C = false := by simp [isOk, he]
    have HKK := Lib.hid hk
    clear hk
    have he' : (er == 0) = false := by simpa using he
    refine wp_region_by (fun (_ : Unit) j => [.agg (planC B S C T L), .int .i64 er, .bool false, .bool false, undef, undef, undef, .bool false, undef, .bool false].getD j undef)
      (fun _ l wx => wx.heap[p]? = some (.cells (planC B S C T L) 29 (0, 0)) ∧ (∃ B' S' C' T' L', wx.heap[w.heap.size + 1]? = some (.cells (planC B' S' C' T' L') 29 (0, 0))) ∧ (l 8 = true → wx.heap[w.heap.size + 1]? = some (.cells (planC B S C T L) 29 (0, 0))) ∧ Below w.heap.size w wx)
      (by kernel_rfl) (by kernel_rfl) (fun q => by simp only [putTo, dstOf, Act.put, List.size_toArray, List.length_cons, List.length_nil, List.getElem?_toArray, Nat.reduceAdd, Option.bind_some, List.getElem?_cons_zero, List.getElem?_cons_succ, List.setIfInBounds_toArray, List.set_cons_zero, List.set_cons_succ, List.getD_cons_zero, List.getD_cons_succ]; exact rfl) () ?_ ?_ ?_
    · exact ⟨H2.out, ⟨_, _, _, _, _, H1.out⟩, (fun h => by cases h), HB.out.drew⟩
    · intro i o ho q l wx hR hl _ K hK
      rcases i with _ | _ | _ | _ | _ | _ | _ | _ | _ | _ | i
      · obtain rfl : _ = o := Option.some.inj ho
        refine wp_load_row 29 (.tmp 4) rfl p rfl 29 (planC B S C T L) (0, 0) _ hR.1 Try.underlying29 rfl (planC_info _ _ _ _ _) ?_
        exact hK () wx (fun _ _ => rfl) hR
      · obtain rfl : _ = o := Option.some.inj ho
        go_simp
        exact hK () wx (fun _ _ => rfl) hR
      · obtain rfl : _ = o := Option.some.inj ho
        go_simp
        exact hK () wx (fun _ _ => rfl) hR
      · obtain rfl : _ = o := Option.some.inj ho
        go_simp
        exact hK () wx (fun _ _ => rfl) hR
      · obtain rfl : _ = o := Option.some.inj ho
        go_simp
        exact hK () wx (fun _ _ => rfl) hR
      · obtain rfl : _ = o := Option.some.inj ho
        go_simp
        exact hK () wx (fun _ _ => rfl) hR
      · obtain rfl : _ = o := Option.some.inj ho
        go_simp
        exact hK () wx (fun _ _ => rfl) hR
      · obtain rfl : _ = o := Option.some.inj ho
        go_simp
        exact hK () wx (fun _ _ => rfl) hR
      · obtain rfl : _ = o := Option.some.inj ho
        obtain ⟨B', S', C', T', L', hV⟩ := hR.2.1
        refine wp_store_row 29 (.tmp 2) (.tmp 11) rfl (w.heap.size + 1) (planC B S C T L) rfl rfl 29 _ hV (planC_info _ _ _ _ _) rfl (planC_one _ _ _ _ _) ?_
        have hs := setRow_heap wx (w.heap.size + 1) _ (planC B S C T L) _ _ hV
        exact hK () _ (fun _ _ => rfl) ⟨(setRow_other _ _ _ _ (by omega)).trans hR.1, ⟨_, _, _, _, _, hs⟩, fun _ => hs, below_setRow hR.2.2.2 (by omega) _⟩
      · obtain rfl : _ = o := Option.some.inj ho
        go_simp
        exact hK () wx (fun _ _ => rfl) hR
      · simp at ho
    · intro q l wx hl hR
      have H4 := Lib.hid (hR.2.2.1 (hl 8 (by decide)))
      have HMX := Lib.hid hR.2.2.2
      clear hR hl H1 H2 HB
      go_wp2_with fail
      have h4 := H4.out
      refine bodyPost_ret (v := .tuple #[.agg (planC B S C T L), .bool false]) (results_cell_tmp rfl _ _ (w.heap.size + 1) _ _ (0, 0) _ _ rfl rfl h4 Try.underlying29 rfl (planC_info _ _ _ _ _)) rfl ⟨by rw [HKK.out], HMX.out⟩

/-- A plan of at most 9000 cells, or none. -/
theorem plan_at (d t : Int) (s : Nat → Int) (bk rm : Int) (kf bf : Nat) : ∃ (B S : Nat → Int) (C T L : Int) (b : Bool), (b = true → Laid B S C ∧ C ≤ 9000) ∧ ∀ w : World,
    Calls Try.prog 6 #[.agg (confC d t s bk rm kf bf)] w fun e w' => e = .returned (.tuple #[.agg (planC B S C T L), .bool b]) ∧ Below w.heap.size w w' := by
  by_cases h : OkConf d t s bk rm
  · exact ⟨_, _, _, _, _, _, fun hb => ⟨laid_of h, by simpa [isOk] using hb⟩, fun w => plan_walk w d t s bk rm kf bf _ _ _ _ _ _ fun w => ref_lay_ok w d t s bk rm kf bf h⟩
  · exact ⟨_, _, _, _, _, _, fun hb => by simp [isOk] at hb, fun w => plan_walk w d t s bk rm kf bf _ _ _ _ _ _ fun w => ref_lay_bad w d t s bk rm kf bf h⟩
end Go.Proofs.Ytiabmbkmahlhkaa
