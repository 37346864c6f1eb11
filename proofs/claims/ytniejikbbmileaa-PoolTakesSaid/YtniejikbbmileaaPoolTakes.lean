/-
  PROVED: the law PoolTakes returns true for every configuration, whatever is used and asked for, every pool and every number. No condition.
-/
import Derived.Test.YtniejikbbmileaaPoolArgs
import Derived.Test.YtniejikbbmileaaPoolG
import Derived.Test.YtniejikbbmileaaPoolFixed
import Derived.Test.YtniejikbbmileaaPoolJ
import Derived.Test.YtniejikbbmileaaPoolL
namespace Go.Proofs.Ytniejikbbmileaa.poolTakes
open Go.ChangeShapes Go.WideShapes Go.ChangeAt Go.RowKit

/-- Both calls of Take answer the same. -/
theorem takes (B S U : Nat → Int) (C T L k n : Int) (hs : ∀ j, j < 6 → S j ≤ 1000000) (hb0 : ∀ j, j < 6 → 0 ≤ B j) (hb1 : ∀ j, j < 6 → B j ≤ 1000000) : ∃ (A : Int) (X : Nat → Int) (E : Int),
    (∀ w, Calls Try.prog 12 #[.agg (planC B S C T L), .agg (six U), .int .i64 k, .int .i64 n] w fun e w' => e = .returned (.tuple #[.int .i64 A, .agg (six X), .int .i64 E]) ∧ Below w.heap.size w w') ∧
    (∀ w, Calls Try.prog 13 #[.agg (planC B S C T L), .agg (six U), .int .i64 k, .int .i64 n] w fun e w' => e = .returned (.tuple #[.int .i64 A, .agg (six X), .int .i64 E]) ∧ Below w.heap.size w w') := by
  by_cases k0 : k < 0
  · exact ⟨_, _, _, fun w => take_k w B S U C T L k n (.inl k0), fun w => ref_take_k0 w B S U C T L n k k0⟩
  by_cases k6 : 6 ≤ k
  · exact ⟨_, _, _, fun w => take_k w B S U C T L k n (.inr k6), fun w => ref_take_k6 w B S U C T L n k k6⟩
  obtain ⟨k, rfl⟩ := Int.eq_ofNat_of_zero_le (show 0 ≤ k by omega)
  have hk : k < 6 := by omega
  by_cases hn : n < 1
  · exact ⟨_, _, _, fun w => take_n w B S U C T L n k hk hn, fun w => ref_take_n w B S U C T L n k hk hn⟩
  have hn' : 1 ≤ n := by omega
  by_cases u0 : U k < 0
  · exact ⟨_, _, _, fun w => take_off w B S U C T L n k hk hn' (wB_no (.inl u0)), fun w => ref_take_u0 w B S U C T L n k hk hn' u0⟩
  by_cases us : S k < U k
  · exact ⟨_, _, _, fun w => take_off w B S U C T L n k hk hn' (wB_no (.inr us)), fun w => ref_take_us w B S U C T L n k hk hn' (by omega) us⟩
  by_cases hf : S k - U k < n
  · exact ⟨_, _, _, fun w => take_full w B S U C T L n k hk hn' (by omega) (by omega) (hs k hk) hf, fun w => ref_take_full w B S U C T L n k hk hn' (by omega) (by omega) (hs k hk) hf⟩
  · exact ⟨_, _, _, fun w => take_ok w B S U C T L n k hk hn' (by omega) (by omega) (hs k hk) (by omega) (hb0 k hk) (hb1 k hk), fun w => ref_take_ok w B S U C T L n k hk hn' (by omega) (by omega) (hs k hk) (by omega) (hb0 k hk) (hb1 k hk)⟩

theorem new_row {w : World} {old cs : Array Value} {t : TypeId} : ((w.alloc (.cells old t)).setRow w.heap.size cs).heap[w.heap.size]? = some (.cells cs t (0, 0)) ∧ Below w.heap.size w ((w.alloc (.cells old t)).setRow w.heap.size cs) :=
  ⟨setRow_heap _ _ _ _ _ _ (heap_alloc_new w _), below_setRow below_one (Nat.le_refl _) _⟩

/-- Where all lies behind the calls. -/
def At (w : World) (B S : Nat → Int) (C T L : Int) (U M X : Nat → Int) (p q1 q2 : Nat) (wr : World) : Prop :=
  wr.heap[w.heap.size + 1]? = some (.cells (six U) 26 (0, 0)) ∧ wr.heap[w.heap.size + 1 + 1]? = some (.cells (six M) 26 (0, 0)) ∧ wr.heap[p]? = some (.cells (planC B S C T L) 28 (0, 0)) ∧
  wr.heap[q1]? = some (.cells (six X) 26 (0, 0)) ∧ wr.heap[q2]? = some (.cells (six X) 26 (0, 0)) ∧ Below w.heap.size w wr
theorem At.below {w : World} {B S : Nat → Int} {C T L : Int} {U M X : Nat → Int} {p q1 q2 : Nat} {wr w' : World} (h : At w B S C T L U M X p q1 q2 wr) (hb : Below wr.heap.size wr w') : At w B S C T L U M X p q1 q2 w' := by
  obtain ⟨a, b, c, d, e, f⟩ := h
  exact ⟨(hb.block _ (lt_of_heap a)).trans a, (hb.block _ (lt_of_heap b)).trans b, (hb.block _ (lt_of_heap c)).trans c, (hb.block _ (lt_of_heap d)).trans d, (hb.block _ (lt_of_heap e)).trans e, f.trans (hb.mono f.size)⟩
theorem At.drew {w : World} {B S : Nat → Int} {C T L : Int} {U M X : Nat → Int} {p q1 q2 : Nat} {wr : World} (h : At w B S C T L U M X p q1 q2 wr) : At w B S C T L U M X p q1 q2 wr.drew := by
  obtain ⟨a, b, c, d, e, f⟩ := h
  exact ⟨a, b, c, d, e, f.drew⟩

set_option maxHeartbeats 2000000 in
theorem walk_ok (d t : Int) (s : Nat → Int) (bk rm : Int) (kf bf : Nat) (U M : Nat → Int) (k n : Int) (w : World) (h : OkConf d t s bk rm) :
    Calls Try.prog 4 #[.agg (confC d t s bk rm kf bf), .agg (six U), .agg (six M), .int .i64 k, .int .i64 n] w fun e w' => e = .returned (.bool true) ∧ Below w.heap.size w w' := by
  have key : ∃ (B S : Nat → Int) (C T L : Int), (∀ j, j < 6 → S j ≤ 1000000) ∧ (∀ j, j < 6 → 0 ≤ B j) ∧ (∀ j, j < 6 → B j ≤ 1000000) ∧
      (∀ w, Calls Try.prog 10 #[.agg (confC d t s bk rm kf bf)] w fun e w' => e = .returned (.tuple #[.agg (planC B S C T L), .int .i64 0]) ∧ Below w.heap.size w w') :=
    ⟨_, _, _, _, _, fun j _ => by have := szOf_hi h.1 j; omega, fun j _ => by have := baseOf_lo h.1 j; omega, fun j hj => by have := baseOf_hi h.1 j; omega, fun w => ref_lay_ok w d t s bk rm kf bf h⟩
  obtain ⟨B, S, C, T, L, hs, hb0, hb1, hlay⟩ := key
  obtain ⟨A, X, E, ht1, ht2⟩ := takes B S U C T L k n hs hb0 hb1
  have HL := Lib.hid hlay
  have HT1 := Lib.hid ht1
  have HT2 := Lib.hid ht2
  have HS := Lib.hid hs
  clear hlay ht1 ht2 hs hb0 hb1 h
  go_enter Try.func4, Try.ntmps4
  go_wp2_with (first
    | (refine wpList_load_row rfl 25 (.tmp 5) rfl w.heap.size rfl 25 (confC d t s bk rm kf bf) (0, 0) _ (heap3_0 w _ _ _) Try.underlying25 rfl (by kernel_rfl) ?_)
    | fail)
  refine (HL.out _).mono ?_; rintro e w1 ⟨rfl, hb1⟩
  have g1 := (hb1.block _ (by simp)).trans (heap3_1 w _ _ _)
  have g2 := (hb1.block _ (by simp)).trans (heap3_2 w _ _ _)
  have hB : Below w.heap.size w w1 := below_al3.trans (hb1.mono (by simp; omega))
  have hz1 : w.heap.size + 1 + 1 < w1.heap.size := lt_of_heap g2
  go_upto_region 4 with (first
    | (refine wpList_store_row rfl 28 (.tmp 11) (.tmp 22) rfl w1.heap.size (planC B S C T L) rfl rfl 28 (planC (fun _ => 0) (fun _ => 0) 0 0 0) (heap_alloc_new w1 _) (planC_info _ _ _ _ _) rfl (planC_one _ _ _ _ _) ?_)
    | fail)
  obtain ⟨w2, hw2⟩ : ∃ w2, w2 = (w1.alloc (.cells (planC (fun _ => 0) (fun _ => 0) 0 0 0) 28)).setRow w1.heap.size (planC B S C T L) := ⟨_, rfl⟩
  rw [show (w1.alloc (.cells #[.int .i64 0, .int .i64 0, .int .i64 0, .int .i64 0, .int .i64 0, .int .i64 0, .int .i64 0, .int .i64 0, .int .i64 0, .int .i64 0, .int .i64 0, .int .i64 0, .int .i64 0, .int .i64 0, .int .i64 0] 28)).setRow w1.heap.size (planC B S C T L) = w2 from hw2.symm]
  obtain ⟨g3, hb2⟩ : w2.heap[w1.heap.size]? = some (.cells (planC B S C T L) 28 (0, 0)) ∧ Below w1.heap.size w1 w2 := by rw [hw2]; exact new_row
  have g1 := (hb2.block _ (lt_of_heap g1)).trans g1
  have g2 := (hb2.block _ (lt_of_heap g2)).trans g2
  have hB := hB.trans (hb2.mono hB.size)
  obtain ⟨p, hp⟩ : ∃ p, p = w1.heap.size := ⟨_, rfl⟩
  rw [← hp] at g3 ⊢
  have hpB : w.heap.size + 1 + 1 < p := by rw [hp]; assumption
  clear hw2 hb1 hb2 hp
  have G1 := Lib.hid g1
  have G2 := Lib.hid g2
  have G3 := Lib.hid g3
  have HB := Lib.hid hB
  clear g1 g2 g3 hB
  go_wp2_with (first
    | (refine wpList_load_row rfl 28 (.tmp 11) rfl p rfl 28 (planC B S C T L) (0, 0) _ G3.out Try.underlying28 rfl (planC_info _ _ _ _ _) ?_)
    | (refine wpList_load_row rfl 26 (.tmp 6) rfl (w.heap.size + 1) rfl 26 (six U) (0, 0) _ G1.out Try.underlying26 rfl (six_info _) ?_)
    | fail)
  refine (HT1.out _).mono ?_; rintro e w3 ⟨rfl, hb3⟩
  have G1 := Lib.hid ((hb3.block _ (lt_of_heap G1.out)).trans G1.out)
  have G2 := Lib.hid ((hb3.block _ (lt_of_heap G2.out)).trans G2.out)
  have G3 := Lib.hid ((hb3.block _ (lt_of_heap G3.out)).trans G3.out)
  have HB := Lib.hid (HB.out.trans (hb3.mono HB.out.size))
  clear hb3
  go_upto_region 5 with (first
    | (refine wpList_store_row rfl 26 (.tmp 14) (.tmp 34) rfl w3.heap.size (six X) rfl rfl 26 (six fun _ => 0) (heap_alloc_new w3 _) (six_info _) (six_both _ _) (six_one _) ?_)
    | fail)
  obtain ⟨w4, hw4⟩ : ∃ w4, w4 = (w3.alloc (.cells (six fun _ => 0) 26)).setRow w3.heap.size (six X) := ⟨_, rfl⟩
  rw [show (w3.alloc (.cells #[.int .i64 0, .int .i64 0, .int .i64 0, .int .i64 0, .int .i64 0, .int .i64 0] 26)).setRow w3.heap.size (six X) = w4 from hw4.symm]
  obtain ⟨g4, hb4⟩ : w4.heap[w3.heap.size]? = some (.cells (six X) 26 (0, 0)) ∧ Below w3.heap.size w3 w4 := by rw [hw4]; exact new_row
  obtain ⟨q1, hq1⟩ : ∃ q1, q1 = w3.heap.size := ⟨_, rfl⟩
  rw [← hq1] at g4 ⊢
  have G1 := Lib.hid ((hb4.block _ (lt_of_heap G1.out)).trans G1.out)
  have G2 := Lib.hid ((hb4.block _ (lt_of_heap G2.out)).trans G2.out)
  have G3 := Lib.hid ((hb4.block _ (lt_of_heap G3.out)).trans G3.out)
  have G4 := Lib.hid g4
  have HB := Lib.hid (HB.out.trans (hb4.mono HB.out.size))
  clear hw4 hb4 hq1 g4
  go_wp2_with (first
    | (refine wpList_load_row rfl 28 (.tmp 11) rfl p rfl 28 (planC B S C T L) (0, 0) _ G3.out Try.underlying28 rfl (planC_info _ _ _ _ _) ?_)
    | (refine wpList_load_row rfl 26 (.tmp 6) rfl (w.heap.size + 1) rfl 26 (six U) (0, 0) _ G1.out Try.underlying26 rfl (six_info _) ?_)
    | fail)
  refine (HT2.out _).mono ?_; rintro e w5 ⟨rfl, hb5⟩
  have G1 := Lib.hid ((hb5.block _ (lt_of_heap G1.out)).trans G1.out)
  have G2 := Lib.hid ((hb5.block _ (lt_of_heap G2.out)).trans G2.out)
  have G3 := Lib.hid ((hb5.block _ (lt_of_heap G3.out)).trans G3.out)
  have G4 := Lib.hid ((hb5.block _ (lt_of_heap G4.out)).trans G4.out)
  have HB := Lib.hid (HB.out.trans (hb5.mono HB.out.size))
  clear hb5
  go_upto_region 6 with (first
    | (refine wpList_store_row rfl 26 (.tmp 17) (.tmp 43) rfl w5.heap.size (six X) rfl rfl 26 (six fun _ => 0) (heap_alloc_new w5 _) (six_info _) (six_both _ _) (six_one _) ?_)
    | fail)
  obtain ⟨w6, hw6⟩ : ∃ w6, w6 = (w5.alloc (.cells (six fun _ => 0) 26)).setRow w5.heap.size (six X) := ⟨_, rfl⟩
  rw [show (w5.alloc (.cells #[.int .i64 0, .int .i64 0, .int .i64 0, .int .i64 0, .int .i64 0, .int .i64 0] 26)).setRow w5.heap.size (six X) = w6 from hw6.symm]
  obtain ⟨g5, hb6⟩ : w6.heap[w5.heap.size]? = some (.cells (six X) 26 (0, 0)) ∧ Below w5.heap.size w5 w6 := by rw [hw6]; exact new_row
  obtain ⟨q2, hq2⟩ : ∃ q2, q2 = w5.heap.size := ⟨_, rfl⟩
  rw [← hq2] at g5 ⊢
  have hR0 : At w B S C T L U M X p q1 q2 w6 := ⟨(hb6.block _ (lt_of_heap G1.out)).trans G1.out, (hb6.block _ (lt_of_heap G2.out)).trans G2.out, (hb6.block _ (lt_of_heap G3.out)).trans G3.out, (hb6.block _ (lt_of_heap G4.out)).trans G4.out, g5, HB.out.trans (hb6.mono HB.out.size)⟩
  clear G1 G2 G3 G4 g5 hw6 hb6 HB hq2
  have heq : ∀ w, (Op.equalIn 10000 26 (.agg (six X)) (.agg (six X))).run Try.prog w = .ok true w := eq_six X 9998
  refine wp_region_by (fun (_ : Unit) j => [.bool true, .bool true, .agg (planC B S C T L), .agg (six U), .agg (six M), .bool (fitsB U M S), .agg (planC B S C T L), .agg (six U), .agg (six M), .bool (fitsB U M S), .bool true, .bool true, .bool true, .int .i64 A, .int .i64 A, .bool true, .bool true, .bool true, .agg (six X), .agg (six X), .bool true, .bool true, .bool true, .int .i64 E, .int .i64 E, .bool true, .bool true, .bool true].getD j undef) (fun _ _ wx => At w B S C T L U M X p q1 q2 wx) (by kernel_rfl) (by kernel_rfl)
    (fun q => by simp only [putTo, dstOf, Act.put, List.size_toArray, List.length_cons, List.length_nil, List.getElem?_toArray, Nat.reduceAdd, Option.bind_some, List.getElem?_cons_zero, List.getElem?_cons_succ, List.setIfInBounds_toArray, List.set_cons_zero, List.set_cons_succ, List.getD_cons_zero, List.getD_cons_succ]; exact rfl) () hR0.drew ?_ ?_
  · intro i o ho q l wx hR hl he K hK
    rcases i with _ | _ | _ | _ | _ | _ | _ | _ | _ | _ | _ | _ | _ | _ | _ | _ | _ | _ | _ | _ | _ | _ | _ | _ | _ | _ | _ | _ | i
    · obtain rfl : _ = o := Option.some.inj ho
      go_simp; refine (fixed_any _).mono ?_; rintro e w2 ⟨rfl, hb2⟩; exact hK () w2 (fun _ _ => rfl) (hR.below hb2)
    · obtain rfl : _ = o := Option.some.inj ho
      go_simp; exact hK () wx (fun _ _ => rfl) hR
    · obtain rfl : _ = o := Option.some.inj ho
      exact region_load_row rfl 28 (.tmp 11) rfl p rfl 28 (planC B S C T L) (0, 0) _ hR.2.2.1 Try.underlying28 rfl (planC_info _ _ _ _ _) (hK () wx (fun _ _ => rfl) hR)
    · obtain rfl : _ = o := Option.some.inj ho
      exact region_load_row rfl 26 (.tmp 6) rfl (w.heap.size + 1) rfl 26 (six U) (0, 0) _ hR.1 Try.underlying26 rfl (six_info _) (hK () wx (fun _ _ => rfl) hR)
    · obtain rfl : _ = o := Option.some.inj ho
      exact region_load_row rfl 26 (.tmp 7) rfl (w.heap.size + 1 + 1) rfl 26 (six M) (0, 0) _ hR.2.1 Try.underlying26 rfl (six_info _) (hK () wx (fun _ _ => rfl) hR)
    · obtain rfl : _ = o := Option.some.inj ho
      go_simp; refine (fits_any _ B S C T L U M HS.out).mono ?_; rintro e w2 ⟨rfl, hb2⟩; exact hK () w2 (fun _ _ => rfl) (hR.below hb2)
    · obtain rfl : _ = o := Option.some.inj ho
      exact region_load_row rfl 28 (.tmp 11) rfl p rfl 28 (planC B S C T L) (0, 0) _ hR.2.2.1 Try.underlying28 rfl (planC_info _ _ _ _ _) (hK () wx (fun _ _ => rfl) hR)
    · obtain rfl : _ = o := Option.some.inj ho
      exact region_load_row rfl 26 (.tmp 6) rfl (w.heap.size + 1) rfl 26 (six U) (0, 0) _ hR.1 Try.underlying26 rfl (six_info _) (hK () wx (fun _ _ => rfl) hR)
    · obtain rfl : _ = o := Option.some.inj ho
      exact region_load_row rfl 26 (.tmp 7) rfl (w.heap.size + 1 + 1) rfl 26 (six M) (0, 0) _ hR.2.1 Try.underlying26 rfl (six_info _) (hK () wx (fun _ _ => rfl) hR)
    · obtain rfl : _ = o := Option.some.inj ho
      go_simp; refine (ref_fits_any _ B S C T L U M HS.out).mono ?_; rintro e w2 ⟨rfl, hb2⟩; exact hK () w2 (fun _ _ => rfl) (hR.below hb2)
    · obtain rfl : _ = o := Option.some.inj ho
      go_simp; exact hK () wx (fun _ _ => rfl) hR
    · obtain rfl : _ = o := Option.some.inj ho
      go_simp; exact hK () wx (fun _ _ => rfl) hR
    · obtain rfl : _ = o := Option.some.inj ho
      go_simp; exact hK () wx (fun _ _ => rfl) hR
    · obtain rfl : _ = o := Option.some.inj ho
      go_simp; exact hK () wx (fun _ _ => rfl) hR
    · obtain rfl : _ = o := Option.some.inj ho
      go_simp; exact hK () wx (fun _ _ => rfl) hR
    · obtain rfl : _ = o := Option.some.inj ho
      go_simp; exact hK () wx (fun _ _ => rfl) hR
    · obtain rfl : _ = o := Option.some.inj ho
      go_simp; exact hK () wx (fun _ _ => rfl) hR
    · obtain rfl : _ = o := Option.some.inj ho
      go_simp; exact hK () wx (fun _ _ => rfl) hR
    · obtain rfl : _ = o := Option.some.inj ho
      exact region_load_row rfl 26 (.tmp 14) rfl q1 rfl 26 (six X) (0, 0) _ hR.2.2.2.1 Try.underlying26 rfl (six_info _) (hK () wx (fun _ _ => rfl) hR)
    · obtain rfl : _ = o := Option.some.inj ho
      exact region_load_row rfl 26 (.tmp 17) rfl q2 rfl 26 (six X) (0, 0) _ hR.2.2.2.2.1 Try.underlying26 rfl (six_info _) (hK () wx (fun _ _ => rfl) hR)
    · obtain rfl : _ = o := Option.some.inj ho
      go_simp; exact hK () wx (fun _ _ => rfl) hR
    · obtain rfl : _ = o := Option.some.inj ho
      go_simp; exact hK () wx (fun _ _ => rfl) hR
    · obtain rfl : _ = o := Option.some.inj ho
      go_simp; exact hK () wx (fun _ _ => rfl) hR
    · obtain rfl : _ = o := Option.some.inj ho
      go_simp; exact hK () wx (fun _ _ => rfl) hR
    · obtain rfl : _ = o := Option.some.inj ho
      go_simp; exact hK () wx (fun _ _ => rfl) hR
    · obtain rfl : _ = o := Option.some.inj ho
      go_simp; exact hK () wx (fun _ _ => rfl) hR
    · obtain rfl : _ = o := Option.some.inj ho
      go_simp; exact hK () wx (fun _ _ => rfl) hR
    · obtain rfl : _ = o := Option.some.inj ho
      go_simp; exact hK () wx (fun _ _ => rfl) hR
    · simp at ho
  · intro q l wx hl hR
    have HX := Lib.hid hR.2.2.2.2.2
    clear hR0 hR heq
    go_wp2_with fail
    go_ret
    exact ⟨rfl, HX.out⟩

set_option maxHeartbeats 1000000 in
theorem walk_bad (d t : Int) (s : Nat → Int) (bk rm : Int) (kf bf : Nat) (U M : Nat → Int) (k n : Int) (w : World) (h : ¬ OkConf d t s bk rm) :
    Calls Try.prog 4 #[.agg (confC d t s bk rm kf bf), .agg (six U), .agg (six M), .int .i64 k, .int .i64 n] w fun e w' => e = .returned (.bool true) ∧ Below w.heap.size w w' := by
  have HL := Lib.hid (fun w => ref_lay_bad w d t s bk rm kf bf h)
  clear h
  go_enter Try.func4, Try.ntmps4
  go_wp2_with (first
    | (refine wpList_load_row rfl 25 (.tmp 5) rfl w.heap.size rfl 25 (confC d t s bk rm kf bf) (0, 0) _ (heap3_0 w _ _ _) Try.underlying25 rfl (by kernel_rfl) ?_)
    | fail)
  refine (HL.out _).mono ?_; rintro e w1 ⟨rfl, hb1⟩
  have HB := Lib.hid (show Below w.heap.size w w1 from below_al3.trans (hb1.mono (by simp; omega)))
  clear hb1
  go_wp2_with (first
    | (refine wpList_store_row rfl 28 (.tmp 11) (.tmp 22) rfl w1.heap.size (planC (fun _ => 0) (fun _ => 0) 0 0 0) rfl rfl 28 (planC (fun _ => 0) (fun _ => 0) 0 0 0) (heap_alloc_new w1 _) (planC_info _ _ _ _ _) rfl (planC_one _ _ _ _ _) ?_)
    | fail)
  have HB := Lib.hid (below_setRow (HB.out.alloc HB.out.size (.cells (planC (fun _ => 0) (fun _ => 0) 0 0 0) 28)) HB.out.size (planC (fun _ => 0) (fun _ => 0) 0 0 0))
  refine (fixed_any _).mono ?_; rintro e w2 ⟨rfl, hb2⟩
  have HB := Lib.hid (HB.out.trans (hb2.mono HB.out.size))
  clear hb2
  go_wp2_with fail
  go_ret
  exact ⟨rfl, HB.out⟩

theorem walk_all (d t : Int) (s : Nat → Int) (bk rm : Int) (kf bf : Nat) (U M : Nat → Int) (k n : Int) (w : World) :
    Calls Try.prog 4 #[.agg (confC d t s bk rm kf bf), .agg (six U), .agg (six M), .int .i64 k, .int .i64 n] w fun e w' => e = .returned (.bool true) ∧ Below w.heap.size w w' := by
  by_cases h : OkConf d t s bk rm
  · exact walk_ok d t s bk rm kf bf U M k n w h
  · exact walk_bad d t s bk rm kf bf U M k n w h

set_option linter.unusedVariables false in
theorem walk {H : Type} {enc : TypeId × Value → H} (W : World) (args : Array Value) (ds : List (DataW H)) (hin : ArgsIn enc Try.prog Try.f4.params.toList W args ds) :
    Calls Try.prog 4 args W fun e W' => e = .returned (.bool true) ∧ Below W.heap.size W W' := by
  obtain ⟨⟨p, hA, hlt⟩, ⟨base, hval⟩, hsz⟩ := hin
  rw [Try.params4] at hA hval hsz
  obtain ⟨v0, vs0, d0, ds0, p0, q0, hargs, rfl, rfl, h0, r0⟩ := trodAll_cons hA
  obtain ⟨v1, vs1, d1, ds1, p1, q1, rfl, rfl, rfl, h1, r1⟩ := trodAll_cons r0
  obtain ⟨v2, vs2, d2, ds2, p2, q2, rfl, rfl, rfl, h2, r2⟩ := trodAll_cons r1
  obtain ⟨v3, vs3, d3, ds3, p3, q3, rfl, rfl, rfl, h3, r3⟩ := trodAll_cons r2
  obtain ⟨v4, vs4, d4, ds4, p4, q4, rfl, rfl, rfl, h4, r4⟩ := trodAll_cons r3
  obtain ⟨rfl, rfl, rfl⟩ := trodAll_nil r4
  obtain rfl : args = #[v0, v1, v2, v3, v4] := by cases args; simp_all
  obtain ⟨d,t,s,bk,rm,kf,bf,rfl,hs⟩ := open_conf (hval 0 25 v0 rfl rfl) h0
  obtain ⟨U,rfl⟩ := open_six (hval 1 26 v1 rfl rfl) h1
  obtain ⟨M,rfl⟩ := open_six (hval 2 26 v2 rfl rfl) h2
  obtain ⟨a3, rfl, rfl, rfl, w3⟩ := open_int Try.underlying3 (hval 3 3 v3 rfl rfl) h3
  obtain ⟨a4, rfl, rfl, rfl, w4⟩ := open_int Try.underlying3 (hval 4 3 v4 rfl rfl) h4
  exact walk_all d t s bk rm kf bf U M a3 a4 W

set_option maxRecDepth 100000 in
theorem proved : Rows.PoolTakesSaid :=
  OpenClaim.holds_of_wide 4 Try.f4 rfl rfl rfl rfl rfl rfl rfl ⟨rfl, rfl, rfl, rfl, rfl⟩ rfl rfl rfl rfl rfl (by kernel_rfl) Try.func4 (by kernel_rfl)
    (of_decide_eq_true (by kernel_rfl)) (by unfold Func.isWrapper; first | (rw [if_pos (by decide +kernel)]; kernel_rfl) | (rw [if_neg (by decide +kernel)]; exact ⟨rfl, rfl⟩))
    (fun os started H enc _ => law_lifted (s := Rows.poolTakesSpec) own started (by kernel_rfl) Try.func4 laidOut (by kernel_rfl) (by kernel_rfl) Try.underlying4 rfl
      (ChangeSpec.witness6 (enc := enc) (C := Try.checked) false ⟨#[], #[.agg #[.int .i64 0, .int .i64 0, .int .i64 0, .int .i64 0, .int .i64 0, .int .i64 0, .int .i64 0, .int .i64 0, .float .f64 0, .float .f64 0], .agg #[.int .i64 0, .int .i64 0, .int .i64 0, .int .i64 0, .int .i64 0, .int .i64 0], .agg #[.int .i64 0, .int .i64 0, .int .i64 0, .int .i64 0, .int .i64 0, .int .i64 0], .int .i64 0, .int .i64 0], []⟩ 8 (by kernel_rfl) (by kernel_rfl) (by kernel_rfl) (by kernel_rfl))
      (fun ds h => match ds, h with | [_, _, _, _, _], _ => rfl) walk)
#print axioms proved
end Go.Proofs.Ytniejikbbmileaa.poolTakes
