/-
  PROVED: the law PoolRoom returns true for every configuration and every list of wants. No condition.
-/
import Derived.Test.YtniejikbbmileaaPoolArgs
import Derived.Test.YtniejikbbmileaaPoolWants
import Derived.Test.YtniejikbbmileaaPoolFixed
import Derived.Test.YtniejikbbmileaaPoolL
namespace Go.Proofs.Ytniejikbbmileaa.poolRoom
open Go.ChangeShapes Go.WideShapes Go.ChangeAt Go.RowKit

/-- So many cells of one pool alone. -/
def single (k : Nat) (n : Int) (j : Nat) : Int := if j = k then n else 0
theorem fits_single (U S : Nat → Int) (k : Nat) (n : Int) (hk : k < 6) (hn : 1 ≤ n) (hU : ∀ j, j < 6 → 0 ≤ U j ∧ U j ≤ S j) : fitsB U (single k n) S = decide (n ≤ S k - U k) := by
  by_cases h : n ≤ S k - U k
  · rw [decide_eq_true h]
    refine fitsB_yes fun j hj => okJ_iff.2 ?_
    have := hU j hj
    unfold single
    by_cases e : j = k
    · subst e; rw [if_pos rfl]; omega
    · rw [if_neg e]; omega
  · rw [decide_eq_false h]
    refine fitsB_no hk fun h' => h ?_
    have := h'.2.2.2
    unfold single at this
    rw [if_pos rfl] at this
    exact this
theorem fits_none (U S : Nat → Int) (hU : ∀ j, j < 6 → 0 ≤ U j ∧ U j ≤ S j) : fitsB U (fun _ => 0) S = true := fitsB_yes fun j hj => okJ_iff.2 (by have := hU j hj; omega)

/-- Behind i rounds: the plan, what is used so far. -/
def Rel (w : World) (p q : Nat) (B S : Nat → Int) (C T L : Int) (i : Nat) (wr : World) : Prop := ∃ U : Nat → Int, wr.heap[p]? = some (.cells (planC B S C T L) 28 (0, 0)) ∧ wr.heap[q]? = some (.cells (six U) 26 (0, 0)) ∧
  (∀ j, j < 6 → 0 ≤ U j ∧ U j ≤ S j) ∧ i ≤ 61 ∧ w.heap.size ≤ q ∧ p ≠ q ∧ Below w.heap.size w wr

structure Fit6 (B S : Nat → Int) : Prop where
  b0 : ∀ k, k < 6 → 0 ≤ B k
  b1 : ∀ k, k < 6 → B k ≤ 1000000
  s0 : ∀ k, k < 6 → 0 ≤ S k
  s1 : ∀ k, k < 6 → S k ≤ 1000000

theorem walk_bad (d t : Int) (s : Nat → Int) (bk rm : Int) (kf bf : Nat) (ao : Option Addr) (len cap : Nat) (w : World) (h : ¬ OkConf d t s bk rm) :
    Calls Try.prog 6 #[.agg (confC d t s bk rm kf bf), .slice ao len cap] w fun e w' => e = .returned (.bool true) ∧ Below w.heap.size w w' := by
  have HL := Lib.hid (fun w => lay_bad w d t s bk rm kf bf h)
  clear h
  go_enter Try.func6, Try.ntmps6
  go_wp2_with (first
    | (refine wpList_load_row rfl 25 (.tmp 2) rfl w.heap.size rfl 25 (confC d t s bk rm kf bf) (0, 0) _ (heap_alloc_new w _) Try.underlying25 rfl (by kernel_rfl) ?_)
    | fail)
  refine (HL.out _).mono ?_; rintro e w1 ⟨rfl, hb1⟩
  have HB := Lib.hid (show Below w.heap.size w w1 from below_one.trans (hb1.mono (by simp)))
  clear hb1
  go_wp2_with (first
    | (refine wpList_store_row rfl 28 (.tmp 5) (.tmp 18) rfl w1.heap.size (planC (fun _ => 0) (fun _ => 0) 0 0 0) rfl rfl 28 (planC (fun _ => 0) (fun _ => 0) 0 0 0) (heap_alloc_new w1 _) (planC_info _ _ _ _ _) rfl (planC_one _ _ _ _ _) ?_)
    | fail)
  have HB := Lib.hid (below_setRow (HB.out.alloc HB.out.size (.cells (planC (fun _ => 0) (fun _ => 0) 0 0 0) 28)) HB.out.size (planC (fun _ => 0) (fun _ => 0) 0 0 0))
  refine (fixed_any _).mono ?_; rintro e w2 ⟨rfl, hb2⟩
  have HB := Lib.hid (HB.out.trans (hb2.mono HB.out.size))
  clear hb2
  go_wp2_with fail
  go_ret
  exact ⟨rfl, HB.out⟩

set_option maxHeartbeats 2000000 in
set_option maxRecDepth 100000 in
theorem walk_ok (d t : Int) (s : Nat → Int) (bk rm : Int) (kf bf : Nat) (ao : Option Addr) (len cap : Nat) (E : Nat → WantOf) (w : World) (h : OkConf d t s bk rm) (hops : WantsAt w ao len E) :
    Calls Try.prog 6 #[.agg (confC d t s bk rm kf bf), .slice ao len cap] w fun e w' => e = .returned (.bool true) ∧ Below w.heap.size w w' := by
  have hshort := hops.short
  unfold maxLen at hshort
  have key : ∃ (B S : Nat → Int) (C T L : Int), Fit6 B S ∧
      (∀ w, Calls Try.prog 9 #[.agg (confC d t s bk rm kf bf)] w fun e w' => e = .returned (.tuple #[.agg (planC B S C T L), .int .i64 0]) ∧ Below w.heap.size w w') :=
    ⟨_, _, _, _, _, ⟨fun k _ => by have := baseOf_lo h.1 k; omega, fun k hk => by have := baseOf_hi h.1 k; omega, fun k _ => szOf_lo h.1 k, fun k _ => by have := szOf_hi h.1 k; omega⟩, fun w => lay_ok w d t s bk rm kf bf h⟩
  obtain ⟨B, S, C, T, L, hf, hlay⟩ := key
  have HL := Lib.hid hlay
  have HF := Lib.hid hf
  clear hlay hf h
  go_enter Try.func6, Try.ntmps6
  go_wp2_with (first
    | (refine wpList_load_row rfl 25 (.tmp 2) rfl w.heap.size rfl 25 (confC d t s bk rm kf bf) (0, 0) _ (heap_alloc_new w _) Try.underlying25 rfl (by kernel_rfl) ?_)
    | fail)
  refine (HL.out _).mono ?_; rintro e w1 ⟨rfl, hb1⟩
  have hB : Below w.heap.size w w1 := below_one.trans (hb1.mono (by simp))
  go_upto_region 4 with (first
    | (refine wpList_store_row rfl 28 (.tmp 5) (.tmp 18) rfl w1.heap.size (planC B S C T L) rfl rfl 28 (planC (fun _ => 0) (fun _ => 0) 0 0 0) (heap_alloc_new w1 _) (planC_info _ _ _ _ _) rfl (planC_one _ _ _ _ _) ?_)
    | fail)
  obtain ⟨w2, hw2⟩ : ∃ w2, w2 = (w1.alloc (.cells (planC (fun _ => 0) (fun _ => 0) 0 0 0) 28)).setRow w1.heap.size (planC B S C T L) := ⟨_, rfl⟩
  rw [show (w1.alloc (.cells #[.int .i64 0, .int .i64 0, .int .i64 0, .int .i64 0, .int .i64 0, .int .i64 0, .int .i64 0, .int .i64 0, .int .i64 0, .int .i64 0, .int .i64 0, .int .i64 0, .int .i64 0, .int .i64 0, .int .i64 0] 28)).setRow w1.heap.size (planC B S C T L) = w2 from hw2.symm]
  have g2 : w2.heap[w1.heap.size]? = some (.cells (planC B S C T L) 28 (0, 0)) := by rw [hw2]; exact setRow_heap _ _ _ _ _ _ (heap_alloc_new w1 _)
  have hB2 : Below w.heap.size w w2 := by rw [hw2]; exact below_setRow (hB.alloc hB.size _) hB.size _
  obtain ⟨p, hp⟩ : ∃ p, p = w1.heap.size := ⟨_, rfl⟩
  rw [← hp] at g2 ⊢
  clear hw2 hb1 hp hB
  obtain ⟨q, hq⟩ : ∃ q, q = w2.heap.size := ⟨_, rfl⟩
  have hr : Rel w p q B S C T L 0 (w2.alloc (.cells (six fun _ => 0) 26)) := by
    have := lt_of_heap g2
    refine ⟨fun _ => 0, (Below.heap_alloc _ _ _ (lt_of_heap g2)).trans g2, ?_, fun j hj => ⟨Int.le_refl 0, HF.out.s0 j hj⟩, by omega, by rw [hq]; exact hB2.size, by omega, hB2.alloc hB2.size _⟩
    rw [hq]
    exact heap_alloc_new w2 _
  clear g2 hB2
  go_upto_block 0 with fail
  rw [← hq]
  obtain ⟨w3, hw3⟩ : ∃ w3, w3 = w2.alloc (.cells (six fun _ => 0) 26) := ⟨_, rfl⟩
  rw [show w2.alloc (.cells #[.int .i64 0, .int .i64 0, .int .i64 0, .int .i64 0, .int .i64 0, .int .i64 0] 26) = w3 from hw3.symm]
  rw [← hw3] at hr
  clear hw3 hq
  go_cut [] (fun wx => ∃ j, Rel w p q B S C T L j wx)
  case first =>
    go_wp2_with fail
    go_loopw [25] (fun i wr => ∃ k' : Nat, k' ≤ len ∧ i = .int .i64 k' ∧ Rel w p q B S C T L k' wr) (fun i _ => len - (intOf i).toNat)
    case atStart => exact ⟨0, Nat.zero_le _, rfl, hr⟩
    case round =>
      clear hr
      obtain ⟨j, hj, rfl, hrel⟩ := hrel
      by_cases hlt : j < len
      · obtain ⟨b, off, rfl, hb, h0, h1⟩ := hops.cell j hlt
        obtain ⟨U, hp, hq, hU, hi, hwq, hpq, hbel⟩ := hrel
        have h0' := (hbel.cell (p := ⟨b, off + j * 2, none⟩) hb).trans h0
        have h1' := (hbel.cell (p := ⟨b, off + j * 2 + 1, none⟩) hb).trans h1
        obtain ⟨k, hk⟩ : ∃ k, k = (E j).k := ⟨_, rfl⟩
        obtain ⟨n, hn⟩ : ∃ n, n = (E j).n := ⟨_, rfl⟩
        rw [← hk] at h0'
        rw [← hn] at h1'
        clear h0 h1 hk hn
        have HP := Lib.hid hp
        have HQ := Lib.hid hq
        have HU := Lib.hid hU
        have HB := Lib.hid hbel
        clear hp hq hU hbel
        have hrel1 : ∀ w', Below wr.heap.size wr w' → Rel w p q B S C T L j w' := fun w' hb' => ⟨U, (hb'.block _ (lt_of_heap HP.out)).trans HP.out, (hb'.block _ (lt_of_heap HQ.out)).trans HQ.out, HU.out, hi, hwq, hpq, HB.out.trans (hb'.mono HB.out.size)⟩
        have hrel2 : ∀ w', j ≤ 60 → Below wr.heap.size wr w' → Rel w p q B S C T L (j + 1) w' := fun w' h6 hb' => ⟨U, (hb'.block _ (lt_of_heap HP.out)).trans HP.out, (hb'.block _ (lt_of_heap HQ.out)).trans HQ.out, HU.out, by omega, hwq, hpq, HB.out.trans (hb'.mono HB.out.size)⟩
        have HR1 := Lib.hid hrel1
        have HR2 := Lib.hid hrel2
        clear hrel1 hrel2
        by_cases h3 : j ≤ 60
        · by_cases k0 : k < 0
          · go_wp2_with fail
            go_roundw
            case rel => exact ⟨j + 1, by omega, by go_num, HR2.out _ h3 below_one⟩
            case measure => simp [intOf]; omega
          by_cases k6 : 5 < k
          · go_wp2_with fail
            go_roundw
            case rel => exact ⟨j + 1, by omega, by go_num, HR2.out _ h3 below_one⟩
            case measure => simp [intOf]; omega
          by_cases hn1 : n < 1
          · go_wp2_with fail
            go_roundw
            case rel => exact ⟨j + 1, by omega, by go_num, HR2.out _ h3 below_one⟩
            case measure => simp [intOf]; omega
          · obtain ⟨k, rfl⟩ := Int.eq_ofNat_of_zero_le (show 0 ≤ k by omega)
            have hk : k < 6 := by omega
            have hn : 1 ≤ n := by omega
            have hk6 : (k : Int) < 6 := by omega
            go_upto_region 11 with fail
            obtain ⟨x, hx⟩ : ∃ x, x = wr.heap.size := ⟨_, rfl⟩
            obtain ⟨w4, hw4⟩ : ∃ w4, w4 = (wr.alloc (.cells #[.int .i64 k, .int .i64 n] 45)).alloc (.cells (six fun _ => 0) 26) := ⟨_, rfl⟩
            rw [show (wr.alloc (.cells #[.int .i64 k, .int .i64 n] 45)).alloc (.cells #[.int .i64 0, .int .i64 0, .int .i64 0, .int .i64 0, .int .i64 0, .int .i64 0] 26) = w4 from hw4.symm]
            have j2 : w4.heap[x]? = some (.cells #[.int .i64 k, .int .i64 n] 45 (0, 0)) := by rw [hw4, hx]; exact heap2_0 _ _ _
            have j3 : w4.heap[x + 1]? = some (.cells (six fun _ => 0) 26 (0, 0)) := by rw [hw4, hx]; exact heap2_1 _ _ _
            have hb4 : Below wr.heap.size wr w4 := by rw [hw4]; exact below_al2
            have j0 := (hb4.block _ (lt_of_heap HP.out)).trans HP.out
            have j1 := (hb4.block _ (lt_of_heap HQ.out)).trans HQ.out
            have hB4 := HB.out.trans (hb4.mono HB.out.size)
            have px : p < x := by rw [hx]; exact lt_of_heap HP.out
            have qx : q < x := by rw [hx]; exact lt_of_heap HQ.out
            have wx : w.heap.size ≤ x := by omega
            rw [← hx]
            clear hw4 hb4 hx HR1 HR2 HP HQ HB h0' h1'
            have c0 : w4.cell? ⟨x, 0, none⟩ = some (.int .i64 k) := cell_at j2 0
            have c1 : w4.cell? ⟨x, 1, none⟩ = some (.int .i64 n) := cell_at j2 1
            have c2 : w4.cell? ⟨x + 1, k, none⟩ = some (.int .i64 0) := (cell_at j3 k).trans (six_get _ k hk)
            have f2 := free_at j3 k
            have J0 := Lib.hid j0
            have J1 := Lib.hid j1
            have J2 := Lib.hid j2
            have J3 := Lib.hid j3
            have HB4 := Lib.hid hB4
            clear j0 j1 j2 j3 hB4
            go_upto_region 12 with fail
            obtain ⟨w5, hw5⟩ : ∃ w5, w5 = w4.setCell ⟨x + 1, k, none⟩ (.int .i64 n) := ⟨_, rfl⟩
            rw [← hw5]
            have K0 := Lib.hid (show w5.heap[p]? = some (.cells (planC B S C T L) 28 (0, 0)) by rw [hw5, Below.heap_setCell _ _ _ _ (by simp; omega)]; exact J0.out)
            have K1 := Lib.hid (show w5.heap[q]? = some (.cells (six U) 26 (0, 0)) by rw [hw5, Below.heap_setCell _ _ _ _ (by simp; omega)]; exact J1.out)
            have K2 := Lib.hid (show w5.heap[x]? = some (.cells #[.int .i64 k, .int .i64 n] 45 (0, 0)) by rw [hw5, Below.heap_setCell _ _ _ _ (by simp)]; exact J2.out)
            have K3 := Lib.hid (show w5.heap[x + 1]? = some (.cells (six (single k n)) 26 (0, 0)) by rw [hw5, heap_setCell_same _ _ _ _ _ _ J3.out, six_set _ (single k n) k _ hk (fun y _ => rfl)])
            have HB := Lib.hid (show Below w.heap.size w w5 by rw [hw5]; exact HB4.out.setCell (by simp; omega) _)
            clear hw5 J0 J1 J2 J3 HB4 c0 c1 c2 f2
            by_cases hf : n ≤ S k - U k
            · skip
              have HFB := Lib.hid (show fitsB U (single k n) S = true by rw [fits_single U S k n hk hn HU.out]; exact decide_eq_true hf)
              have HFF := Lib.hid hf
              go_wp2_with (first
                | (refine wpList_load_row rfl 28 (.tmp 5) rfl p rfl 28 (planC B S C T L) (0, 0) _ K0.out Try.underlying28 rfl (planC_info _ _ _ _ _) ?_)
                | (refine wpList_load_row rfl 26 (.tmp 7) rfl q rfl 26 (six U) (0, 0) _ K1.out Try.underlying26 rfl (six_info _) ?_)
                | (refine wpList_load_row rfl 26 (.tmp 10) rfl (x + 1) rfl 26 (six (single k n)) (0, 0) _ K3.out Try.underlying26 rfl (six_info _) ?_)
                | fail)
              refine (fits_any _ B S C T L U (single k n) HF.out.s1).mono ?_; rintro e w6 ⟨rfl, hb6⟩
              rw [HFB.out]
              have K0 := Lib.hid ((hb6.block _ (lt_of_heap K0.out)).trans K0.out)
              have K1 := Lib.hid ((hb6.block _ (lt_of_heap K1.out)).trans K1.out)
              have k2 := (hb6.block _ (lt_of_heap K2.out)).trans K2.out
              have HB := Lib.hid (HB.out.trans (hb6.mono HB.out.size))
              have c0 : w6.cell? ⟨x, 0, none⟩ = some (.int .i64 k) := cell_at k2 0
              have c1 : w6.cell? ⟨x, 1, none⟩ = some (.int .i64 n) := cell_at k2 1
              clear hb6 k2
              go_wp2_with (first
                | (refine wpList_load_row rfl 28 (.tmp 5) rfl p rfl 28 (planC B S C T L) (0, 0) _ K0.out Try.underlying28 rfl (planC_info _ _ _ _ _) ?_)
                | (refine wpList_load_row rfl 26 (.tmp 7) rfl q rfl 26 (six U) (0, 0) _ K1.out Try.underlying26 rfl (six_info _) ?_)
                | fail)
              refine (take_ok _ B S U C T L n k hk hn (HU.out k hk).1 (HU.out k hk).2 (HF.out.s1 k hk) hf (HF.out.b0 k hk) (HF.out.b1 k hk)).mono ?_; rintro e w7 ⟨rfl, hb7⟩
              have K0 := Lib.hid ((hb7.block _ (lt_of_heap K0.out)).trans K0.out)
              have K1 := Lib.hid ((hb7.block _ (lt_of_heap K1.out)).trans K1.out)
              have HB := Lib.hid (HB.out.trans (hb7.mono HB.out.size))
              clear hb7 c0 c1
              go_upto_region 14 with (first
                | (refine wpList_store_row rfl 26 (.tmp 13) (.tmp 63) rfl w7.heap.size (six (more U k n)) rfl rfl 26 (six fun _ => 0) (heap_alloc_new w7 _) (six_info _) (six_both _ _) (six_one _) ?_)
                | fail)
              obtain ⟨w8, hw8⟩ : ∃ w8, w8 = (w7.alloc (.cells (six fun _ => 0) 26)).setRow w7.heap.size (six (more U k n)) := ⟨_, rfl⟩
              rw [show (w7.alloc (.cells #[.int .i64 0, .int .i64 0, .int .i64 0, .int .i64 0, .int .i64 0, .int .i64 0] 26)).setRow w7.heap.size (six (more U k n)) = w8 from hw8.symm]
              have k8 : w8.heap[w7.heap.size]? = some (.cells (six (more U k n)) 26 (0, 0)) := by rw [hw8]; exact setRow_heap _ _ _ _ _ _ (heap_alloc_new w7 _)
              have hb8 : Below w7.heap.size w7 w8 := by rw [hw8]; exact below_setRow below_one (Nat.le_refl _) _
              have K0 := Lib.hid ((hb8.block _ (lt_of_heap K0.out)).trans K0.out)
              have K1 := Lib.hid ((hb8.block _ (lt_of_heap K1.out)).trans K1.out)
              have HB := Lib.hid (HB.out.trans (hb8.mono HB.out.size))
              have K8 := Lib.hid k8
              obtain ⟨z, hz⟩ : ∃ z, z = w7.heap.size := ⟨_, rfl⟩
              rw [← hz] at K8 ⊢
              clear hw8 k8 hb8 hz
              go_wp2_with (first
                | (refine wpList_load_row rfl 26 (.tmp 13) rfl z rfl 26 (six (more U k n)) (0, 0) _ K8.out Try.underlying26 rfl (six_info _) ?_)
                | (refine wpList_store_row rfl 26 (.tmp 7) (.tmp 70) rfl q (six (more U k n)) rfl rfl 26 (six U) K1.out (six_info _) (six_both _ _) (six_one _) ?_)
                | fail)
              go_roundw
              case rel =>
                refine ⟨j + 1, by omega, by go_num, more U k n, (setRow_other _ _ _ _ hpq).trans K0.out, setRow_heap _ _ _ _ _ _ K1.out, fun y hy => ?_, by omega, hwq, hpq, below_setRow HB.out hwq _⟩
                have := HU.out y hy
                have := HFF.out
                unfold more
                by_cases e : y = k
                · subst e; rw [if_pos rfl]; omega
                · rw [if_neg e]; assumption
              case measure => simp [intOf]; omega
            · skip
              have HFB := Lib.hid (show fitsB U (single k n) S = false by rw [fits_single U S k n hk hn HU.out]; exact decide_eq_false hf)
              have HFF := Lib.hid hf
              go_wp2_with (first
                | (refine wpList_load_row rfl 28 (.tmp 5) rfl p rfl 28 (planC B S C T L) (0, 0) _ K0.out Try.underlying28 rfl (planC_info _ _ _ _ _) ?_)
                | (refine wpList_load_row rfl 26 (.tmp 7) rfl q rfl 26 (six U) (0, 0) _ K1.out Try.underlying26 rfl (six_info _) ?_)
                | (refine wpList_load_row rfl 26 (.tmp 10) rfl (x + 1) rfl 26 (six (single k n)) (0, 0) _ K3.out Try.underlying26 rfl (six_info _) ?_)
                | fail)
              refine (fits_any _ B S C T L U (single k n) HF.out.s1).mono ?_; rintro e w6 ⟨rfl, hb6⟩
              rw [HFB.out]
              have K0 := Lib.hid ((hb6.block _ (lt_of_heap K0.out)).trans K0.out)
              have K1 := Lib.hid ((hb6.block _ (lt_of_heap K1.out)).trans K1.out)
              have k2 := (hb6.block _ (lt_of_heap K2.out)).trans K2.out
              have HB := Lib.hid (HB.out.trans (hb6.mono HB.out.size))
              have c0 : w6.cell? ⟨x, 0, none⟩ = some (.int .i64 k) := cell_at k2 0
              have c1 : w6.cell? ⟨x, 1, none⟩ = some (.int .i64 n) := cell_at k2 1
              clear hb6 k2
              go_wp2_with (first
                | (refine wpList_load_row rfl 28 (.tmp 5) rfl p rfl 28 (planC B S C T L) (0, 0) _ K0.out Try.underlying28 rfl (planC_info _ _ _ _ _) ?_)
                | (refine wpList_load_row rfl 26 (.tmp 7) rfl q rfl 26 (six U) (0, 0) _ K1.out Try.underlying26 rfl (six_info _) ?_)
                | fail)
              refine (take_full _ B S U C T L n k hk hn (HU.out k hk).1 (HU.out k hk).2 (HF.out.s1 k hk) (by omega)).mono ?_; rintro e w7 ⟨rfl, hb7⟩
              have K0 := Lib.hid ((hb7.block _ (lt_of_heap K0.out)).trans K0.out)
              have K1 := Lib.hid ((hb7.block _ (lt_of_heap K1.out)).trans K1.out)
              have HB := Lib.hid (HB.out.trans (hb7.mono HB.out.size))
              clear hb7 c0 c1
              go_upto_region 14 with (first
                | (refine wpList_store_row rfl 26 (.tmp 13) (.tmp 63) rfl w7.heap.size (six fun _ => 0) rfl rfl 26 (six fun _ => 0) (heap_alloc_new w7 _) (six_info _) (six_both _ _) (six_one _) ?_)
                | fail)
              obtain ⟨w8, hw8⟩ : ∃ w8, w8 = (w7.alloc (.cells (six fun _ => 0) 26)).setRow w7.heap.size (six fun _ => 0) := ⟨_, rfl⟩
              rw [show (w7.alloc (.cells #[.int .i64 0, .int .i64 0, .int .i64 0, .int .i64 0, .int .i64 0, .int .i64 0] 26)).setRow w7.heap.size (six fun _ => 0) = w8 from hw8.symm]
              have k8 : w8.heap[w7.heap.size]? = some (.cells (six fun _ => 0) 26 (0, 0)) := by rw [hw8]; exact setRow_heap _ _ _ _ _ _ (heap_alloc_new w7 _)
              have hb8 : Below w7.heap.size w7 w8 := by rw [hw8]; exact below_setRow below_one (Nat.le_refl _) _
              have K0 := Lib.hid ((hb8.block _ (lt_of_heap K0.out)).trans K0.out)
              have K1 := Lib.hid ((hb8.block _ (lt_of_heap K1.out)).trans K1.out)
              have HB := Lib.hid (HB.out.trans (hb8.mono HB.out.size))
              have K8 := Lib.hid k8
              obtain ⟨z, hz⟩ : ∃ z, z = w7.heap.size := ⟨_, rfl⟩
              rw [← hz] at K8 ⊢
              clear hw8 k8 hb8 hz
              go_wp2_with fail
              go_roundw
              case rel => exact ⟨j + 1, by omega, by go_num, U, K0.out, K1.out, HU.out, by omega, hwq, hpq, HB.out⟩
              case measure => simp [intOf]; omega
        · go_wp2_with fail
          go_meet
          exact ⟨j, HR1.out _ below_one⟩
      · go_wp2_with fail
        go_meet
        exact ⟨j, hrel⟩
  case rest =>
    obtain ⟨j, U, hp, hq, hU, hi, hwq, hpq, hbel⟩ := hcut
    have HP := Lib.hid hp
    have HQ := Lib.hid hq
    have HB := Lib.hid hbel
    have HFB := Lib.hid (fits_none U S hU)
    clear hp hq hbel hU hr
    go_wp2_with fail
    refine (fixed_any _).mono ?_; rintro e w6 ⟨rfl, hb6⟩
    have HP := Lib.hid ((hb6.block _ (lt_of_heap HP.out)).trans HP.out)
    have HQ := Lib.hid ((hb6.block _ (lt_of_heap HQ.out)).trans HQ.out)
    have HB := Lib.hid (HB.out.trans (hb6.mono HB.out.size))
    clear hb6
    go_wp2_with (first
      | (refine wpList_load_row_g rfl 28 (.tmp 5) rfl p rfl 28 (planC B S C T L) (0, 0) _ HP.out Try.underlying28 rfl (planC_info _ _ _ _ _) ?_)
      | (refine wpList_load_row_g rfl 26 (.tmp 7) rfl q rfl 26 (six U) (0, 0) _ HQ.out Try.underlying26 rfl (six_info _) ?_)
      | fail)
    refine (fits_any _ B S C T L U (fun _ => 0) HF.out.s1).mono ?_; rintro e w7 ⟨rfl, hb7⟩
    rw [HFB.out]
    have HB := Lib.hid (HB.out.trans (hb7.mono HB.out.size))
    clear hb7
    go_wp2_with fail
    go_ret
    exact ⟨rfl, HB.out⟩

theorem walk_all (d t : Int) (s : Nat → Int) (bk rm : Int) (kf bf : Nat) (ao : Option Addr) (len cap : Nat) (E : Nat → WantOf) (w : World) (hops : WantsAt w ao len E) :
    Calls Try.prog 6 #[.agg (confC d t s bk rm kf bf), .slice ao len cap] w fun e w' => e = .returned (.bool true) ∧ Below w.heap.size w w' := by
  by_cases h : OkConf d t s bk rm
  · exact walk_ok d t s bk rm kf bf ao len cap E w h hops
  · exact walk_bad d t s bk rm kf bf ao len cap w h

set_option linter.unusedVariables false in
theorem walk {H : Type} {enc : TypeId × Value → H} (W : World) (args : Array Value) (ds : List (DataW H)) (hin : ArgsIn enc Try.prog Try.f6.params.toList W args ds) :
    Calls Try.prog 6 args W fun e W' => e = .returned (.bool true) ∧ Below W.heap.size W W' := by
  obtain ⟨⟨p, hA, hlt⟩, ⟨base, hval⟩, hsz⟩ := hin
  rw [Try.params6] at hA hval hsz
  obtain ⟨v0, vs0, d0, ds0, p0, q0, hargs, rfl, rfl, h0, r0⟩ := trodAll_cons hA
  obtain ⟨v1, vs1, d1, ds1, p1, q1, rfl, rfl, rfl, h1, r1⟩ := trodAll_cons r0
  obtain ⟨rfl, rfl, rfl⟩ := trodAll_nil r1
  obtain rfl : args = #[v0, v1] := by cases args; simp_all
  obtain ⟨d,t,s,bk,rm,kf,bf,rfl,hs⟩ := open_conf (hval 0 25 v0 rfl rfl) h0
  obtain ⟨ao,len,cap,E,rfl,hops⟩ := open_wants (hval 1 42 v1 rfl rfl) h1
  exact walk_all d t s bk rm kf bf ao len cap E W hops

set_option maxRecDepth 100000 in
theorem proved : Rows.PoolRoomSaid :=
  OpenClaim.holds_of_wide 6 Try.f6 rfl rfl rfl rfl rfl rfl rfl ⟨rfl, rfl, rfl, rfl, rfl⟩ rfl rfl rfl rfl rfl (by kernel_rfl) Try.func6 (by kernel_rfl)
    (of_decide_eq_true (by kernel_rfl)) (by unfold Func.isWrapper; first | (rw [if_pos (by decide +kernel)]; kernel_rfl) | (rw [if_neg (by decide +kernel)]; exact ⟨rfl, rfl⟩))
    (fun os started H enc _ => law_lifted (s := Rows.poolRoomSpec) own started (by kernel_rfl) Try.func6 laidOut (by kernel_rfl) (by kernel_rfl) Try.underlying4 rfl
      (ChangeSpec.witness6 (enc := enc) (C := Try.checked) false ⟨#[], #[.agg #[.int .i64 0, .int .i64 0, .int .i64 0, .int .i64 0, .int .i64 0, .int .i64 0, .int .i64 0, .int .i64 0, .float .f64 0, .float .f64 0], .slice none 0 0], []⟩ 8 (by kernel_rfl) (by kernel_rfl) (by kernel_rfl) (by kernel_rfl))
      (fun ds h => match ds, h with | [_, _], _ => rfl) walk)
#print axioms proved
end Go.Proofs.Ytniejikbbmileaa.poolRoom
