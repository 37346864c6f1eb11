/-
  What post.Need keeps: slab by slab it comes to what the chapter says of the words one by one. Over the program's own text.
-/
import Derived.Test.YtiabmbkmahlhkaaPostLandsA
namespace Go.Proofs.Ytiabmbkmahlhkaa
open Go.RowKit

/-! ### Slab by slab -/
def needL (m : Int) (k j : Nat) : Int := if 0 < m then needS m.toNat 0 k j else 0
theorem needS_left : ∀ (l n k j : Nat), needS n (l : Int) k j = needL ((n : Int) - (l : Int)) k j
  | 0, n, k, j => by
    unfold needL
    cases n with
    | zero => rw [if_neg (by omega)]; rfl
    | succ n => rw [if_pos (by omega)]; congr 1
  | l + 1, n, k, j => by
    cases n with
    | zero => unfold needL; rw [if_neg (by omega)]; rfl
    | succ n =>
      rw [needS_succ, if_neg (by omega), show ((l + 1 : Nat) : Int) - 1 = (l : Int) by omega, needS_left l n k j]
      congr 1
      omega
theorem needL_step (m : Int) (hm : 0 < m) (k j : Nat) : needL m k j = (if j = k then slab k else 0) + needL (m - (slab k - 1)) (up k) j := by
  obtain ⟨n, rfl⟩ := Int.eq_ofNat_of_zero_le (show 0 ≤ m by omega)
  obtain ⟨q, rfl⟩ : ∃ q, n = q + 1 := ⟨n - 1, by omega⟩
  have hs := slab_lo k
  obtain ⟨s, hs2⟩ := Int.eq_ofNat_of_zero_le (show 0 ≤ slab k - 2 by omega)
  have e : needL ((q + 1 : Nat) : Int) k j = needS (q + 1) 0 k j := by
    unfold needL
    rw [if_pos hm]
    congr 1
  rw [e, needS_succ, if_pos rfl, hs2, needS_left s q (up k) j]
  congr 2
  omega
theorem up_min (k : Nat) : up k = if 3 < k + 1 then 3 else k + 1 := by unfold up; split <;> split <;> omega

set_option maxRecDepth 100000 in
set_option maxHeartbeats 1000000 in
theorem lands_need (w : World) (B S : Nat → Int) (C T L t n : Int) (hL : Laid B S C) (n0 : -9223372036854775808 ≤ n) (n1 : n ≤ 3000) :
    Calls Try.prog 18 #[.agg (planC B S C T L), .int .i64 t, .int .i64 n] w fun e w' => e = .returned (.agg (six (needZ B S t n))) ∧ Below w.heap.size w w' := by
  have HR := Lib.hid (fun w => room_any hL T L t w)
  obtain ⟨rk, hrk⟩ : ∃ rk, rk = roomK B S t := ⟨_, rfl⟩
  obtain ⟨rf, hrf⟩ : ∃ rf, rf = roomF B S t := ⟨_, rfl⟩
  rw [← hrk, ← hrf] at HR
  by_cases hr : rightT B S t
  · obtain ⟨hlf, m0, hm0, hm4, hnx⟩ := room_right hL hr
    have hin := leftT_in hL hr
    rw [← hlf, ← hrf] at hin
    rw [← hrk] at hm0
    rw [decide_eq_true hr] at HR
    obtain ⟨N, hN⟩ : ∃ N, N = n.toNat := ⟨_, rfl⟩
    have HZ := Lib.hid (show ∀ j, needL ((N : Int) - rf) (nextT B S t) j = needZ B S t n j from fun j => by
      obtain ⟨l, hl⟩ := Int.eq_ofNat_of_zero_le hin.1
      unfold needZ
      rw [if_pos hr, ← hlf, ← hrf, hl, needS_left, hN])
    obtain ⟨k0, hk0⟩ : ∃ k0, k0 = nextT B S t := ⟨_, rfl⟩
    rw [← hk0] at HZ hin hnx
    have hN3 : N ≤ 3000 := by omega
    have hn6 : (if (1000000 : Int) < n then (1000000 : Int) else n) = n := by rw [if_neg (by omega)]
    have hkb1 : ∀ (ts : Array TypeId) (t : TypeId) (w : World), (Builtin.min_ ts t #[.int .i64 n, .int .i64 1000000]).run Try.prog w = .ok (.int .i64 n) w := fun ts t w => by rw [run_min_int2, hn6]
    have hkb2 : ∀ (ts : Array TypeId) (t : TypeId) (w : World), (Builtin.max_ ts t #[.int .i64 0, .int .i64 n]).run Try.prog w = .ok (.int .i64 (N : Int)) w := fun ts t w => by rw [run_max_int2]; congr 3; split <;> omega
    have s1 : IntKind.i64.wrap ((N : Int) - rf) = (N : Int) - rf := IntWalk.i64_in _ (by omega)
    have HM := Lib.hid (And.intro hm0 hnx)
    clear hr hrk hrf hlf hL hN hk0 hn6 hm0 hnx
    go_enter Try.func18, Try.ntmps18
    go_upto_region 2 with fail
    have hw : (((w.alloc (.cells (planC B S C T L) 29)).alloc (.cells #[.int .i64 0, .int .i64 0, .int .i64 0, .int .i64 0, .int .i64 0, .int .i64 0] 27)).alloc (.cells #[.int .i64 0, .int .i64 0, .int .i64 0, .int .i64 0, .int .i64 0, .int .i64 0] 27)) = (((w.alloc (.cells (planC B S C T L) 29)).alloc (.cells (six fun _ => 0) 27)).alloc (.cells (six fun _ => 0) 27)) := rfl
    rw [hw]
    have hF : NeedRel w (fun _ => 0) (((w.alloc (.cells (planC B S C T L) 29)).alloc (.cells (six fun _ => 0) 27)).alloc (.cells (six fun _ => 0) 27)) := ⟨heap3_1 w _ _ _, heap3_2 w _ _ _, below_al3⟩
    have hP : (((w.alloc (.cells (planC B S C T L) 29)).alloc (.cells (six fun _ => 0) 27)).alloc (.cells (six fun _ => 0) 27)).heap[w.heap.size]? = some (.cells (planC B S C T L) 29 (0, 0)) := heap3_0 w _ _ _
    generalize (((w.alloc (.cells (planC B S C T L) 29)).alloc (.cells (six fun _ => 0) 27)).alloc (.cells (six fun _ => 0) 27)) = w1 at hF hP ⊢
    have HF := Lib.hid hF
    have HP := Lib.hid hP
    clear hw hF hP
    go_wp2_with (refine wpList_load_row rfl 29 (.tmp 3) rfl w.heap.size rfl 29 (planC B S C T L) (0, 0) _ HP.out Try.underlying29 rfl (planC_info _ _ _ _ _) ?_)
    refine (HR.out _).mono ?_; rintro e w2 ⟨rfl, hb⟩
    have HF := Lib.hid (show NeedRel w (fun _ => 0) w2 from ⟨(hb.block _ (lt_of_heap HF.out.1)).trans HF.out.1, (hb.block _ (lt_of_heap HF.out.2.1)).trans HF.out.2.1, low_more HF.out.2.2 hb⟩)
    clear hb HR HP
    go_wp2_with fail
    go_loopw [8, 11] (fun kv lv wr => ∃ (c : Int) (m k : Nat) (l : Int) (O : Nat → Int), kv = .int .i64 c ∧ lv = .int .i64 l ∧ Hid (c + 1 = (m : Int) ∧ k = if 3 < m then 3 else m) ∧ m ≤ 4 ∧ k < 4 ∧ -256 ≤ l ∧ l ≤ 3000 ∧ Hid (∀ j, O j + needL l k j = needZ B S t n j) ∧ Hid (∀ j, 0 ≤ O j ∧ O j ≤ 256 * (3000 - l)) ∧ NeedRel w O wr) (fun _ lv _ => (intOf lv).toNat)
    case atStart => exact ⟨rk, m0, k0, (N : Int) - rf, fun _ => 0, rfl, rfl, HM, hm4, hin.2.2, by omega, by omega, Lib.hid fun j => by rw [HZ.out j]; exact Int.zero_add _, Lib.hid fun j => by show (0 : Int) ≤ 0 ∧ (0 : Int) ≤ _; omega, HF.out⟩
    case round =>
      clear HF HZ HM hin hm4 s1 hkb1 hkb2
      obtain ⟨c, m, k, l, O, rfl, rfl, HM, hm4, hk4, hl0, hl1, HS, HO, hF⟩ := hrel
      have HF := Lib.hid hF
      clear hF
      by_cases hlt : 0 < l
      · have hsl := slab_hi k
        have hsl2 := slab_lo k
        have hok := HO.out k
        obtain ⟨o, ho⟩ : ∃ o, o = O k := ⟨_, rfl⟩
        obtain ⟨y, hy⟩ : ∃ y, y = slab k := ⟨_, rfl⟩
        have HY := Lib.hid hy
        have HOo := Lib.hid ho
        have HN := Lib.hid (fun w => next_in w c m k HM.out.1 hm4 HM.out.2)
        have HSk := Lib.hid (fun w => slab_still w k hk4)
        have HWk := Lib.hid (fun w => words_in w k hk4)
        rw [← hy] at hsl hsl2 HSk HWk
        have c1 : wr.cell? ⟨w.heap.size + 1 + 1, k, none⟩ = some (.int .i64 o) := by rw [ho]; exact (cell_at HF.out.2.1 k).trans (six_get _ k (by omega))
        have f1 : wr.frozen? ⟨w.heap.size + 1 + 1, k, none⟩ = false := free_at HF.out.2.1 k
        rw [← ho] at hok
        have o1 : IntKind.i64.wrap (o + y) = o + y := IntWalk.i64_in _ (by omega)
        have i1 : IntKind.i64.wrap (l - (y - 1)) = l - (y - 1) := IntWalk.i64_in _ (by omega)
        have hk6 : (k : Int) < 6 := by omega
        clear hy ho
        go_wp2_with fail
        refine (HN.out _).mono ?_; rintro e w4 ⟨rfl, rfl⟩
        go_upto_region 8 with fail
        refine wp_region_still_tail 7 (by kernel_rfl) (by kernel_rfl) ?_
        simp only [List.take_succ_cons, List.take_zero, List.drop_succ_cons, List.drop_zero]
        repeat still_step
        still_call (HSk.out _)
        repeat still_step
        refine wpStill_nil ?_
        change wpList _ _ _ _ _ (World.drew _)
        go_wp2_with fail
        refine (HWk.out _).mono ?_; rintro e w5 ⟨rfl, rfl⟩
        go_wp2_with fail
        go_roundw
        case rel =>
          refine ⟨(k : Int), k + 1, up k, l - (y - 1), more O k y, rfl, rfl, Lib.hid ⟨by omega, up_min k⟩, by omega, up_in k, by omega, by omega, Lib.hid fun j => ?_, Lib.hid fun j => ?_, ?_⟩
          · have h := HS.out j
            rw [needL_step l hlt k j] at h
            rw [← h, HY.out]
            unfold more
            split <;> rename_i e <;> simp [e] <;> omega
          · have h := HO.out j
            unfold more
            split
            · subst j; omega
            · omega
          · refine ⟨(Below.heap_setCell _ _ _ _ (by simp)).trans HF.out.1, ?_, (HF.out.2.2.setCell (by simp; omega) _).drew⟩
            show (World.setCell _ _ _).heap[w.heap.size + 1 + 1]? = _
            rw [heap_setCell_same _ _ _ _ _ _ (show w4.heap[w.heap.size + 1 + 1]? = _ from HF.out.2.1), HOo.out, six_set O (more O k y) k _ (by omega) (fun j _ => rfl)]
        case measure => simp only [intOf]; omega
      · have hfin : six O = six (needZ B S t n) := six_eq fun j _ => by
          have h := HS.out j
          unfold needL at h
          rw [if_neg hlt] at h
          omega
        have G1 := Lib.hid HF.out.1
        have G2 : Hid (wr.heap[w.heap.size + 1 + 1]? = some (.cells (six (needZ B S t n)) 27 (0, 0))) := Lib.hid (by rw [← hfin]; exact HF.out.2.1)
        have HB := Lib.hid HF.out.2.2
        clear hfin HF
        go_wp2_with (first
          | (refine wpList_load_row rfl 27 (.tmp 7) rfl (w.heap.size + 1 + 1) rfl 27 (six (needZ B S t n)) (0, 0) _ G2.out Try.underlying27 rfl (six_info _) ?_)
          | (refine wpList_store_row rfl 27 (.tmp 6) (.tmp 42) rfl (w.heap.size + 1) (six (needZ B S t n)) rfl rfl 27 (six fun _ => 0) G1.out (six_info _) rfl (six_one _) ?_)
          | fail)
        refine bodyPost_ret (v := .agg (six (needZ B S t n))) (results_cell_row rfl _ _ (w.heap.size + 1) _ _ (0, 0) _ rfl (setRow_heap _ _ _ _ _ _ G1.out) Try.underlying27 rfl (six_info _)) rfl ⟨rfl, below_setRow HB.out (by omega) _⟩
  · have HZ := Lib.hid (show six (needZ B S t n) = six fun _ => 0 from six_eq fun j _ => by unfold needZ; rw [if_neg hr])
    rw [decide_eq_false hr] at HR
    clear hr hrk hrf hL n0 n1
    go_enter Try.func18, Try.ntmps18
    go_wp2_with (refine wpList_load_row rfl 29 (.tmp 3) rfl w.heap.size rfl 29 (planC B S C T L) (0, 0) _ (heap3_0 w _ _ _) Try.underlying29 rfl (planC_info _ _ _ _ _) ?_)
    refine (HR.out _).mono ?_; rintro e w2 ⟨rfl, hb⟩
    have g1 : w2.heap[w.heap.size + 1]? = some (.cells (six fun _ => 0) 27 (0, 0)) := (hb.block _ (by simp)).trans (heap3_1 _ _ _ _)
    have g2 : w2.heap[w.heap.size + 1 + 1]? = some (.cells (six fun _ => 0) 27 (0, 0)) := (hb.block _ (by simp)).trans (heap3_2 _ _ _ _)
    have G1 := Lib.hid g1
    have G2 := Lib.hid g2
    have HB := Lib.hid (below_al3.trans (hb.mono (by simp; omega)))
    clear g1 g2 hb HR
    go_wp2_with (first
      | (refine wpList_load_row rfl 27 (.tmp 7) rfl (w.heap.size + 1 + 1) rfl 27 (six fun _ => 0) (0, 0) _ G2.out Try.underlying27 rfl (six_info _) ?_)
      | (refine wpList_store_row rfl 27 (.tmp 6) (.tmp 21) rfl (w.heap.size + 1) (six fun _ => 0) rfl rfl 27 (six fun _ => 0) G1.out (six_info _) rfl (six_one _) ?_)
      | fail)
    refine bodyPost_ret (v := .agg (six fun _ => 0)) (results_cell_row rfl _ _ (w.heap.size + 1) _ _ (0, 0) _ rfl (setRow_heap _ _ _ _ _ _ G1.out) Try.underlying27 rfl (six_info _)) rfl ⟨by rw [HZ.out], below_setRow HB.out (by omega) _⟩
end Go.Proofs.Ytiabmbkmahlhkaa
