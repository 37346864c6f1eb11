/-
  What so many words take, as the reference has it. Over the program's own text.
-/
import Derived.Test.YtiabmbkmahlhkaaPostKept
import Derived.Test.YtiabmbkmahlhkaaPoolF
import Derived.StillTailTactics
namespace Go.Proofs.Ytiabmbkmahlhkaa
open Go.RowKit

theorem at_lo {B S : Nat → Int} {C : Int} (hL : Laid B S C) (t : Int) : 0 ≤ atOf B S t ∧ atOf B S t < 256 := by
  by_cases h : kOf B S t < 4
  · have := (hL.slab_of h).2
    have := slab_hi (kOf B S t)
    omega
  · unfold atOf
    rw [if_neg h]
    omega
theorem kInt_lo (B S : Nat → Int) (t : Int) : -1 ≤ kInt B S t ∧ kInt B S t ≤ 3 := by
  unfold kInt
  split <;> omega

set_option maxRecDepth 100000 in
theorem ref_right {B S : Nat → Int} {C : Int} (hL : Laid B S C) (T L t : Int) (w : World) : Calls Try.prog 35 #[.agg (planC B S C T L), .int .i64 t] w fun e w' => e = .returned (.bool (decide (rightT B S t))) ∧ Below w.heap.size w w' := by
  obtain ⟨q, hq⟩ : ∃ q, q = atOf B S t := ⟨_, rfl⟩
  obtain ⟨k, hk⟩ : ∃ k, k = kInt B S t := ⟨_, rfl⟩
  have hk0 := kInt_lo B S t
  have hq0 := at_lo hL t
  have hkq : 0 < q → 0 ≤ k := by
    intro h
    rw [hq] at h
    have := (hL.at_ h).1
    rw [hk]
    unfold kInt
    rw [if_pos this]
    omega
  have HC := Lib.hid (fun w => (ref_class_any w B S C T L t hL.fit).mono fun _ _ h => cls_value h)
  rw [← hq, ← hk] at HC
  rw [← hq] at hq0
  rw [← hk] at hk0
  have HR := Lib.hid (show decide (rightT B S t) = (decide (t = 0) || decide (0 < q)) from Bool.eq_iff_iff.2 (by rw [decide_eq_true_iff, hq]; unfold rightT; simp))
  clear hL hq hk
  go_enter Try.func35, Try.ntmps35
  go_wp2_with (refine wpList_load_row rfl 29 (.tmp 2) rfl w.heap.size rfl 29 (planC B S C T L) (0, 0) _ (heap_alloc_new w _) Try.underlying29 rfl (planC_info _ _ _ _ _) ?_)
  refine (HC.out _).mono ?_; rintro e w1 ⟨rfl, hb⟩
  have HB := Lib.hid (low_more below_one hb)
  clear hb HC
  by_cases h0 : t = 0
  · subst h0
    go_wp2_with fail
    go_ret
    exact ⟨by rw [HR.out]; simp, HB.out⟩
  · have e0 : (t == 0) = false := by simpa using h0
    by_cases h1 : 0 < q
    · have h2 := hkq h1
      have h3 : (0 : Int) ≤ k := h2
      clear hkq
      go_wp2_with fail
      go_ret
      exact ⟨by rw [HR.out]; simp [h1], HB.out⟩
    · have h1' : ¬ (0 : Int) < q := h1
      by_cases h2 : 0 ≤ k
      · clear hkq
        go_wp2_with fail
        go_ret
        exact ⟨by rw [HR.out]; simp [h0], HB.out⟩
      · have h2' : ¬ (0 : Int) ≤ k := h2
        clear hkq
        go_wp2_with fail
        go_ret
        exact ⟨by rw [HR.out]; simp [h0]; omega, HB.out⟩

theorem six_eq {U V : Nat → Int} (h : ∀ j, j < 6 → U j = V j) : six U = six V := by
  unfold six
  rw [h 0 (by omega), h 1 (by omega), h 2 (by omega), h 3 (by omega), h 4 (by omega), h 5 (by omega)]
/-! ### Word by word -/
theorem needS_succ (n : Nat) (l : Int) (k j : Nat) : needS (n + 1) l k j = if l = 0 then (if j = k then slab k else 0) + needS n (slab k - 2) (up k) j else needS n (l - 1) k j := rfl
theorem needS_lo : ∀ (n : Nat) (l : Int) (k j : Nat), 0 ≤ needS n l k j
  | 0, _, _, _ => by unfold needS; omega
  | n + 1, l, k, j => by
    unfold needS
    have := slab_lo k
    have h1 := needS_lo n (slab k - 2) (up k) j
    have h2 := needS_lo n (l - 1) k j
    split
    · split <;> omega
    · exact h2
theorem needS_hi : ∀ (n : Nat) (l : Int) (k j : Nat), needS n l k j ≤ 256 * n
  | 0, _, _, _ => by unfold needS; omega
  | n + 1, l, k, j => by
    unfold needS
    have := slab_hi k
    have h1 := needS_hi n (slab k - 2) (up k) j
    have h2 := needS_hi n (l - 1) k j
    split
    · split <;> omega
    · omega
theorem leftT_in {B S : Nat → Int} {C : Int} (hL : Laid B S C) {t : Int} (h : rightT B S t) : 0 ≤ leftT B S t ∧ leftT B S t ≤ 254 ∧ nextT B S t < 4 := by
  unfold leftT nextT
  by_cases h0 : t = 0
  · rw [if_pos h0, if_pos h0]
    omega
  · rw [if_neg h0, if_neg h0]
    rcases h with h | h
    · exact absurd h h0
    · have := hL.at_ h
      have := slab_hi (kOf B S t)
      refine ⟨by omega, by omega, ?_⟩
      split <;> omega
theorem up_in (k : Nat) : up k < 4 := by unfold up; split <;> omega

/-- Where the loop stands. -/
def NeedRel (w : World) (O : Nat → Int) (wr : World) : Prop :=
  wr.heap[w.heap.size + 1]? = some (.cells (six fun _ => 0) 27 (0, 0)) ∧ wr.heap[w.heap.size + 2]? = some (.cells (six O) 27 (0, 0)) ∧ Below w.heap.size w wr

set_option maxRecDepth 100000 in
set_option maxHeartbeats 2000000 in
/-- The loop, from any place in a slab on. -/
theorem ref_need_in {B S : Nat → Int} {C : Int} (hL : Laid B S C) (T L t n : Int) (n0 : -9223372036854775808 ≤ n) (n1 : n ≤ 3000) (w : World) :
    Calls Try.prog 19 #[.agg (planC B S C T L), .int .i64 t, .int .i64 n] w fun e w' => e = .returned (.agg (six (needZ B S t n))) ∧ Below w.heap.size w w' := by
  have HR := Lib.hid (fun w => ref_right hL T L t w)
  by_cases hr : rightT B S t
  · have hrb : decide (rightT B S t) = true := decide_eq_true hr
    rw [hrb] at HR
    obtain ⟨l0, hl0⟩ : ∃ l0, l0 = leftT B S t := ⟨_, rfl⟩
    obtain ⟨k0, hk0⟩ : ∃ k0, k0 = nextT B S t := ⟨_, rfl⟩
    obtain ⟨N, hN⟩ : ∃ N, N = n.toNat := ⟨_, rfl⟩
    have hin := leftT_in hL hr
    rw [← hl0, ← hk0] at hin
    have HZ := Lib.hid (show ∀ j, needZ B S t n j = needS N l0 k0 j from fun j => by unfold needZ; rw [if_pos hr, hN, hl0, hk0])
    have HCall := Lib.hid (fun w => (ref_class_any w B S C T L t hL.fit).mono fun _ _ h => cls_value h)
    have HT : Hid (t ≠ 0 → ∃ k : Nat, k < 4 ∧ kInt B S t = (k : Int) ∧ 0 ≤ atOf B S t ∧ atOf B S t ≤ 255 ∧ l0 = slab k - 1 - atOf B S t ∧ k0 = up k) := Lib.hid (by
      intro ht
      rcases hr with h | h
      · exact absurd h ht
      · have ha := hL.at_ h
        have := slab_hi (kOf B S t)
        refine ⟨kOf B S t, ha.1, by unfold kInt; rw [if_pos ha.1], by omega, by omega, ?_, ?_⟩
        · rw [hl0]; unfold leftT; rw [if_neg ht]
        · rw [hk0]; unfold nextT up; rw [if_neg ht])
    have HT0 : Hid (t = 0 → l0 = 0 ∧ k0 = 0) := Lib.hid (by
      intro ht
      rw [hl0, hk0]
      unfold leftT nextT
      rw [if_pos ht, if_pos ht]
      exact ⟨rfl, rfl⟩)
    clear hr hrb hl0 hk0 hL
    have HSl := Lib.hid (fun (w : World) (k : Nat) (hk : k < 4) => ref_slab_still w k hk)
    go_enter Try.func19, Try.ntmps19
    go_upto_region 2 with fail
    have hw : (((w.alloc (.cells (planC B S C T L) 29)).alloc (.cells #[.int .i64 0, .int .i64 0, .int .i64 0, .int .i64 0, .int .i64 0, .int .i64 0] 27)).alloc (.cells #[.int .i64 0, .int .i64 0, .int .i64 0, .int .i64 0, .int .i64 0, .int .i64 0] 27)) = (((w.alloc (.cells (planC B S C T L) 29)).alloc (.cells (six fun _ => 0) 27)).alloc (.cells (six fun _ => 0) 27)) := rfl
    rw [hw]
    have hF : NeedRel w (fun _ => 0) (((w.alloc (.cells (planC B S C T L) 29)).alloc (.cells (six fun _ => 0) 27)).alloc (.cells (six fun _ => 0) 27)) := ⟨heap3_1 w _ _ _, heap3_2 w _ _ _, below_al3⟩
    have hP : (((w.alloc (.cells (planC B S C T L) 29)).alloc (.cells (six fun _ => 0) 27)).alloc (.cells (six fun _ => 0) 27)).heap[w.heap.size]? = some (.cells (planC B S C T L) 29 (0, 0)) := heap3_0 w _ _ _
    generalize (((w.alloc (.cells (planC B S C T L) 29)).alloc (.cells (six fun _ => 0) 27)).alloc (.cells (six fun _ => 0) 27)) = w1 at hF hP ⊢
    have HF := Lib.hid hF
    have HP := Lib.hid hP
    clear hw hF hP
    go_wp2_with (refine wpList_load_row rfl 29 (.tmp 3) rfl w.heap.size rfl 29 (planC B S C T L) (0, 0) _ HP.out Try.underlying29 rfl (planC_info _ _ _ _ _) ?_)
    refine (HR.out _).mono ?_; rintro e w2 ⟨rfl, hb⟩
    have HF := Lib.hid (show NeedRel w (fun _ => 0) w2 from ⟨(hb.block _ (lt_of_heap HF.out.1)).trans HF.out.1, (hb.block _ (lt_of_heap HF.out.2.1)).trans HF.out.2.1, low_more HF.out.2.2 hb⟩)
    have HP := Lib.hid ((hb.block _ (lt_of_heap HP.out)).trans HP.out)
    clear hb HR
    have hN2 : ¬ (1000000 : Int) < n := by omega
    have HNN := Lib.hid hN
    have hN3 : N ≤ 3000 := by omega
    by_cases ht : t = 0
    · obtain ⟨e1, e2⟩ := HT0.out ht
      have htb : (t != 0) = false := by simp [ht]
      have E12 := Lib.hid (And.intro e1 e2)
      clear ht HT HT0 HCall hN e1 e2
      go_wp2_with fail
      go_loopw [8, 9, 12] (fun lv kv iv wr => ∃ (i : Nat) (l : Int) (k : Nat) (O : Nat → Int), i ≤ N ∧ iv = .int .i64 i ∧ lv = .int .i64 l ∧ kv = .int .i64 (k : Int) ∧ 0 ≤ l ∧ l ≤ 254 ∧ k < 4 ∧ Hid (∀ j, O j + needS (N - i) l k j = needS N l0 k0 j) ∧ Hid (∀ j, 0 ≤ O j ∧ O j ≤ 256 * i) ∧ NeedRel w O wr) (fun _ _ iv _ => N - (intOf iv).toNat)
      case atStart => exact ⟨0, l0, k0, fun _ => 0, by omega, rfl, (by rw [E12.out.1]), (by rw [E12.out.2]; rfl), hin.1, hin.2.1, hin.2.2, Lib.hid fun j => by simp, Lib.hid fun j => ⟨Int.le_refl _, by simp⟩, HF.out⟩
      case round =>
        clear HF
        obtain ⟨i, l, k, O, hi, rfl, rfl, rfl, hl0, hl1, hk4, HS, HO, hF⟩ := hrel
        have HF := Lib.hid hF
        clear hF
        by_cases hlt : i < N
        · have hlt1 : (i : Int) < n := by have := HNN.out; omega
          obtain ⟨m, hm⟩ : ∃ m, N - i = m + 1 := ⟨N - i - 1, by omega⟩
          have hm2 : N - (i + 1) = m := by omega
          have HMM := Lib.hid (And.intro hm hm2)
          clear hm hm2
          by_cases hl : l = 0
          · have hsl := slab_hi k
            have hsl2 := slab_lo k
            have hok := HO.out k
            obtain ⟨o, ho⟩ : ∃ o, o = O k := ⟨_, rfl⟩
            obtain ⟨y, hy⟩ : ∃ y, y = slab k := ⟨_, rfl⟩
            have HY := Lib.hid hy
            have HOo := Lib.hid ho
            have HSk := Lib.hid (fun w => HSl.out w k hk4)
            rw [← hy] at hsl hsl2 HSk
            have c1 : wr.cell? ⟨w.heap.size + 1 + 1, k, none⟩ = some (.int .i64 o) := by rw [ho]; exact (cell_at HF.out.2.1 k).trans (six_get _ k (by omega))
            have f1 : wr.frozen? ⟨w.heap.size + 1 + 1, k, none⟩ = false := free_at HF.out.2.1 k
            rw [← ho] at hok
            have o1 : IntKind.i64.wrap (o + y) = o + y := IntWalk.i64_in _ (by have := HNN.out; omega)
            have hk6 : (k : Int) < 6 := by omega
            have i1 : IntKind.i64.wrap (y - 1) = y - 1 := IntWalk.i64_in _ (by omega)
            have i2 : IntKind.i64.wrap (y - 1 - 1) = y - 1 - 1 := IntWalk.i64_in _ (by omega)
            obtain ⟨k1, hk1⟩ : ∃ k1, k1 = k + 1 := ⟨_, rfl⟩
            have i3 : (k : Int) + 1 = (k1 : Int) := by omega
            have i4 : IntKind.i64.wrap (k1 : Int) = (k1 : Int) := IntWalk.i64_in _ (by omega)
            have hkn : (if (3 : Int) < (k1 : Int) then (3 : Int) else (k1 : Int)) = ((up k : Nat) : Int) := by unfold up; split <;> split <;> omega
            obtain ⟨k2, hk2⟩ : ∃ k2, k2 = up k := ⟨_, rfl⟩
            rw [← hk2] at hkn
            have hkb : ∀ (ts : Array TypeId) (t : TypeId) (w : World), (Builtin.min_ ts t #[.int .i64 (k1 : Int), .int .i64 3]).run Try.prog w = .ok (.int .i64 (k2 : Int)) w := fun ts t w => by rw [run_min_int2, hkn]
            have HK2 := Lib.hid hk2
            subst hl
            clear hkn hy ho hk2 hk1
            go_wp2_with fail
            refine wp_region_still_tail 7 (by kernel_rfl) (by kernel_rfl) ?_
            simp only [List.take_succ_cons, List.take_zero, List.drop_succ_cons, List.drop_zero]
            repeat still_step
            still_call (HSk.out _)
            repeat still_step
            refine wpStill_nil ?_
            change wpList _ _ _ _ _ (World.drew _)
            go_wp2_with fail
            refine (HSk.out _).mono ?_; rintro e w4 ⟨rfl, rfl⟩
            go_wp2_with fail
            go_roundw
            case rel =>
              refine ⟨i + 1, y - 1 - 1, k2, more O k y, by omega, by go_num, rfl, rfl, by omega, by omega, by rw [HK2.out]; exact up_in k, Lib.hid fun j => ?_, Lib.hid fun j => ?_, ?_⟩
              · have h := HS.out j
                rw [HMM.out.1, needS_succ, if_pos rfl] at h
                rw [HMM.out.2, HK2.out, show y - 1 - 1 = slab k - 2 by rw [← HY.out]; omega, ← h, HY.out]
                unfold more
                split <;> rename_i e <;> simp [e] <;> omega
              · have h := HO.out j
                unfold more
                split
                · subst j; omega
                · omega
              · refine ⟨(Below.heap_setCell _ _ _ _ (by simp)).trans HF.out.1, ?_, (HF.out.2.2.setCell (by simp; omega) _).drew⟩
                show (World.setCell _ _ _).heap[w.heap.size + 1 + 1]? = _
                rw [heap_setCell_same _ _ _ _ _ _ (show wr.heap[w.heap.size + 1 + 1]? = _ from HF.out.2.1), HOo.out, six_set O (more O k y) k _ (by omega) (fun j _ => rfl)]
            case measure => simp [intOf]; omega
          · have hlb : (l == 0) = false := by simpa using hl
            have i1 : IntKind.i64.wrap (l - 1) = l - 1 := IntWalk.i64_in _ (by omega)
            have HL1 := Lib.hid (show 0 ≤ l - 1 ∧ l - 1 ≤ 254 by omega)
            have HL0 := Lib.hid hl
            clear hl
            go_wp2_with fail
            go_roundw
            case rel =>
              refine ⟨i + 1, l - 1, k, O, by omega, by go_num, rfl, rfl, HL1.out.1, HL1.out.2, hk4, Lib.hid fun j => ?_, Lib.hid fun j => ?_, HF.out⟩
              · have h := HS.out j
                rw [HMM.out.1, needS_succ, if_neg HL0.out] at h
                rw [HMM.out.2, ← h]
              · have := HO.out j; omega
            case measure => simp [intOf]; omega
        · have hlt1 : ¬ (i : Int) < n := by have := HNN.out; omega
          have hfin : six O = six (needZ B S t n) := six_eq fun j _ => by
            have h := HS.out j
            rw [show N - i = 0 by omega] at h
            rw [HZ.out j, ← h]
            simp [needS]
          have G1 := Lib.hid HF.out.1
          have G2 : Hid (wr.heap[w.heap.size + 1 + 1]? = some (.cells (six (needZ B S t n)) 27 (0, 0))) := Lib.hid (by rw [← hfin]; exact HF.out.2.1)
          have HB := Lib.hid HF.out.2.2
          clear hfin HF
          go_wp2_with (first
            | (refine wpList_load_row rfl 27 (.tmp 7) rfl (w.heap.size + 1 + 1) rfl 27 (six (needZ B S t n)) (0, 0) _ G2.out Try.underlying27 rfl (six_info _) ?_)
            | (refine wpList_store_row rfl 27 (.tmp 6) (.tmp 59) rfl (w.heap.size + 1) (six (needZ B S t n)) rfl rfl 27 (six fun _ => 0) G1.out (six_info _) rfl (six_one _) ?_)
            | fail)
          refine bodyPost_ret (v := .agg (six (needZ B S t n))) (results_cell_row rfl _ _ (w.heap.size + 1) _ _ (0, 0) _ rfl (setRow_heap _ _ _ _ _ _ G1.out) Try.underlying27 rfl (six_info _)) rfl ⟨rfl, below_setRow HB.out (by omega) _⟩
    · obtain ⟨k, hk4, hki, ha0, ha1, hl, hkk⟩ := HT.out ht
      have htb : (t != 0) = true := by simpa using ht
      have hsl := slab_hi k
      have hsl2 := slab_lo k
      obtain ⟨a, ha⟩ : ∃ a, a = atOf B S t := ⟨_, rfl⟩
      rw [hki, ← ha] at HCall
      rw [← ha] at ha0 ha1 hl
      obtain ⟨y, hy⟩ : ∃ y, y = slab k := ⟨_, rfl⟩
      have HSk := Lib.hid (fun w => HSl.out w k hk4)
      rw [← hy] at HSk hsl hsl2 hl
      have i1 : IntKind.i64.wrap (y - 1) = y - 1 := IntWalk.i64_in _ (by omega)
      have i2 : IntKind.i64.wrap (y - 1 - a) = l0 := by rw [hl]; exact IntWalk.i64_in _ (by omega)
      have i2' : y - 1 - a = l0 := hl.symm
      obtain ⟨k1, hk1⟩ : ∃ k1, k1 = k + 1 := ⟨_, rfl⟩
      have i3 : (k : Int) + 1 = (k1 : Int) := by omega
      have i4 : IntKind.i64.wrap (k1 : Int) = (k1 : Int) := IntWalk.i64_in _ (by omega)
      have hkn : (if (3 : Int) < (k1 : Int) then (3 : Int) else (k1 : Int)) = (k0 : Int) := by rw [hkk]; unfold up; split <;> split <;> omega
      have hkb : ∀ (ts : Array TypeId) (t : TypeId) (w : World), (Builtin.min_ ts t #[.int .i64 (k1 : Int), .int .i64 3]).run Try.prog w = .ok (.int .i64 (k0 : Int)) w := fun ts t w => by rw [run_min_int2, hkn]
      clear ht hki ha hy hl hkk hkn HT HT0 hN hk1
      go_wp2_with (refine wpList_load_row rfl 29 (.tmp 3) rfl w.heap.size rfl 29 (planC B S C T L) (0, 0) _ HP.out Try.underlying29 rfl (planC_info _ _ _ _ _) ?_)
      refine (HCall.out _).mono ?_; rintro e w3 ⟨rfl, hb⟩
      have HF := Lib.hid (show NeedRel w (fun _ => 0) w3 from ⟨(hb.block _ (lt_of_heap HF.out.1)).trans HF.out.1, (hb.block _ (lt_of_heap HF.out.2.1)).trans HF.out.2.1, low_more HF.out.2.2 hb⟩)
      clear hb HCall HP
      go_wp2_with fail
      refine (HSk.out _).mono ?_; rintro e w4 ⟨rfl, rfl⟩
      clear HSk ha0 ha1
      go_wp2_with fail
      clear i1 i2 i2' i3 i4 hkb hsl hsl2 hk4
      go_loopw [8, 9, 12] (fun lv kv iv wr => ∃ (i : Nat) (l : Int) (k : Nat) (O : Nat → Int), i ≤ N ∧ iv = .int .i64 i ∧ lv = .int .i64 l ∧ kv = .int .i64 (k : Int) ∧ 0 ≤ l ∧ l ≤ 254 ∧ k < 4 ∧ Hid (∀ j, O j + needS (N - i) l k j = needS N l0 k0 j) ∧ Hid (∀ j, 0 ≤ O j ∧ O j ≤ 256 * i) ∧ NeedRel w O wr) (fun _ _ iv _ => N - (intOf iv).toNat)
      case atStart => exact ⟨0, l0, k0, fun _ => 0, by omega, rfl, rfl, rfl, hin.1, hin.2.1, hin.2.2, Lib.hid fun j => by simp, Lib.hid fun j => ⟨Int.le_refl _, by simp⟩, HF.out⟩
      case round =>
        clear HF
        obtain ⟨i, l, k, O, hi, rfl, rfl, rfl, hl0, hl1, hk4, HS, HO, hF⟩ := hrel
        have HF := Lib.hid hF
        clear hF
        by_cases hlt : i < N
        · have hlt1 : (i : Int) < n := by have := HNN.out; omega
          obtain ⟨m, hm⟩ : ∃ m, N - i = m + 1 := ⟨N - i - 1, by omega⟩
          have hm2 : N - (i + 1) = m := by omega
          have HMM := Lib.hid (And.intro hm hm2)
          clear hm hm2
          by_cases hl : l = 0
          · have hsl := slab_hi k
            have hsl2 := slab_lo k
            have hok := HO.out k
            obtain ⟨o, ho⟩ : ∃ o, o = O k := ⟨_, rfl⟩
            obtain ⟨y, hy⟩ : ∃ y, y = slab k := ⟨_, rfl⟩
            have HY := Lib.hid hy
            have HOo := Lib.hid ho
            have HSk := Lib.hid (fun w => HSl.out w k hk4)
            rw [← hy] at hsl hsl2 HSk
            have c1 : wr.cell? ⟨w.heap.size + 1 + 1, k, none⟩ = some (.int .i64 o) := by rw [ho]; exact (cell_at HF.out.2.1 k).trans (six_get _ k (by omega))
            have f1 : wr.frozen? ⟨w.heap.size + 1 + 1, k, none⟩ = false := free_at HF.out.2.1 k
            rw [← ho] at hok
            have o1 : IntKind.i64.wrap (o + y) = o + y := IntWalk.i64_in _ (by have := HNN.out; omega)
            have hk6 : (k : Int) < 6 := by omega
            have i1 : IntKind.i64.wrap (y - 1) = y - 1 := IntWalk.i64_in _ (by omega)
            have i2 : IntKind.i64.wrap (y - 1 - 1) = y - 1 - 1 := IntWalk.i64_in _ (by omega)
            obtain ⟨k1, hk1⟩ : ∃ k1, k1 = k + 1 := ⟨_, rfl⟩
            have i3 : (k : Int) + 1 = (k1 : Int) := by omega
            have i4 : IntKind.i64.wrap (k1 : Int) = (k1 : Int) := IntWalk.i64_in _ (by omega)
            have hkn : (if (3 : Int) < (k1 : Int) then (3 : Int) else (k1 : Int)) = ((up k : Nat) : Int) := by unfold up; split <;> split <;> omega
            obtain ⟨k2, hk2⟩ : ∃ k2, k2 = up k := ⟨_, rfl⟩
            rw [← hk2] at hkn
            have hkb : ∀ (ts : Array TypeId) (t : TypeId) (w : World), (Builtin.min_ ts t #[.int .i64 (k1 : Int), .int .i64 3]).run Try.prog w = .ok (.int .i64 (k2 : Int)) w := fun ts t w => by rw [run_min_int2, hkn]
            have HK2 := Lib.hid hk2
            subst hl
            clear hkn hy ho hk2 hk1
            go_wp2_with fail
            refine wp_region_still_tail 7 (by kernel_rfl) (by kernel_rfl) ?_
            simp only [List.take_succ_cons, List.take_zero, List.drop_succ_cons, List.drop_zero]
            repeat still_step
            still_call (HSk.out _)
            repeat still_step
            refine wpStill_nil ?_
            change wpList _ _ _ _ _ (World.drew _)
            go_wp2_with fail
            refine (HSk.out _).mono ?_; rintro e w4 ⟨rfl, rfl⟩
            go_wp2_with fail
            go_roundw
            case rel =>
              refine ⟨i + 1, y - 1 - 1, k2, more O k y, by omega, by go_num, rfl, rfl, by omega, by omega, by rw [HK2.out]; exact up_in k, Lib.hid fun j => ?_, Lib.hid fun j => ?_, ?_⟩
              · have h := HS.out j
                rw [HMM.out.1, needS_succ, if_pos rfl] at h
                rw [HMM.out.2, HK2.out, show y - 1 - 1 = slab k - 2 by rw [← HY.out]; omega, ← h, HY.out]
                unfold more
                split <;> rename_i e <;> simp [e] <;> omega
              · have h := HO.out j
                unfold more
                split
                · subst j; omega
                · omega
              · refine ⟨(Below.heap_setCell _ _ _ _ (by simp)).trans HF.out.1, ?_, (HF.out.2.2.setCell (by simp; omega) _).drew⟩
                show (World.setCell _ _ _).heap[w.heap.size + 1 + 1]? = _
                rw [heap_setCell_same _ _ _ _ _ _ (show wr.heap[w.heap.size + 1 + 1]? = _ from HF.out.2.1), HOo.out, six_set O (more O k y) k _ (by omega) (fun j _ => rfl)]
            case measure => simp [intOf]; omega
          · have hlb : (l == 0) = false := by simpa using hl
            have i1 : IntKind.i64.wrap (l - 1) = l - 1 := IntWalk.i64_in _ (by omega)
            have HL1 := Lib.hid (show 0 ≤ l - 1 ∧ l - 1 ≤ 254 by omega)
            have HL0 := Lib.hid hl
            clear hl
            go_wp2_with fail
            go_roundw
            case rel =>
              refine ⟨i + 1, l - 1, k, O, by omega, by go_num, rfl, rfl, HL1.out.1, HL1.out.2, hk4, Lib.hid fun j => ?_, Lib.hid fun j => ?_, HF.out⟩
              · have h := HS.out j
                rw [HMM.out.1, needS_succ, if_neg HL0.out] at h
                rw [HMM.out.2, ← h]
              · have := HO.out j; omega
            case measure => simp [intOf]; omega
        · have hlt1 : ¬ (i : Int) < n := by have := HNN.out; omega
          have hfin : six O = six (needZ B S t n) := six_eq fun j _ => by
            have h := HS.out j
            rw [show N - i = 0 by omega] at h
            rw [HZ.out j, ← h]
            simp [needS]
          have G1 := Lib.hid HF.out.1
          have G2 : Hid (wr.heap[w.heap.size + 1 + 1]? = some (.cells (six (needZ B S t n)) 27 (0, 0))) := Lib.hid (by rw [← hfin]; exact HF.out.2.1)
          have HB := Lib.hid HF.out.2.2
          clear hfin HF
          go_wp2_with (first
            | (refine wpList_load_row rfl 27 (.tmp 7) rfl (w.heap.size + 1 + 1) rfl 27 (six (needZ B S t n)) (0, 0) _ G2.out Try.underlying27 rfl (six_info _) ?_)
            | (refine wpList_store_row rfl 27 (.tmp 6) (.tmp 59) rfl (w.heap.size + 1) (six (needZ B S t n)) rfl rfl 27 (six fun _ => 0) G1.out (six_info _) rfl (six_one _) ?_)
            | fail)
          refine bodyPost_ret (v := .agg (six (needZ B S t n))) (results_cell_row rfl _ _ (w.heap.size + 1) _ _ (0, 0) _ rfl (setRow_heap _ _ _ _ _ _ G1.out) Try.underlying27 rfl (six_info _)) rfl ⟨rfl, below_setRow HB.out (by omega) _⟩
  · have hrb : decide (rightT B S t) = false := decide_eq_false hr
    rw [hrb] at HR
    have HZ := Lib.hid (show six (needZ B S t n) = six fun _ => 0 from six_eq fun j _ => by unfold needZ; rw [if_neg hr])
    clear hr hrb hL
    go_enter Try.func19, Try.ntmps19
    go_wp2_with (refine wpList_load_row rfl 29 (.tmp 3) rfl w.heap.size rfl 29 (planC B S C T L) (0, 0) _ (heap3_0 w _ _ _) Try.underlying29 rfl (planC_info _ _ _ _ _) ?_)
    refine (HR.out _).mono ?_; rintro e w1 ⟨rfl, hb⟩
    have g1 : w1.heap[w.heap.size + 1]? = some (.cells (six fun _ => 0) 27 (0, 0)) := (hb.block _ (by simp)).trans (heap3_1 w _ _ _)
    have g2 : w1.heap[w.heap.size + 1 + 1]? = some (.cells (six fun _ => 0) 27 (0, 0)) := (hb.block _ (by simp)).trans (heap3_2 w _ _ _)
    have G1 := Lib.hid g1
    have G2 := Lib.hid g2
    have HB := Lib.hid (below_al3.trans (hb.mono (by simp; omega)))
    clear g1 g2 hb HR
    go_wp2_with (first
      | (refine wpList_load_row rfl 27 (.tmp 7) rfl (w.heap.size + 1 + 1) rfl 27 (six fun _ => 0) (0, 0) _ G2.out Try.underlying27 rfl (six_info _) ?_)
      | (refine wpList_store_row rfl 27 (.tmp 6) (.tmp 18) rfl (w.heap.size + 1) (six fun _ => 0) rfl rfl 27 (six fun _ => 0) G1.out (six_info _) rfl (six_one _) ?_)
      | fail)
    refine bodyPost_ret (v := .agg (six fun _ => 0)) (results_cell_row rfl _ _ (w.heap.size + 1) _ _ (0, 0) _ rfl (setRow_heap _ _ _ _ _ _ G1.out) Try.underlying27 rfl (six_info _)) rfl ⟨by rw [HZ.out], below_setRow HB.out (by omega) _⟩
end Go.Proofs.Ytiabmbkmahlhkaa
