/-
  What package post's small functions come to: words, next, room. Over the program's own text.
-/
import Derived.Test.YtiabmbkmahlhkaaPostNeed
namespace Go.Proofs.Ytiabmbkmahlhkaa
open Go.RowKit

theorem words_in (w : World) (k : Nat) (hk : k < 4) : Calls Try.prog 34 #[.int .i64 k] w fun e w' => e = .returned (.int .i64 (slab k - 1)) ∧ w' = w := by
  have hs0 := slab_lo k
  have hs1 := slab_hi k
  have HS := Lib.hid (fun w => slab_still w k hk)
  obtain ⟨s, hs⟩ : ∃ s, s = slab k := ⟨_, rfl⟩
  rw [← hs] at hs0 hs1 HS ⊢
  have i1 : IntKind.i64.wrap (s - 1) = s - 1 := IntWalk.i64_in _ (by omega)
  clear hs hk
  go_enter Try.func34, Try.ntmps34
  go_wp2_with fail
  refine (HS.out _).mono ?_; rintro e w1 ⟨rfl, rfl⟩
  go_wp2_with fail
  go_ret
  exact ⟨rfl, rfl⟩
theorem next_in (w : World) (c : Int) (m k : Nat) (hc : c + 1 = (m : Int)) (hm : m ≤ 4) (hk : k = if 3 < m then 3 else m) : Calls Try.prog 32 #[.int .i64 c] w fun e w' => e = .returned (.int .i64 (k : Int)) ∧ w' = w := by
  have i4 : IntKind.i64.wrap (m : Int) = (m : Int) := IntWalk.i64_in _ (by omega)
  have hkn : (if (3 : Int) < (m : Int) then (3 : Int) else (m : Int)) = (k : Int) := by rw [hk]; split <;> split <;> omega
  have hkb : ∀ (ts : Array TypeId) (t : TypeId) (w : World), (Builtin.min_ ts t #[.int .i64 (m : Int), .int .i64 3]).run Try.prog w = .ok (.int .i64 (k : Int)) w := fun ts t w => by rw [run_min_int2, hkn]
  clear hk hkn
  go_enter Try.func32, Try.ntmps32
  go_wp2_with fail
  go_ret
  exact ⟨rfl, rfl⟩
def roomK (B S : Nat → Int) (t : Int) : Int := if t = 0 then -1 else if atOf B S t = 0 then 0 else kInt B S t
def roomF (B S : Nat → Int) (t : Int) : Int := if t = 0 then 0 else if atOf B S t = 0 then 0 else slab (kOf B S t) - 1 - atOf B S t
theorem room_right {B S : Nat → Int} {C : Int} (hL : Laid B S C) {t : Int} (h : rightT B S t) : roomF B S t = leftT B S t ∧ ∃ m : Nat, roomK B S t + 1 = (m : Int) ∧ m ≤ 4 ∧ nextT B S t = if 3 < m then 3 else m := by
  unfold roomF leftT roomK nextT
  by_cases h0 : t = 0
  · rw [if_pos h0, if_pos h0, if_pos h0, if_pos h0]
    exact ⟨rfl, 0, by omega, by omega, rfl⟩
  · rw [if_neg h0, if_neg h0, if_neg h0, if_neg h0]
    rcases h with h | h
    · exact absurd h h0
    · have ha := hL.at_ h
      rw [if_neg (by omega), if_neg (by omega)]
      refine ⟨rfl, kOf B S t + 1, ?_, by omega, ?_⟩
      · unfold kInt; rw [if_pos ha.1]; omega
      · split <;> split <;> omega
set_option maxRecDepth 100000 in
theorem room_any {B S : Nat → Int} {C : Int} (hL : Laid B S C) (T L t : Int) (w : World) : Calls Try.prog 31 #[.agg (planC B S C T L), .int .i64 t] w fun e w' => e = .returned (.tuple #[.int .i64 (roomK B S t), .int .i64 (roomF B S t), .bool (decide (rightT B S t))]) ∧ Below w.heap.size w w' := by
  by_cases h0 : t = 0
  · have hr : decide (rightT B S t) = true := decide_eq_true (.inl h0)
    have HE := Lib.hid (show roomK B S t = -1 ∧ roomF B S t = 0 ∧ decide (rightT B S t) = true from ⟨by unfold roomK; rw [if_pos h0], by unfold roomF; rw [if_pos h0], hr⟩)
    rw [HE.out.1, HE.out.2.1, HE.out.2.2]
    have hb : (t == 0) = true := by simpa using h0
    clear h0 hr HE
    go_enter Try.func31, Try.ntmps31
    go_wp2_with fail
    refine bodyPost_ret (v := .tuple #[.int .i64 (-1), .int .i64 0, .bool true]) (by simp [results, Try.results31, go_sem]) rfl ⟨rfl, below_one⟩
  · have hb : (t == 0) = false := by simpa using h0
    have HC := Lib.hid (fun w => (class_any w B S C T L t hL.fit).mono fun _ _ h => cls_value h)
    have hq0 := at_lo hL t
    by_cases h1 : atOf B S t = 0
    · have HE := Lib.hid (show roomK B S t = 0 ∧ roomF B S t = 0 ∧ decide (rightT B S t) = false from ⟨by unfold roomK; rw [if_neg h0, if_pos h1], by unfold roomF; rw [if_neg h0, if_pos h1], decide_eq_false (by unfold rightT; omega)⟩)
      rw [HE.out.1, HE.out.2.1, HE.out.2.2]
      rw [h1] at HC
      obtain ⟨k, hk⟩ : ∃ k, k = kInt B S t := ⟨_, rfl⟩
      rw [← hk] at HC
      clear h0 h1 HE hL hq0 hk
      go_enter Try.func31, Try.ntmps31
      go_wp2_with (refine wpList_load_row rfl 29 (.tmp 2) rfl w.heap.size rfl 29 (planC B S C T L) (0, 0) _ (heap_alloc_new w _) Try.underlying29 rfl (planC_info _ _ _ _ _) ?_)
      refine (HC.out _).mono ?_; rintro e w1 ⟨rfl, hb1⟩
      have HB := Lib.hid (low_more below_one hb1)
      clear hb1 HC
      go_wp2_with fail
      refine bodyPost_ret (v := .tuple #[.int .i64 0, .int .i64 0, .bool false]) (by simp [results, Try.results31, go_sem]) rfl ⟨rfl, HB.out⟩
    · have h2 : 0 < atOf B S t := by omega
      have ha := hL.at_ h2
      have HE := Lib.hid (show roomK B S t = ((kOf B S t : Nat) : Int) ∧ roomF B S t = slab (kOf B S t) - 1 - atOf B S t ∧ decide (rightT B S t) = true from ⟨by unfold roomK kInt; rw [if_neg h0, if_neg h1, if_pos ha.1], by unfold roomF; rw [if_neg h0, if_neg h1], decide_eq_true (.inr h2)⟩)
      rw [HE.out.1, HE.out.2.1, HE.out.2.2]
      have hki : kInt B S t = ((kOf B S t : Nat) : Int) := by unfold kInt; rw [if_pos ha.1]
      rw [hki] at HC
      obtain ⟨ha1, ha2, ha3, ha4⟩ := ha
      clear HE hki
      obtain ⟨k, hk⟩ : ∃ k, k = kOf B S t := ⟨_, rfl⟩
      obtain ⟨q, hq⟩ : ∃ q, q = atOf B S t := ⟨_, rfl⟩
      rw [← hk] at ha1 ha4 HC ⊢
      rw [← hq] at h1 h2 ha4 HC ⊢
      have hs0 := slab_lo k
      have hs1 := slab_hi k
      have HW := Lib.hid (fun w => words_in w k ha1)
      obtain ⟨s, hs⟩ : ∃ s, s = slab k := ⟨_, rfl⟩
      rw [← hs] at hs0 hs1 HW ha4 ⊢
      have hqb : (q == 0) = false := by simpa using h1
      have i1 : IntKind.i64.wrap (s - 1 - q) = s - 1 - q := IntWalk.i64_in _ (by omega)
      clear h0 h1 hL hs hk hq
      go_enter Try.func31, Try.ntmps31
      go_wp2_with (refine wpList_load_row rfl 29 (.tmp 2) rfl w.heap.size rfl 29 (planC B S C T L) (0, 0) _ (heap_alloc_new w _) Try.underlying29 rfl (planC_info _ _ _ _ _) ?_)
      refine (HC.out _).mono ?_; rintro e w1 ⟨rfl, hb1⟩
      have HB := Lib.hid (low_more below_one hb1)
      clear hb1 HC
      go_wp2_with fail
      refine (HW.out _).mono ?_; rintro e w2 ⟨rfl, rfl⟩
      go_wp2_with fail
      refine bodyPost_ret (v := .tuple #[.int .i64 (k : Int), .int .i64 (s - 1 - q), .bool true]) (by simp [results, Try.results31, go_sem]) rfl ⟨rfl, HB.out⟩
end Go.Proofs.Ytiabmbkmahlhkaa
