/-
  The sizes of the pools: what pool.sizes answers.
-/
import Derived.Test.YtniejikbbmileaaPoolB
import Derived.StillTailTactics
import Derived.Deep.CutBlock
import Derived.Deep.DeepCutAuto
import Derived.Deep.RegionWith
import Derived.Laws.Rows
import Derived.Laws.CopyOwn
namespace Go.Proofs.Ytniejikbbmileaa
open Go.RowKit

/-- How many cells a pool has. -/
def szOf (s : Nat → Int) (bk rm : Int) (k : Nat) : Int := if k < 4 then s k * slab k else if k = 4 then bk else if k = 5 then rm else 0
/-- Behind i rounds: the pools of slabs up to it, the two others. -/
def szTo (s : Nat → Int) (bk rm : Int) (i k : Nat) : Int := if k < 4 ∧ i ≤ k then 0 else szOf s bk rm k

theorem slab_lo (k : Nat) : 4 ≤ slab k := by unfold slab; split; omega; split; omega; split <;> omega
theorem slab_hi (k : Nat) : slab k ≤ 256 := by unfold slab; split; omega; split; omega; split <;> omega
theorem szOf_lo {d t : Int} {s : Nat → Int} {bk rm : Int} (h : Lim d t s bk rm) (k : Nat) : 0 ≤ szOf s bk rm k := by
  have := h.b0; have := h.r0
  unfold szOf
  split
  · rename_i hk
    exact Int.mul_nonneg (h.s0 k hk) (by have := slab_lo k; omega)
  · split
    · assumption
    · split <;> omega
theorem szOf_hi {d t : Int} {s : Nat → Int} {bk rm : Int} (h : Lim d t s bk rm) (k : Nat) : szOf s bk rm k ≤ 131072 := by
  have := h.b1; have := h.r1
  unfold szOf
  split
  · rename_i hk
    calc s k * slab k ≤ 512 * slab k := Int.mul_le_mul_of_nonneg_right (h.s1 k hk) (by have := slab_lo k; omega)
      _ ≤ 131072 := by have := slab_hi k; omega
  · split
    · omega
    · split <;> omega

theorem slab_still (w : World) (k : Nat) (hk : k < 4) : Calls Try.prog 18 #[.int .i64 k] w fun e w' => e = .returned (.int .i64 (slab k)) ∧ w' = w := (slab_in w k hk).mono fun _ _ ⟨h, h'⟩ => ⟨h, h'.symm⟩

/-- Behind i rounds: the configuration's copy, the answer's variable, the row of sizes so far. -/
def SzRel (w : World) (d t : Int) (s : Nat → Int) (bk rm : Int) (kf bf : Nat) (i : Nat) (wr : World) : Prop :=
  wr.heap[w.heap.size]? = some (.cells (confC d t s bk rm kf bf) 25 (0, 0)) ∧ wr.heap[w.heap.size + 1]? = some (.cells (six fun _ => 0) 26 (0, 0)) ∧
  wr.heap[w.heap.size + 1 + 1]? = some (.cells (six (szTo s bk rm i)) 26 (0, 0)) ∧ Below w.heap.size w wr
theorem six_one (U : Nat → Int) : (six U).all (·.oneCell') = true := by simp [six, Value.oneCell']
theorem six_both (U V : Nat → Int) : (six U).size = (six V).size := rfl
theorem six_info (U : Nat → Int) : (Try.prog.info? 26).map (·.size) = some (six U).size := by kernel_rfl
theorem six_get (U : Nat → Int) (k : Nat) (hk : k < 6) : (six U)[k]? = some (.int .i64 (U k)) := by
  rcases below6 hk with rfl | rfl | rfl | rfl | rfl | rfl <;> rfl
theorem six_set (U V : Nat → Int) (k : Nat) (x : Int) (hk : k < 6) (h : ∀ j, j < 6 → V j = if j = k then x else U j) : (six U).setIfInBounds k (.int .i64 x) = six V := by
  have h0 := h 0 (by omega)
  have h1 := h 1 (by omega)
  have h2 := h 2 (by omega)
  have h3 := h 3 (by omega)
  have h4 := h 4 (by omega)
  have h5 := h 5 (by omega)
  rcases below6 hk with rfl | rfl | rfl | rfl | rfl | rfl <;> simp at h0 h1 h2 h3 h4 h5 <;> simp [six, h0, h1, h2, h3, h4, h5]
theorem conf_slab (d t : Int) (s : Nat → Int) (bk rm : Int) (kf bf : Nat) (k : Nat) (hk : k < 4) : (confC d t s bk rm kf bf)[2 + k]? = some (.int .i64 (s k)) := by
  have : k = 0 ∨ k = 1 ∨ k = 2 ∨ k = 3 := by omega
  rcases this with rfl | rfl | rfl | rfl <;> rfl
theorem szTo_next (s : Nat → Int) (bk rm : Int) (i : Nat) (hi : i < 4) (j : Nat) : szTo s bk rm (i + 1) j = if j = i then s i * slab i else szTo s bk rm i j := by
  unfold szTo
  by_cases e : j = i
  · subst e
    have : ¬ (j < 4 ∧ j + 1 ≤ j) := by omega
    rw [if_neg this, if_pos rfl]
    unfold szOf
    rw [if_pos hi]
  · by_cases a : j < 4 ∧ i ≤ j
    · have b : j < 4 ∧ i + 1 ≤ j := by omega
      simp [e, a, b]
    · have b : ¬ (j < 4 ∧ i + 1 ≤ j) := by omega
      simp [e, a, b]

set_option maxHeartbeats 400000 in
theorem sizes_any (w : World) (d t : Int) (s : Nat → Int) (bk rm : Int) (kf bf : Nat) (h : Lim d t s bk rm) :
    Calls Try.prog 21 #[.agg (confC d t s bk rm kf bf)] w fun e w' => e = .returned (.agg (six (szOf s bk rm))) ∧ Below w.heap.size w w' := by
  unfold confC
  go_enter Try.func21, Try.ntmps21
  go_wp2_with fail
  go_loopw [10] (fun i wr => ∃ k : Nat, k ≤ 4 ∧ i = .int .i64 k ∧ SzRel w d t s bk rm kf bf k wr) (fun i _ => 4 - (intOf i).toNat)
  case atStart =>
    exact ⟨0, by omega, rfl, heap3_0 _ _ _ _, heap3_1 _ _ _ _, heap3_2 _ _ _ _, below_al3⟩
  case round =>
    obtain ⟨k, hk, rfl, h1, h2, h3, hb⟩ := hrel
    by_cases hlt : k < 4
    · have c1 := cell_at h1 (2 + k)
      rw [conf_slab _ _ _ _ _ _ _ k hlt] at c1
      have f1 := free_at h3 k
      have c3 := cell_at h3 k
      rw [six_get _ k (by omega)] at c3
      have HH := Lib.hid (And.intro h1 (And.intro h2 (And.intro h3 hb)))
      clear h1 h2 h3 hb
      have a0 := h.s0 k hlt
      have a1 := h.s1 k hlt
      have hlt' : (k : Int) < 4 := by omega
      have hlt6 : (k : Int) < 6 := by omega
      have hm0 : 0 ≤ s k * slab k := Int.mul_nonneg a0 (by have := slab_lo k; omega)
      have hm1 : s k * slab k ≤ 131072 := by
        calc s k * slab k ≤ 512 * slab k := Int.mul_le_mul_of_nonneg_right a1 (by have := slab_lo k; omega)
          _ ≤ 131072 := by have := slab_hi k; omega
      have hwr : IntKind.i64.wrap (s k * slab k) = s k * slab k := IntWalk.i64_in _ (by omega)
      go_wp2_with fail
      refine wp_region_still_tail 9 (by kernel_rfl) (by kernel_rfl) ?_
      simp only [List.take_succ_cons, List.take_zero, List.drop_succ_cons, List.drop_zero]
      repeat still_step
      still_call (slab_still _ k hlt)
      repeat still_step
      refine wpStill_nil ?_
      change wpList _ _ _ _ _ (World.drew _)
      clear hwr
      go_wp2_with fail
      go_roundw
      case rel =>
        obtain ⟨h1, h2, h3, hb⟩ := HH.out
        refine ⟨k + 1, by omega, by go_num, ?_, ?_, ?_, ?_⟩
        · change (World.heap (World.setCell _ _ _))[_]? = _
          rw [Below.heap_setCell _ _ _ _ (by simp; omega)]; exact h1
        · change (World.heap (World.setCell _ _ _))[_]? = _
          rw [Below.heap_setCell _ _ _ _ (by simp)]; exact h2
        · change (World.heap (World.setCell _ _ _))[_]? = _
          rw [heap_setCell_same _ _ _ _ _ _ h3]
          rw [six_set _ (szTo s bk rm (k + 1)) k _ (by omega) (fun j _ => szTo_next s bk rm k hlt j)]
        · exact (hb.setCell (by simp; omega) _).drew
      case measure => simp [intOf]; omega
    · obtain rfl : k = 4 := by omega
      have e4 : six (szTo s bk rm 4) = six (szOf s bk rm) := by
        have : ∀ j, szTo s bk rm 4 j = szOf s bk rm j := fun j => by
          unfold szTo
          rw [if_neg (by omega)]
        simp only [six, this]
      rw [e4] at h3
      have H2 := Lib.hid h2
      have H3 := Lib.hid h3
      have HB := Lib.hid hb
      clear h1 h2 h3 hb e4
      go_wp2_with (first
        | (refine wpList_load_row rfl 26 (.tmp 3) rfl (w.heap.size + 1 + 1) rfl 26 (six (szOf s bk rm)) (0, 0) _ H3.out Try.underlying26 rfl (by kernel_rfl) ?_)
        | (refine wpList_store_row rfl 26 (.tmp 2) (.tmp 23) rfl (w.heap.size + 1) (six (szOf s bk rm)) rfl rfl 26 (six fun _ => 0) H2.out (six_info _) (six_both _ _) (six_one _) ?_))
      refine bodyPost_ret (v := .agg (six (szOf s bk rm))) (results_cell_row rfl _ _ (w.heap.size + 1) _ _ (0, 0) _ rfl (setRow_heap _ _ _ _ _ _ H2.out) Try.underlying26 rfl (six_info _)) rfl ⟨rfl, below_setRow HB.out (by omega) _⟩
end Go.Proofs.Ytniejikbbmileaa
