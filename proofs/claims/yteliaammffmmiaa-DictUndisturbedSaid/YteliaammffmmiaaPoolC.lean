/-
  The sizes of the pools: what pool.sizes answers.
-/
import Derived.Test.YteliaammffmmiaaPoolB
import Derived.StillTailTactics
import Derived.Deep.CutBlock
import Derived.Deep.DeepCutAuto
import Derived.Deep.RegionWith
import Derived.Laws.Rows
import Derived.Laws.CopyOwn
namespace Go.Proofs.Yteliaammffmmiaa
open Go.RowKit

/-- How many cells a pool has. -/
def szOf (s : Nat → Int) (bk rm : Int) (k : Nat) : Int := if k < 4 then s k * slab k else if k = 4 then bk else if k = 5 then rm else 0
/-- Behind i rounds: the pools of slabs up to it, the two others. -/
def szTo (s : Nat → Int) (bk rm : Int) (i k : Nat) : Int := if k < 4 ∧ i ≤ k then 0 else szOf s bk rm k

theorem slab_lo (k : Nat) : 4 ≤ slab k := by unfold slab; split; omega; split; omega; split <;> omega
theorem slab_hi (k : Nat) : slab k ≤ 256 := by unfold slab; split; omega; split; omega; split <;> omega
theorem szOf_lo {d t : Int} {s : Nat → Int} {bk rm : Int} (h : Lim d t s bk rm) (k : Nat) : 0 ≤ szOf s bk rm k := by
  have := h.b0; have := h.r0
  unfold szOf
  split
  · rename_i hk
    exact Int.mul_nonneg (h.s0 k hk) (by have := slab_lo k; omega)
  · split
    · assumption
    · split <;> omega
theorem szOf_hi {d t : Int} {s : Nat → Int} {bk rm : Int} (h : Lim d t s bk rm) (k : Nat) : szOf s bk rm k ≤ 131072 := by
  have := h.b1; have := h.r1
  unfold szOf
  split
  · rename_i hk
    calc s k * slab k ≤ 512 * slab k := Int.mul_le_mul_of_nonneg_right (h.s1 k hk) (by have := slab_lo k; omega)
      _ ≤ 131072 := by have := slab_hi k; omega
  · split
    · omega
    · split <;> omega

/-- Behind i rounds: the configuration's copy, the answer's variable, the row of sizes so far. -/
def SzRel (w : World) (d t : Int) (s : Nat → Int) (bk rm : Int) (kf bf : Nat) (i : Nat) (wr : World) : Prop :=
  wr.heap[w.heap.size]? = some (.cells (confC d t s bk rm kf bf) 63 (0, 0)) ∧ wr.heap[w.heap.size + 1]? = some (.cells (six fun _ => 0) 23 (0, 0)) ∧
  wr.heap[w.heap.size + 1 + 1]? = some (.cells (six (szTo s bk rm i)) 23 (0, 0)) ∧ Below w.heap.size w wr
theorem six_one (U : Nat → Int) : (six U).all (·.oneCell') = true := by simp [six, Value.oneCell']
theorem six_both (U V : Nat → Int) : (six U).size = (six V).size := rfl
theorem six_info (U : Nat → Int) : (Try.prog.info? 23).map (·.size) = some (six U).size := by kernel_rfl
theorem six_get (U : Nat → Int) (k : Nat) (hk : k < 6) : (six U)[k]? = some (.int .i64 (U k)) := by
  rcases below6 hk with rfl | rfl | rfl | rfl | rfl | rfl <;> rfl
theorem six_set (U V : Nat → Int) (k : Nat) (x : Int) (hk : k < 6) (h : ∀ j, j < 6 → V j = if j = k then x else U j) : (six U).setIfInBounds k (.int .i64 x) = six V := by
  have h0 := h 0 (by omega)
  have h1 := h 1 (by omega)
  have h2 := h 2 (by omega)
  have h3 := h 3 (by omega)
  have h4 := h 4 (by omega)
  have h5 := h 5 (by omega)
  rcases below6 hk with rfl | rfl | rfl | rfl | rfl | rfl <;> simp at h0 h1 h2 h3 h4 h5 <;> simp [six, h0, h1, h2, h3, h4, h5]
theorem conf_slab (d t : Int) (s : Nat → Int) (bk rm : Int) (kf bf : Nat) (k : Nat) (hk : k < 4) : (confC d t s bk rm kf bf)[2 + k]? = some (.int .i64 (s k)) := by
  have : k = 0 ∨ k = 1 ∨ k = 2 ∨ k = 3 := by omega
  rcases this with rfl | rfl | rfl | rfl <;> rfl
theorem szTo_next (s : Nat → Int) (bk rm : Int) (i : Nat) (hi : i < 4) (j : Nat) : szTo s bk rm (i + 1) j = if j = i then s i * slab i else szTo s bk rm i j := by
  unfold szTo
  by_cases e : j = i
  · subst e
    have : ¬ (j < 4 ∧ j + 1 ≤ j) := by omega
    rw [if_neg this, if_pos rfl]
    unfold szOf
    rw [if_pos hi]
  · by_cases a : j < 4 ∧ i ≤ j
    · have b : j < 4 ∧ i + 1 ≤ j := by omega
      simp [e, a, b]
    · have b : ¬ (j < 4 ∧ i + 1 ≤ j) := by omega
      simp [e, a, b]

end Go.Proofs.Yteliaammffmmiaa
