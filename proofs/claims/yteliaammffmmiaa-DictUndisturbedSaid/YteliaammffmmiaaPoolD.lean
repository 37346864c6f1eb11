/-
  Where the pools lie: what pool.Lay answers.
-/
import Derived.Test.YteliaammffmmiaaPoolC
import Derived.Test.YteliaammffmmiaaRets
import Derived.Test.YteliaammffmmiaaRegion
namespace Go.Proofs.Yteliaammffmmiaa
open Go.RowKit

/-- The first cell of a pool; of one pool more than there are: all cells. -/
def baseOf (S : Nat → Int) : Nat → Int
  | 0 => 3
  | k + 1 => baseOf S k + S k
/-- Behind i rounds. -/
def baseTo (S : Nat → Int) (i k : Nat) : Int := if k < i then baseOf S k else 0
def liveOf (d t : Int) : Int := 1 + 4 * d + slotsOf t

theorem planC_one (B S : Nat → Int) (C T L : Int) : (planC B S C T L).all (·.oneCell') = true := by simp [planC, Value.oneCell']
theorem planC_both (B S B' S' : Nat → Int) (C T L C' T' L' : Int) : (planC B S C T L).size = (planC B' S' C' T' L').size := rfl
theorem planC_info (B S : Nat → Int) (C T L : Int) : (Try.prog.info? 25).map (·.size) = some (planC B S C T L).size := by kernel_rfl

theorem planC_base (B S : Nat → Int) (C T L : Int) (k : Nat) (hk : k < 6) : (planC B S C T L)[k]? = some (.int .i64 (B k)) := by
  rcases below6 hk with rfl | rfl | rfl | rfl | rfl | rfl <;> rfl
theorem planC_size (B S : Nat → Int) (C T L : Int) (k : Nat) (hk : k < 6) : (planC B S C T L)[6 + k]? = some (.int .i64 (S k)) := by
  rcases below6 hk with rfl | rfl | rfl | rfl | rfl | rfl <;> rfl
theorem planC_setBase (B S B' : Nat → Int) (C T L : Int) (k : Nat) (x : Int) (hk : k < 6) (h : ∀ j, j < 6 → B' j = if j = k then x else B j) : (planC B S C T L).setIfInBounds k (.int .i64 x) = planC B' S C T L := by
  have h0 := h 0 (by omega)
  have h1 := h 1 (by omega)
  have h2 := h 2 (by omega)
  have h3 := h 3 (by omega)
  have h4 := h 4 (by omega)
  have h5 := h 5 (by omega)
  rcases below6 hk with rfl | rfl | rfl | rfl | rfl | rfl <;> simp at h0 h1 h2 h3 h4 h5 <;> simp [planC, h0, h1, h2, h3, h4, h5]
theorem planC_setCells (B S : Nat → Int) (C T L x : Int) : (planC B S C T L).setIfInBounds 12 (.int .i64 x) = planC B S x T L := rfl
theorem planC_setLive (B S : Nat → Int) (C T L x : Int) : (planC B S C T L).setIfInBounds 14 (.int .i64 x) = planC B S C T x := rfl
theorem baseTo_next (S : Nat → Int) (k j : Nat) : baseTo S (k + 1) j = if j = k then baseOf S k else baseTo S k j := by
  unfold baseTo
  by_cases e : j = k
  · subst e; simp
  · by_cases a : j < k
    · simp [e, a, show j < k + 1 by omega]
    · simp [e, a, show ¬ j < k + 1 by omega]

/-- The configuration's copy at one block, the answer's variable at the next. -/
def LayAt (w : World) (d t : Int) (s : Nat → Int) (bk rm : Int) (kf bf : Nat) (wr : World) : Prop :=
  wr.heap[w.heap.size]? = some (.cells (confC d t s bk rm kf bf) 63 (0, 0)) ∧ wr.heap[w.heap.size + 1]? = some (.cells (planC (fun _ => 0) (fun _ => 0) 0 0 0) 25 (0, 0)) ∧ Below w.heap.size w wr

theorem LayAt.below {w : World} {d t : Int} {s : Nat → Int} {bk rm : Int} {kf bf : Nat} {wr w' : World} (h : LayAt w d t s bk rm kf bf wr) (hb : Below wr.heap.size wr w') : LayAt w d t s bk rm kf bf w' :=
  ⟨(hb.block _ (lt_of_heap h.1)).trans h.1, (hb.block _ (lt_of_heap h.2.1)).trans h.2.1, h.2.2.trans (hb.mono h.2.2.size)⟩

theorem LayAt.setCell {w : World} {d t : Int} {s : Nat → Int} {bk rm : Int} {kf bf : Nat} {wr : World} (h : LayAt w d t s bk rm kf bf wr) {p : Addr} (hp : w.heap.size + 2 ≤ p.block) (v : Value) : LayAt w d t s bk rm kf bf (wr.setCell p v) :=
  ⟨by rw [Below.heap_setCell _ _ _ _ (by omega)]; exact h.1, by rw [Below.heap_setCell _ _ _ _ (by omega)]; exact h.2.1, h.2.2.setCell (by omega) _⟩
theorem LayAt.drew {w : World} {d t : Int} {s : Nat → Int} {bk rm : Int} {kf bf : Nat} {wr : World} (h : LayAt w d t s bk rm kf bf wr) : LayAt w d t s bk rm kf bf wr.drew := ⟨h.1, h.2.1, h.2.2.drew⟩
theorem baseOf_lo {d t : Int} {s : Nat → Int} {bk rm : Int} (h : Lim d t s bk rm) : ∀ k, 3 ≤ baseOf (szOf s bk rm) k
  | 0 => by simp [baseOf]
  | k + 1 => by have := baseOf_lo h k; have := szOf_lo h k; simp only [baseOf]; omega
theorem baseOf_hi {d t : Int} {s : Nat → Int} {bk rm : Int} (h : Lim d t s bk rm) : ∀ k, baseOf (szOf s bk rm) k ≤ 3 + 131072 * k
  | 0 => by simp [baseOf]
  | k + 1 => by have := baseOf_hi h k; have := szOf_hi h k; simp only [baseOf]; omega
theorem slotsOf_lo (t : Int) : 128 ≤ slotsOf t := by unfold slotsOf; split; omega; split <;> omega
theorem slotsOf_hi (t : Int) : slotsOf t ≤ 512 := by unfold slotsOf; split; omega; split <;> omega

/-- May a configuration be? -/
def OkConf (d t : Int) (s : Nat → Int) (bk rm : Int) : Prop := Lim d t s bk rm ∧ baseOf (szOf s bk rm) 6 ≤ 65536
end Go.Proofs.Yteliaammffmmiaa
