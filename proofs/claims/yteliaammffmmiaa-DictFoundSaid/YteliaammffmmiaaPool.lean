/-
  What each small call of package pool answers: contracts over the program's own text. A plan is five lists of numbers; what is used of the pools is one.
-/
import Derived.Test.YteliaammffmmiaaKit
namespace Go.Proofs.Yteliaammffmmiaa
open Go.RowKit

/-- The cells of a row of six numbers, and of a plan. -/
def six (U : Nat → Int) : Array Value := #[.int .i64 (U 0), .int .i64 (U 1), .int .i64 (U 2), .int .i64 (U 3), .int .i64 (U 4), .int .i64 (U 5)]
def planC (B S : Nat → Int) (C T L : Int) : Array Value := #[.int .i64 (B 0), .int .i64 (B 1), .int .i64 (B 2), .int .i64 (B 3), .int .i64 (B 4), .int .i64 (B 5), .int .i64 (S 0), .int .i64 (S 1), .int .i64 (S 2), .int .i64 (S 3), .int .i64 (S 4), .int .i64 (S 5), .int .i64 C, .int .i64 T, .int .i64 L]

/-- Can so many cells of a pool be used? -/
def wB (U S : Nat → Int) (k : Nat) : Bool := decide (0 ≤ U k) && decide (U k ≤ S k)
theorem wB_yes {U S : Nat → Int} {k : Nat} (h0 : 0 ≤ U k) (h1 : U k ≤ S k) : wB U S k = true := by simp [wB, h0, h1]
theorem wB_no {U S : Nat → Int} {k : Nat} (h : U k < 0 ∨ S k < U k) : wB U S k = false := by simp [wB]; omega

theorem below6 {k : Nat} (h : k < 6) : k = 0 ∨ k = 1 ∨ k = 2 ∨ k = 3 ∨ k = 4 ∨ k = 5 := by omega

theorem within_any (w : World) (B S U : Nat → Int) (C T L : Int) (k : Nat) (hk : k < 6) :
    Calls Try.prog 53 #[.agg (planC B S C T L), .agg (six U), .int .i64 k] w fun e w' => e = .returned (.bool (wB U S k)) ∧ Below w.heap.size w w' := by
  unfold planC six
  by_cases h0 : 0 ≤ U k
  · by_cases h1 : U k ≤ S k
    · rw [wB_yes h0 h1]
      rcases below6 hk with rfl | rfl | rfl | rfl | rfl | rfl
      all_goals
        go_enter Try.func53, Try.ntmps53
        go_wp2
        go_quiet (fail)
        go_wp2
        go_ret
        exact ⟨rfl, below_two⟩
    · rw [wB_no (by omega)]
      have h1' : decide (U k ≤ S k) = false := by simpa using h1
      rcases below6 hk with rfl | rfl | rfl | rfl | rfl | rfl
      all_goals
        go_enter Try.func53, Try.ntmps53
        go_wp2
        go_quiet (fail)
        go_wp2
        go_ret
        exact ⟨rfl, below_two⟩
  · rw [wB_no (by omega)]
    have h0' : decide (0 ≤ U k) = false := by simpa using h0
    rcases below6 hk with rfl | rfl | rfl | rfl | rfl | rfl
    all_goals
      go_enter Try.func53, Try.ntmps53
      go_wp2
      go_quiet (fail)
      go_wp2
      go_ret
      exact ⟨rfl, below_two⟩

theorem left_any (w : World) (B S U : Nat → Int) (C T L : Int) (k : Nat) (hk : k < 6) (hu0 : 0 ≤ U k) (hus : U k ≤ S k) (hs : S k ≤ 1000000) :
    Calls Try.prog 54 #[.agg (planC B S C T L), .agg (six U), .int .i64 k] w fun e w' => e = .returned (.int .i64 (S k - U k)) ∧ Below w.heap.size w w' := by
  unfold planC six
  rcases below6 hk with rfl | rfl | rfl | rfl | rfl | rfl
  all_goals
    go_enter Try.func54, Try.ntmps54
    go_wp2
    go_quiet (fail)
    go_wp2
    go_ret
    exact ⟨rfl, below_two⟩

/-- How many cells a slab of a class has. -/
def slab (k : Nat) : Int := if k = 0 then 4 else if k = 1 then 16 else if k = 2 then 64 else 256
theorem ref_slab_in (w : World) (k : Nat) (hk : k < 4) : Calls Try.prog 51 #[.int .i64 k] w fun e w' => e = .returned (.int .i64 (slab k)) ∧ w = w' := by
  have : k = 0 ∨ k = 1 ∨ k = 2 ∨ k = 3 := by omega
  rcases this with rfl | rfl | rfl | rfl
  · go_enter Try.func51, Try.ntmps51
    go_wp2_with fail
    refine wp_loop_rounds 1 ?_; rw [rounds_succ]
    go_wp2
    go_ret
    exact ⟨rfl, rfl⟩
  · go_enter Try.func51, Try.ntmps51
    go_wp2_with fail
    refine wp_loop_rounds 2 ?_; rw [rounds_succ]
    go_wp2
    rw [rounds_succ]
    go_wp2
    go_ret
    exact ⟨rfl, rfl⟩
  · go_enter Try.func51, Try.ntmps51
    go_wp2_with fail
    refine wp_loop_rounds 3 ?_; rw [rounds_succ]
    go_wp2
    rw [rounds_succ]
    go_wp2
    rw [rounds_succ]
    go_wp2
    go_ret
    exact ⟨rfl, rfl⟩
  · go_enter Try.func51, Try.ntmps51
    go_wp2_with fail
    refine wp_loop_rounds 4 ?_; rw [rounds_succ]
    go_wp2
    rw [rounds_succ]
    go_wp2
    rw [rounds_succ]
    go_wp2
    rw [rounds_succ]
    go_wp2
    go_ret
    exact ⟨rfl, rfl⟩
theorem ref_slab_out (w : World) (k : Int) (hk : k < 0 ∨ 3 < k) : Calls Try.prog 51 #[.int .i64 k] w fun e w' => e = .returned (.int .i64 0) ∧ w = w' := by
  rcases hk with h | h
  · go_enter Try.func51, Try.ntmps51
    go_wp2
    go_ret
    exact ⟨rfl, rfl⟩
  · have h' : ¬ k < 0 := by omega
    go_enter Try.func51, Try.ntmps51
    go_wp2
    go_ret
    exact ⟨rfl, rfl⟩
end Go.Proofs.Yteliaammffmmiaa
