/-
  The reference's sizes of the pools.
-/
import Derived.Test.YteliaammffmmiaaPoolD
namespace Go.Proofs.Yteliaammffmmiaa
open Go.RowKit

theorem ref_sizes_c0 (w : World) (d t : Int) (s : Nat → Int) (bk rm : Int) (kf bf : Nat)  (h : d < 1) :
    Calls Try.prog 40 #[.agg (confC d t s bk rm kf bf)] w fun e w' => e = .returned (.tuple #[.agg (six fun _ => 0), .bool false]) ∧ Below w.heap.size w w' := by
  unfold confC
  go_enter Try.func40, Try.ntmps40
  go_wp2
  refine bodyPost_ret (v := .tuple #[.agg (six fun _ => 0), .bool false]) (by simp [results, Try.results40, go_sem, six]) rfl ⟨rfl, below_al3⟩
theorem ref_sizes_c1 (w : World) (d t : Int) (s : Nat → Int) (bk rm : Int) (kf bf : Nat) (g0 : 1 ≤ d) (h : 64 < d) :
    Calls Try.prog 40 #[.agg (confC d t s bk rm kf bf)] w fun e w' => e = .returned (.tuple #[.agg (six fun _ => 0), .bool false]) ∧ Below w.heap.size w w' := by
  unfold confC
  go_enter Try.func40, Try.ntmps40
  go_wp2
  refine bodyPost_ret (v := .tuple #[.agg (six fun _ => 0), .bool false]) (by simp [results, Try.results40, go_sem, six]) rfl ⟨rfl, below_al3⟩
theorem ref_sizes_c2 (w : World) (d t : Int) (s : Nat → Int) (bk rm : Int) (kf bf : Nat) (g0 : 1 ≤ d) (g1 : d ≤ 64) (h : t < 64) :
    Calls Try.prog 40 #[.agg (confC d t s bk rm kf bf)] w fun e w' => e = .returned (.tuple #[.agg (six fun _ => 0), .bool false]) ∧ Below w.heap.size w w' := by
  unfold confC
  go_enter Try.func40, Try.ntmps40
  go_wp2
  refine bodyPost_ret (v := .tuple #[.agg (six fun _ => 0), .bool false]) (by simp [results, Try.results40, go_sem, six]) rfl ⟨rfl, below_al3⟩
theorem ref_sizes_c3 (w : World) (d t : Int) (s : Nat → Int) (bk rm : Int) (kf bf : Nat) (g0 : 1 ≤ d) (g1 : d ≤ 64) (g2 : 64 ≤ t) (h : 256 < t) :
    Calls Try.prog 40 #[.agg (confC d t s bk rm kf bf)] w fun e w' => e = .returned (.tuple #[.agg (six fun _ => 0), .bool false]) ∧ Below w.heap.size w w' := by
  unfold confC
  go_enter Try.func40, Try.ntmps40
  go_wp2
  refine bodyPost_ret (v := .tuple #[.agg (six fun _ => 0), .bool false]) (by simp [results, Try.results40, go_sem, six]) rfl ⟨rfl, below_al3⟩
theorem ref_sizes_c4 (w : World) (d t : Int) (s : Nat → Int) (bk rm : Int) (kf bf : Nat) (g0 : 1 ≤ d) (g1 : d ≤ 64) (g2 : 64 ≤ t) (g3 : t ≤ 256) (h : bk < 0) :
    Calls Try.prog 40 #[.agg (confC d t s bk rm kf bf)] w fun e w' => e = .returned (.tuple #[.agg (six fun _ => 0), .bool false]) ∧ Below w.heap.size w w' := by
  unfold confC
  go_enter Try.func40, Try.ntmps40
  go_wp2
  refine bodyPost_ret (v := .tuple #[.agg (six fun _ => 0), .bool false]) (by simp [results, Try.results40, go_sem, six]) rfl ⟨rfl, below_al3⟩
theorem ref_sizes_c5 (w : World) (d t : Int) (s : Nat → Int) (bk rm : Int) (kf bf : Nat) (g0 : 1 ≤ d) (g1 : d ≤ 64) (g2 : 64 ≤ t) (g3 : t ≤ 256) (g4 : 0 ≤ bk) (h : 65536 < bk) :
    Calls Try.prog 40 #[.agg (confC d t s bk rm kf bf)] w fun e w' => e = .returned (.tuple #[.agg (six fun _ => 0), .bool false]) ∧ Below w.heap.size w w' := by
  unfold confC
  go_enter Try.func40, Try.ntmps40
  go_wp2
  refine bodyPost_ret (v := .tuple #[.agg (six fun _ => 0), .bool false]) (by simp [results, Try.results40, go_sem, six]) rfl ⟨rfl, below_al3⟩
theorem ref_sizes_c6 (w : World) (d t : Int) (s : Nat → Int) (bk rm : Int) (kf bf : Nat) (g0 : 1 ≤ d) (g1 : d ≤ 64) (g2 : 64 ≤ t) (g3 : t ≤ 256) (g4 : 0 ≤ bk) (g5 : bk ≤ 65536) (h : rm < 0) :
    Calls Try.prog 40 #[.agg (confC d t s bk rm kf bf)] w fun e w' => e = .returned (.tuple #[.agg (six fun _ => 0), .bool false]) ∧ Below w.heap.size w w' := by
  unfold confC
  go_enter Try.func40, Try.ntmps40
  go_wp2
  refine bodyPost_ret (v := .tuple #[.agg (six fun _ => 0), .bool false]) (by simp [results, Try.results40, go_sem, six]) rfl ⟨rfl, below_al3⟩
theorem ref_sizes_c7 (w : World) (d t : Int) (s : Nat → Int) (bk rm : Int) (kf bf : Nat) (g0 : 1 ≤ d) (g1 : d ≤ 64) (g2 : 64 ≤ t) (g3 : t ≤ 256) (g4 : 0 ≤ bk) (g5 : bk ≤ 65536) (g6 : 0 ≤ rm) (h : 65536 < rm) :
    Calls Try.prog 40 #[.agg (confC d t s bk rm kf bf)] w fun e w' => e = .returned (.tuple #[.agg (six fun _ => 0), .bool false]) ∧ Below w.heap.size w w' := by
  unfold confC
  go_enter Try.func40, Try.ntmps40
  go_wp2
  refine bodyPost_ret (v := .tuple #[.agg (six fun _ => 0), .bool false]) (by simp [results, Try.results40, go_sem, six]) rfl ⟨rfl, below_al3⟩

end Go.Proofs.Yteliaammffmmiaa
