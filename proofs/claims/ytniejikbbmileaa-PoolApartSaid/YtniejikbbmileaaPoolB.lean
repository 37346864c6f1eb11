/-
  Whether a configuration may be, number by number; and how many slots.
-/
import Derived.Test.YtniejikbbmileaaPool
namespace Go.Proofs.Ytniejikbbmileaa
open Go.RowKit

/-- The cells of a configuration. -/
def confC (d t : Int) (s : Nat → Int) (bk rm : Int) (kf bf : Nat) : Array Value := #[.int .i64 d, .int .i64 t, .int .i64 (s 0), .int .i64 (s 1), .int .i64 (s 2), .int .i64 (s 3), .int .i64 bk, .int .i64 rm, .float .f64 kf, .float .f64 bf]
/-- May these numbers be, each by itself? -/
structure Lim (d t : Int) (s : Nat → Int) (bk rm : Int) : Prop where
  d0 : 1 ≤ d
  d1 : d ≤ 64
  t0 : 64 ≤ t
  t1 : t ≤ 256
  s0 : ∀ k, k < 4 → 0 ≤ s k
  s1 : ∀ k, k < 4 → s k ≤ 512
  b0 : 0 ≤ bk
  b1 : bk ≤ 65536
  r0 : 0 ≤ rm
  r1 : rm ≤ 65536

theorem inLimits_yes (w : World) (d t : Int) (s : Nat → Int) (bk rm : Int) (kf bf : Nat) (h : Lim d t s bk rm) :
    Calls Try.prog 20 #[.agg (confC d t s bk rm kf bf)] w fun e w' => e = .returned (.bool true) ∧ Below w.heap.size w w' := by
  unfold confC
  obtain ⟨d0, d1, t0, t1, s0, s1, b0, b1, r0, r1⟩ := h
  have a0 := s0 0 (by omega)
  have a1 := s0 1 (by omega)
  have a2 := s0 2 (by omega)
  have a3 := s0 3 (by omega)
  have c0 := s1 0 (by omega)
  have c1 := s1 1 (by omega)
  have c2 := s1 2 (by omega)
  have c3 := s1 3 (by omega)
  clear s0 s1
  have i0 : ∀ w, (Instr.index 22 (.agg #[.int .i64 (s 0), .int .i64 (s 1), .int .i64 (s 2), .int .i64 (s 3)]) (.int .i64 0)).run Try.prog w = .ok (.int .i64 (s 0)) w := fun _ => by kernel_rfl
  have i1 : ∀ w, (Instr.index 22 (.agg #[.int .i64 (s 0), .int .i64 (s 1), .int .i64 (s 2), .int .i64 (s 3)]) (.int .i64 1)).run Try.prog w = .ok (.int .i64 (s 1)) w := fun _ => by kernel_rfl
  have i2 : ∀ w, (Instr.index 22 (.agg #[.int .i64 (s 0), .int .i64 (s 1), .int .i64 (s 2), .int .i64 (s 3)]) (.int .i64 2)).run Try.prog w = .ok (.int .i64 (s 2)) w := fun _ => by kernel_rfl
  have i3 : ∀ w, (Instr.index 22 (.agg #[.int .i64 (s 0), .int .i64 (s 1), .int .i64 (s 2), .int .i64 (s 3)]) (.int .i64 3)).run Try.prog w = .ok (.int .i64 (s 3)) w := fun _ => by kernel_rfl
  go_enter Try.func20, Try.ntmps20
  go_wp2_with fail
  refine wp_loop_rounds 5 ?_; rw [rounds_succ]
  go_wp2
  rw [rounds_succ]
  go_wp2
  rw [rounds_succ]
  go_wp2
  rw [rounds_succ]
  go_wp2
  rw [rounds_succ]
  go_wp2
  go_ret
  exact ⟨rfl, (Below.refl _ _).alloc (Nat.le_refl _) _⟩
theorem inLimits_lo0 (w : World) (d t : Int) (s : Nat → Int) (bk rm : Int) (kf bf : Nat)  (h : s 0 < 0) :
    Calls Try.prog 20 #[.agg (confC d t s bk rm kf bf)] w fun e w' => e = .returned (.bool false) ∧ Below w.heap.size w w' := by
  unfold confC
  have i0 : ∀ w, (Instr.index 22 (.agg #[.int .i64 (s 0), .int .i64 (s 1), .int .i64 (s 2), .int .i64 (s 3)]) (.int .i64 0)).run Try.prog w = .ok (.int .i64 (s 0)) w := fun _ => by kernel_rfl
  have i1 : ∀ w, (Instr.index 22 (.agg #[.int .i64 (s 0), .int .i64 (s 1), .int .i64 (s 2), .int .i64 (s 3)]) (.int .i64 1)).run Try.prog w = .ok (.int .i64 (s 1)) w := fun _ => by kernel_rfl
  have i2 : ∀ w, (Instr.index 22 (.agg #[.int .i64 (s 0), .int .i64 (s 1), .int .i64 (s 2), .int .i64 (s 3)]) (.int .i64 2)).run Try.prog w = .ok (.int .i64 (s 2)) w := fun _ => by kernel_rfl
  have i3 : ∀ w, (Instr.index 22 (.agg #[.int .i64 (s 0), .int .i64 (s 1), .int .i64 (s 2), .int .i64 (s 3)]) (.int .i64 3)).run Try.prog w = .ok (.int .i64 (s 3)) w := fun _ => by kernel_rfl
  go_enter Try.func20, Try.ntmps20
  go_wp2_with fail
  refine wp_loop_rounds 5 ?_; rw [rounds_succ]
  go_wp2
  go_ret
  exact ⟨rfl, (Below.refl _ _).alloc (Nat.le_refl _) _⟩
theorem inLimits_hi0 (w : World) (d t : Int) (s : Nat → Int) (bk rm : Int) (kf bf : Nat)  (h0 : 0 ≤ s 0) (h : 512 < s 0) :
    Calls Try.prog 20 #[.agg (confC d t s bk rm kf bf)] w fun e w' => e = .returned (.bool false) ∧ Below w.heap.size w w' := by
  unfold confC
  have i0 : ∀ w, (Instr.index 22 (.agg #[.int .i64 (s 0), .int .i64 (s 1), .int .i64 (s 2), .int .i64 (s 3)]) (.int .i64 0)).run Try.prog w = .ok (.int .i64 (s 0)) w := fun _ => by kernel_rfl
  have i1 : ∀ w, (Instr.index 22 (.agg #[.int .i64 (s 0), .int .i64 (s 1), .int .i64 (s 2), .int .i64 (s 3)]) (.int .i64 1)).run Try.prog w = .ok (.int .i64 (s 1)) w := fun _ => by kernel_rfl
  have i2 : ∀ w, (Instr.index 22 (.agg #[.int .i64 (s 0), .int .i64 (s 1), .int .i64 (s 2), .int .i64 (s 3)]) (.int .i64 2)).run Try.prog w = .ok (.int .i64 (s 2)) w := fun _ => by kernel_rfl
  have i3 : ∀ w, (Instr.index 22 (.agg #[.int .i64 (s 0), .int .i64 (s 1), .int .i64 (s 2), .int .i64 (s 3)]) (.int .i64 3)).run Try.prog w = .ok (.int .i64 (s 3)) w := fun _ => by kernel_rfl
  go_enter Try.func20, Try.ntmps20
  go_wp2_with fail
  refine wp_loop_rounds 5 ?_; rw [rounds_succ]
  go_wp2
  go_ret
  exact ⟨rfl, (Below.refl _ _).alloc (Nat.le_refl _) _⟩
theorem inLimits_lo1 (w : World) (d t : Int) (s : Nat → Int) (bk rm : Int) (kf bf : Nat) (a0 : 0 ≤ s 0) (c0 : s 0 ≤ 512) (h : s 1 < 0) :
    Calls Try.prog 20 #[.agg (confC d t s bk rm kf bf)] w fun e w' => e = .returned (.bool false) ∧ Below w.heap.size w w' := by
  unfold confC
  have i0 : ∀ w, (Instr.index 22 (.agg #[.int .i64 (s 0), .int .i64 (s 1), .int .i64 (s 2), .int .i64 (s 3)]) (.int .i64 0)).run Try.prog w = .ok (.int .i64 (s 0)) w := fun _ => by kernel_rfl
  have i1 : ∀ w, (Instr.index 22 (.agg #[.int .i64 (s 0), .int .i64 (s 1), .int .i64 (s 2), .int .i64 (s 3)]) (.int .i64 1)).run Try.prog w = .ok (.int .i64 (s 1)) w := fun _ => by kernel_rfl
  have i2 : ∀ w, (Instr.index 22 (.agg #[.int .i64 (s 0), .int .i64 (s 1), .int .i64 (s 2), .int .i64 (s 3)]) (.int .i64 2)).run Try.prog w = .ok (.int .i64 (s 2)) w := fun _ => by kernel_rfl
  have i3 : ∀ w, (Instr.index 22 (.agg #[.int .i64 (s 0), .int .i64 (s 1), .int .i64 (s 2), .int .i64 (s 3)]) (.int .i64 3)).run Try.prog w = .ok (.int .i64 (s 3)) w := fun _ => by kernel_rfl
  go_enter Try.func20, Try.ntmps20
  go_wp2_with fail
  refine wp_loop_rounds 5 ?_; rw [rounds_succ]
  go_wp2
  rw [rounds_succ]
  go_wp2
  go_ret
  exact ⟨rfl, (Below.refl _ _).alloc (Nat.le_refl _) _⟩
theorem inLimits_hi1 (w : World) (d t : Int) (s : Nat → Int) (bk rm : Int) (kf bf : Nat) (a0 : 0 ≤ s 0) (c0 : s 0 ≤ 512) (h0 : 0 ≤ s 1) (h : 512 < s 1) :
    Calls Try.prog 20 #[.agg (confC d t s bk rm kf bf)] w fun e w' => e = .returned (.bool false) ∧ Below w.heap.size w w' := by
  unfold confC
  have i0 : ∀ w, (Instr.index 22 (.agg #[.int .i64 (s 0), .int .i64 (s 1), .int .i64 (s 2), .int .i64 (s 3)]) (.int .i64 0)).run Try.prog w = .ok (.int .i64 (s 0)) w := fun _ => by kernel_rfl
  have i1 : ∀ w, (Instr.index 22 (.agg #[.int .i64 (s 0), .int .i64 (s 1), .int .i64 (s 2), .int .i64 (s 3)]) (.int .i64 1)).run Try.prog w = .ok (.int .i64 (s 1)) w := fun _ => by kernel_rfl
  have i2 : ∀ w, (Instr.index 22 (.agg #[.int .i64 (s 0), .int .i64 (s 1), .int .i64 (s 2), .int .i64 (s 3)]) (.int .i64 2)).run Try.prog w = .ok (.int .i64 (s 2)) w := fun _ => by kernel_rfl
  have i3 : ∀ w, (Instr.index 22 (.agg #[.int .i64 (s 0), .int .i64 (s 1), .int .i64 (s 2), .int .i64 (s 3)]) (.int .i64 3)).run Try.prog w = .ok (.int .i64 (s 3)) w := fun _ => by kernel_rfl
  go_enter Try.func20, Try.ntmps20
  go_wp2_with fail
  refine wp_loop_rounds 5 ?_; rw [rounds_succ]
  go_wp2
  rw [rounds_succ]
  go_wp2
  go_ret
  exact ⟨rfl, (Below.refl _ _).alloc (Nat.le_refl _) _⟩
theorem inLimits_lo2 (w : World) (d t : Int) (s : Nat → Int) (bk rm : Int) (kf bf : Nat) (a0 : 0 ≤ s 0) (c0 : s 0 ≤ 512) (a1 : 0 ≤ s 1) (c1 : s 1 ≤ 512) (h : s 2 < 0) :
    Calls Try.prog 20 #[.agg (confC d t s bk rm kf bf)] w fun e w' => e = .returned (.bool false) ∧ Below w.heap.size w w' := by
  unfold confC
  have i0 : ∀ w, (Instr.index 22 (.agg #[.int .i64 (s 0), .int .i64 (s 1), .int .i64 (s 2), .int .i64 (s 3)]) (.int .i64 0)).run Try.prog w = .ok (.int .i64 (s 0)) w := fun _ => by kernel_rfl
  have i1 : ∀ w, (Instr.index 22 (.agg #[.int .i64 (s 0), .int .i64 (s 1), .int .i64 (s 2), .int .i64 (s 3)]) (.int .i64 1)).run Try.prog w = .ok (.int .i64 (s 1)) w := fun _ => by kernel_rfl
  have i2 : ∀ w, (Instr.index 22 (.agg #[.int .i64 (s 0), .int .i64 (s 1), .int .i64 (s 2), .int .i64 (s 3)]) (.int .i64 2)).run Try.prog w = .ok (.int .i64 (s 2)) w := fun _ => by kernel_rfl
  have i3 : ∀ w, (Instr.index 22 (.agg #[.int .i64 (s 0), .int .i64 (s 1), .int .i64 (s 2), .int .i64 (s 3)]) (.int .i64 3)).run Try.prog w = .ok (.int .i64 (s 3)) w := fun _ => by kernel_rfl
  go_enter Try.func20, Try.ntmps20
  go_wp2_with fail
  refine wp_loop_rounds 5 ?_; rw [rounds_succ]
  go_wp2
  rw [rounds_succ]
  go_wp2
  rw [rounds_succ]
  go_wp2
  go_ret
  exact ⟨rfl, (Below.refl _ _).alloc (Nat.le_refl _) _⟩
theorem inLimits_hi2 (w : World) (d t : Int) (s : Nat → Int) (bk rm : Int) (kf bf : Nat) (a0 : 0 ≤ s 0) (c0 : s 0 ≤ 512) (a1 : 0 ≤ s 1) (c1 : s 1 ≤ 512) (h0 : 0 ≤ s 2) (h : 512 < s 2) :
    Calls Try.prog 20 #[.agg (confC d t s bk rm kf bf)] w fun e w' => e = .returned (.bool false) ∧ Below w.heap.size w w' := by
  unfold confC
  have i0 : ∀ w, (Instr.index 22 (.agg #[.int .i64 (s 0), .int .i64 (s 1), .int .i64 (s 2), .int .i64 (s 3)]) (.int .i64 0)).run Try.prog w = .ok (.int .i64 (s 0)) w := fun _ => by kernel_rfl
  have i1 : ∀ w, (Instr.index 22 (.agg #[.int .i64 (s 0), .int .i64 (s 1), .int .i64 (s 2), .int .i64 (s 3)]) (.int .i64 1)).run Try.prog w = .ok (.int .i64 (s 1)) w := fun _ => by kernel_rfl
  have i2 : ∀ w, (Instr.index 22 (.agg #[.int .i64 (s 0), .int .i64 (s 1), .int .i64 (s 2), .int .i64 (s 3)]) (.int .i64 2)).run Try.prog w = .ok (.int .i64 (s 2)) w := fun _ => by kernel_rfl
  have i3 : ∀ w, (Instr.index 22 (.agg #[.int .i64 (s 0), .int .i64 (s 1), .int .i64 (s 2), .int .i64 (s 3)]) (.int .i64 3)).run Try.prog w = .ok (.int .i64 (s 3)) w := fun _ => by kernel_rfl
  go_enter Try.func20, Try.ntmps20
  go_wp2_with fail
  refine wp_loop_rounds 5 ?_; rw [rounds_succ]
  go_wp2
  rw [rounds_succ]
  go_wp2
  rw [rounds_succ]
  go_wp2
  go_ret
  exact ⟨rfl, (Below.refl _ _).alloc (Nat.le_refl _) _⟩
theorem inLimits_lo3 (w : World) (d t : Int) (s : Nat → Int) (bk rm : Int) (kf bf : Nat) (a0 : 0 ≤ s 0) (c0 : s 0 ≤ 512) (a1 : 0 ≤ s 1) (c1 : s 1 ≤ 512) (a2 : 0 ≤ s 2) (c2 : s 2 ≤ 512) (h : s 3 < 0) :
    Calls Try.prog 20 #[.agg (confC d t s bk rm kf bf)] w fun e w' => e = .returned (.bool false) ∧ Below w.heap.size w w' := by
  unfold confC
  have i0 : ∀ w, (Instr.index 22 (.agg #[.int .i64 (s 0), .int .i64 (s 1), .int .i64 (s 2), .int .i64 (s 3)]) (.int .i64 0)).run Try.prog w = .ok (.int .i64 (s 0)) w := fun _ => by kernel_rfl
  have i1 : ∀ w, (Instr.index 22 (.agg #[.int .i64 (s 0), .int .i64 (s 1), .int .i64 (s 2), .int .i64 (s 3)]) (.int .i64 1)).run Try.prog w = .ok (.int .i64 (s 1)) w := fun _ => by kernel_rfl
  have i2 : ∀ w, (Instr.index 22 (.agg #[.int .i64 (s 0), .int .i64 (s 1), .int .i64 (s 2), .int .i64 (s 3)]) (.int .i64 2)).run Try.prog w = .ok (.int .i64 (s 2)) w := fun _ => by kernel_rfl
  have i3 : ∀ w, (Instr.index 22 (.agg #[.int .i64 (s 0), .int .i64 (s 1), .int .i64 (s 2), .int .i64 (s 3)]) (.int .i64 3)).run Try.prog w = .ok (.int .i64 (s 3)) w := fun _ => by kernel_rfl
  go_enter Try.func20, Try.ntmps20
  go_wp2_with fail
  refine wp_loop_rounds 5 ?_; rw [rounds_succ]
  go_wp2
  rw [rounds_succ]
  go_wp2
  rw [rounds_succ]
  go_wp2
  rw [rounds_succ]
  go_wp2
  go_ret
  exact ⟨rfl, (Below.refl _ _).alloc (Nat.le_refl _) _⟩
theorem inLimits_hi3 (w : World) (d t : Int) (s : Nat → Int) (bk rm : Int) (kf bf : Nat) (a0 : 0 ≤ s 0) (c0 : s 0 ≤ 512) (a1 : 0 ≤ s 1) (c1 : s 1 ≤ 512) (a2 : 0 ≤ s 2) (c2 : s 2 ≤ 512) (h0 : 0 ≤ s 3) (h : 512 < s 3) :
    Calls Try.prog 20 #[.agg (confC d t s bk rm kf bf)] w fun e w' => e = .returned (.bool false) ∧ Below w.heap.size w w' := by
  unfold confC
  have i0 : ∀ w, (Instr.index 22 (.agg #[.int .i64 (s 0), .int .i64 (s 1), .int .i64 (s 2), .int .i64 (s 3)]) (.int .i64 0)).run Try.prog w = .ok (.int .i64 (s 0)) w := fun _ => by kernel_rfl
  have i1 : ∀ w, (Instr.index 22 (.agg #[.int .i64 (s 0), .int .i64 (s 1), .int .i64 (s 2), .int .i64 (s 3)]) (.int .i64 1)).run Try.prog w = .ok (.int .i64 (s 1)) w := fun _ => by kernel_rfl
  have i2 : ∀ w, (Instr.index 22 (.agg #[.int .i64 (s 0), .int .i64 (s 1), .int .i64 (s 2), .int .i64 (s 3)]) (.int .i64 2)).run Try.prog w = .ok (.int .i64 (s 2)) w := fun _ => by kernel_rfl
  have i3 : ∀ w, (Instr.index 22 (.agg #[.int .i64 (s 0), .int .i64 (s 1), .int .i64 (s 2), .int .i64 (s 3)]) (.int .i64 3)).run Try.prog w = .ok (.int .i64 (s 3)) w := fun _ => by kernel_rfl
  go_enter Try.func20, Try.ntmps20
  go_wp2_with fail
  refine wp_loop_rounds 5 ?_; rw [rounds_succ]
  go_wp2
  rw [rounds_succ]
  go_wp2
  rw [rounds_succ]
  go_wp2
  rw [rounds_succ]
  go_wp2
  go_ret
  exact ⟨rfl, (Below.refl _ _).alloc (Nat.le_refl _) _⟩
theorem inLimits_c0 (w : World) (d t : Int) (s : Nat → Int) (bk rm : Int) (kf bf : Nat) (a0 : 0 ≤ s 0) (c0 : s 0 ≤ 512) (a1 : 0 ≤ s 1) (c1 : s 1 ≤ 512) (a2 : 0 ≤ s 2) (c2 : s 2 ≤ 512) (a3 : 0 ≤ s 3) (c3 : s 3 ≤ 512)  (h : d < 1) :
    Calls Try.prog 20 #[.agg (confC d t s bk rm kf bf)] w fun e w' => e = .returned (.bool false) ∧ Below w.heap.size w w' := by
  unfold confC
  have i0 : ∀ w, (Instr.index 22 (.agg #[.int .i64 (s 0), .int .i64 (s 1), .int .i64 (s 2), .int .i64 (s 3)]) (.int .i64 0)).run Try.prog w = .ok (.int .i64 (s 0)) w := fun _ => by kernel_rfl
  have i1 : ∀ w, (Instr.index 22 (.agg #[.int .i64 (s 0), .int .i64 (s 1), .int .i64 (s 2), .int .i64 (s 3)]) (.int .i64 1)).run Try.prog w = .ok (.int .i64 (s 1)) w := fun _ => by kernel_rfl
  have i2 : ∀ w, (Instr.index 22 (.agg #[.int .i64 (s 0), .int .i64 (s 1), .int .i64 (s 2), .int .i64 (s 3)]) (.int .i64 2)).run Try.prog w = .ok (.int .i64 (s 2)) w := fun _ => by kernel_rfl
  have i3 : ∀ w, (Instr.index 22 (.agg #[.int .i64 (s 0), .int .i64 (s 1), .int .i64 (s 2), .int .i64 (s 3)]) (.int .i64 3)).run Try.prog w = .ok (.int .i64 (s 3)) w := fun _ => by kernel_rfl
  have h' : decide (1 ≤ d) = false := decide_eq_false (by omega)
  go_enter Try.func20, Try.ntmps20
  go_wp2_with fail
  refine wp_loop_rounds 5 ?_; rw [rounds_succ]
  go_wp2
  rw [rounds_succ]
  go_wp2
  rw [rounds_succ]
  go_wp2
  rw [rounds_succ]
  go_wp2
  rw [rounds_succ]
  go_wp2
  go_ret
  exact ⟨rfl, (Below.refl _ _).alloc (Nat.le_refl _) _⟩
theorem inLimits_c1 (w : World) (d t : Int) (s : Nat → Int) (bk rm : Int) (kf bf : Nat) (a0 : 0 ≤ s 0) (c0 : s 0 ≤ 512) (a1 : 0 ≤ s 1) (c1 : s 1 ≤ 512) (a2 : 0 ≤ s 2) (c2 : s 2 ≤ 512) (a3 : 0 ≤ s 3) (c3 : s 3 ≤ 512) (g0 : 1 ≤ d) (h : 64 < d) :
    Calls Try.prog 20 #[.agg (confC d t s bk rm kf bf)] w fun e w' => e = .returned (.bool false) ∧ Below w.heap.size w w' := by
  unfold confC
  have i0 : ∀ w, (Instr.index 22 (.agg #[.int .i64 (s 0), .int .i64 (s 1), .int .i64 (s 2), .int .i64 (s 3)]) (.int .i64 0)).run Try.prog w = .ok (.int .i64 (s 0)) w := fun _ => by kernel_rfl
  have i1 : ∀ w, (Instr.index 22 (.agg #[.int .i64 (s 0), .int .i64 (s 1), .int .i64 (s 2), .int .i64 (s 3)]) (.int .i64 1)).run Try.prog w = .ok (.int .i64 (s 1)) w := fun _ => by kernel_rfl
  have i2 : ∀ w, (Instr.index 22 (.agg #[.int .i64 (s 0), .int .i64 (s 1), .int .i64 (s 2), .int .i64 (s 3)]) (.int .i64 2)).run Try.prog w = .ok (.int .i64 (s 2)) w := fun _ => by kernel_rfl
  have i3 : ∀ w, (Instr.index 22 (.agg #[.int .i64 (s 0), .int .i64 (s 1), .int .i64 (s 2), .int .i64 (s 3)]) (.int .i64 3)).run Try.prog w = .ok (.int .i64 (s 3)) w := fun _ => by kernel_rfl
  have h' : decide (d ≤ 64) = false := decide_eq_false (by omega)
  go_enter Try.func20, Try.ntmps20
  go_wp2_with fail
  refine wp_loop_rounds 5 ?_; rw [rounds_succ]
  go_wp2
  rw [rounds_succ]
  go_wp2
  rw [rounds_succ]
  go_wp2
  rw [rounds_succ]
  go_wp2
  rw [rounds_succ]
  go_wp2
  go_ret
  exact ⟨rfl, (Below.refl _ _).alloc (Nat.le_refl _) _⟩
theorem inLimits_c2 (w : World) (d t : Int) (s : Nat → Int) (bk rm : Int) (kf bf : Nat) (a0 : 0 ≤ s 0) (c0 : s 0 ≤ 512) (a1 : 0 ≤ s 1) (c1 : s 1 ≤ 512) (a2 : 0 ≤ s 2) (c2 : s 2 ≤ 512) (a3 : 0 ≤ s 3) (c3 : s 3 ≤ 512) (g0 : 1 ≤ d) (g1 : d ≤ 64) (h : t < 64) :
    Calls Try.prog 20 #[.agg (confC d t s bk rm kf bf)] w fun e w' => e = .returned (.bool false) ∧ Below w.heap.size w w' := by
  unfold confC
  have i0 : ∀ w, (Instr.index 22 (.agg #[.int .i64 (s 0), .int .i64 (s 1), .int .i64 (s 2), .int .i64 (s 3)]) (.int .i64 0)).run Try.prog w = .ok (.int .i64 (s 0)) w := fun _ => by kernel_rfl
  have i1 : ∀ w, (Instr.index 22 (.agg #[.int .i64 (s 0), .int .i64 (s 1), .int .i64 (s 2), .int .i64 (s 3)]) (.int .i64 1)).run Try.prog w = .ok (.int .i64 (s 1)) w := fun _ => by kernel_rfl
  have i2 : ∀ w, (Instr.index 22 (.agg #[.int .i64 (s 0), .int .i64 (s 1), .int .i64 (s 2), .int .i64 (s 3)]) (.int .i64 2)).run Try.prog w = .ok (.int .i64 (s 2)) w := fun _ => by kernel_rfl
  have i3 : ∀ w, (Instr.index 22 (.agg #[.int .i64 (s 0), .int .i64 (s 1), .int .i64 (s 2), .int .i64 (s 3)]) (.int .i64 3)).run Try.prog w = .ok (.int .i64 (s 3)) w := fun _ => by kernel_rfl
  have h' : decide (64 ≤ t) = false := decide_eq_false (by omega)
  go_enter Try.func20, Try.ntmps20
  go_wp2_with fail
  refine wp_loop_rounds 5 ?_; rw [rounds_succ]
  go_wp2
  rw [rounds_succ]
  go_wp2
  rw [rounds_succ]
  go_wp2
  rw [rounds_succ]
  go_wp2
  rw [rounds_succ]
  go_wp2
  go_ret
  exact ⟨rfl, (Below.refl _ _).alloc (Nat.le_refl _) _⟩
theorem inLimits_c3 (w : World) (d t : Int) (s : Nat → Int) (bk rm : Int) (kf bf : Nat) (a0 : 0 ≤ s 0) (c0 : s 0 ≤ 512) (a1 : 0 ≤ s 1) (c1 : s 1 ≤ 512) (a2 : 0 ≤ s 2) (c2 : s 2 ≤ 512) (a3 : 0 ≤ s 3) (c3 : s 3 ≤ 512) (g0 : 1 ≤ d) (g1 : d ≤ 64) (g2 : 64 ≤ t) (h : 256 < t) :
    Calls Try.prog 20 #[.agg (confC d t s bk rm kf bf)] w fun e w' => e = .returned (.bool false) ∧ Below w.heap.size w w' := by
  unfold confC
  have i0 : ∀ w, (Instr.index 22 (.agg #[.int .i64 (s 0), .int .i64 (s 1), .int .i64 (s 2), .int .i64 (s 3)]) (.int .i64 0)).run Try.prog w = .ok (.int .i64 (s 0)) w := fun _ => by kernel_rfl
  have i1 : ∀ w, (Instr.index 22 (.agg #[.int .i64 (s 0), .int .i64 (s 1), .int .i64 (s 2), .int .i64 (s 3)]) (.int .i64 1)).run Try.prog w = .ok (.int .i64 (s 1)) w := fun _ => by kernel_rfl
  have i2 : ∀ w, (Instr.index 22 (.agg #[.int .i64 (s 0), .int .i64 (s 1), .int .i64 (s 2), .int .i64 (s 3)]) (.int .i64 2)).run Try.prog w = .ok (.int .i64 (s 2)) w := fun _ => by kernel_rfl
  have i3 : ∀ w, (Instr.index 22 (.agg #[.int .i64 (s 0), .int .i64 (s 1), .int .i64 (s 2), .int .i64 (s 3)]) (.int .i64 3)).run Try.prog w = .ok (.int .i64 (s 3)) w := fun _ => by kernel_rfl
  have h' : decide (t ≤ 256) = false := decide_eq_false (by omega)
  go_enter Try.func20, Try.ntmps20
  go_wp2_with fail
  refine wp_loop_rounds 5 ?_; rw [rounds_succ]
  go_wp2
  rw [rounds_succ]
  go_wp2
  rw [rounds_succ]
  go_wp2
  rw [rounds_succ]
  go_wp2
  rw [rounds_succ]
  go_wp2
  go_ret
  exact ⟨rfl, (Below.refl _ _).alloc (Nat.le_refl _) _⟩
theorem inLimits_c4 (w : World) (d t : Int) (s : Nat → Int) (bk rm : Int) (kf bf : Nat) (a0 : 0 ≤ s 0) (c0 : s 0 ≤ 512) (a1 : 0 ≤ s 1) (c1 : s 1 ≤ 512) (a2 : 0 ≤ s 2) (c2 : s 2 ≤ 512) (a3 : 0 ≤ s 3) (c3 : s 3 ≤ 512) (g0 : 1 ≤ d) (g1 : d ≤ 64) (g2 : 64 ≤ t) (g3 : t ≤ 256) (h : bk < 0) :
    Calls Try.prog 20 #[.agg (confC d t s bk rm kf bf)] w fun e w' => e = .returned (.bool false) ∧ Below w.heap.size w w' := by
  unfold confC
  have i0 : ∀ w, (Instr.index 22 (.agg #[.int .i64 (s 0), .int .i64 (s 1), .int .i64 (s 2), .int .i64 (s 3)]) (.int .i64 0)).run Try.prog w = .ok (.int .i64 (s 0)) w := fun _ => by kernel_rfl
  have i1 : ∀ w, (Instr.index 22 (.agg #[.int .i64 (s 0), .int .i64 (s 1), .int .i64 (s 2), .int .i64 (s 3)]) (.int .i64 1)).run Try.prog w = .ok (.int .i64 (s 1)) w := fun _ => by kernel_rfl
  have i2 : ∀ w, (Instr.index 22 (.agg #[.int .i64 (s 0), .int .i64 (s 1), .int .i64 (s 2), .int .i64 (s 3)]) (.int .i64 2)).run Try.prog w = .ok (.int .i64 (s 2)) w := fun _ => by kernel_rfl
  have i3 : ∀ w, (Instr.index 22 (.agg #[.int .i64 (s 0), .int .i64 (s 1), .int .i64 (s 2), .int .i64 (s 3)]) (.int .i64 3)).run Try.prog w = .ok (.int .i64 (s 3)) w := fun _ => by kernel_rfl
  have h' : decide (0 ≤ bk) = false := decide_eq_false (by omega)
  go_enter Try.func20, Try.ntmps20
  go_wp2_with fail
  refine wp_loop_rounds 5 ?_; rw [rounds_succ]
  go_wp2
  rw [rounds_succ]
  go_wp2
  rw [rounds_succ]
  go_wp2
  rw [rounds_succ]
  go_wp2
  rw [rounds_succ]
  go_wp2
  go_ret
  exact ⟨rfl, (Below.refl _ _).alloc (Nat.le_refl _) _⟩
theorem inLimits_c5 (w : World) (d t : Int) (s : Nat → Int) (bk rm : Int) (kf bf : Nat) (a0 : 0 ≤ s 0) (c0 : s 0 ≤ 512) (a1 : 0 ≤ s 1) (c1 : s 1 ≤ 512) (a2 : 0 ≤ s 2) (c2 : s 2 ≤ 512) (a3 : 0 ≤ s 3) (c3 : s 3 ≤ 512) (g0 : 1 ≤ d) (g1 : d ≤ 64) (g2 : 64 ≤ t) (g3 : t ≤ 256) (g4 : 0 ≤ bk) (h : 65536 < bk) :
    Calls Try.prog 20 #[.agg (confC d t s bk rm kf bf)] w fun e w' => e = .returned (.bool false) ∧ Below w.heap.size w w' := by
  unfold confC
  have i0 : ∀ w, (Instr.index 22 (.agg #[.int .i64 (s 0), .int .i64 (s 1), .int .i64 (s 2), .int .i64 (s 3)]) (.int .i64 0)).run Try.prog w = .ok (.int .i64 (s 0)) w := fun _ => by kernel_rfl
  have i1 : ∀ w, (Instr.index 22 (.agg #[.int .i64 (s 0), .int .i64 (s 1), .int .i64 (s 2), .int .i64 (s 3)]) (.int .i64 1)).run Try.prog w = .ok (.int .i64 (s 1)) w := fun _ => by kernel_rfl
  have i2 : ∀ w, (Instr.index 22 (.agg #[.int .i64 (s 0), .int .i64 (s 1), .int .i64 (s 2), .int .i64 (s 3)]) (.int .i64 2)).run Try.prog w = .ok (.int .i64 (s 2)) w := fun _ => by kernel_rfl
  have i3 : ∀ w, (Instr.index 22 (.agg #[.int .i64 (s 0), .int .i64 (s 1), .int .i64 (s 2), .int .i64 (s 3)]) (.int .i64 3)).run Try.prog w = .ok (.int .i64 (s 3)) w := fun _ => by kernel_rfl
  have h' : decide (bk ≤ 65536) = false := decide_eq_false (by omega)
  go_enter Try.func20, Try.ntmps20
  go_wp2_with fail
  refine wp_loop_rounds 5 ?_; rw [rounds_succ]
  go_wp2
  rw [rounds_succ]
  go_wp2
  rw [rounds_succ]
  go_wp2
  rw [rounds_succ]
  go_wp2
  rw [rounds_succ]
  go_wp2
  go_ret
  exact ⟨rfl, (Below.refl _ _).alloc (Nat.le_refl _) _⟩
theorem inLimits_c6 (w : World) (d t : Int) (s : Nat → Int) (bk rm : Int) (kf bf : Nat) (a0 : 0 ≤ s 0) (c0 : s 0 ≤ 512) (a1 : 0 ≤ s 1) (c1 : s 1 ≤ 512) (a2 : 0 ≤ s 2) (c2 : s 2 ≤ 512) (a3 : 0 ≤ s 3) (c3 : s 3 ≤ 512) (g0 : 1 ≤ d) (g1 : d ≤ 64) (g2 : 64 ≤ t) (g3 : t ≤ 256) (g4 : 0 ≤ bk) (g5 : bk ≤ 65536) (h : rm < 0) :
    Calls Try.prog 20 #[.agg (confC d t s bk rm kf bf)] w fun e w' => e = .returned (.bool false) ∧ Below w.heap.size w w' := by
  unfold confC
  have i0 : ∀ w, (Instr.index 22 (.agg #[.int .i64 (s 0), .int .i64 (s 1), .int .i64 (s 2), .int .i64 (s 3)]) (.int .i64 0)).run Try.prog w = .ok (.int .i64 (s 0)) w := fun _ => by kernel_rfl
  have i1 : ∀ w, (Instr.index 22 (.agg #[.int .i64 (s 0), .int .i64 (s 1), .int .i64 (s 2), .int .i64 (s 3)]) (.int .i64 1)).run Try.prog w = .ok (.int .i64 (s 1)) w := fun _ => by kernel_rfl
  have i2 : ∀ w, (Instr.index 22 (.agg #[.int .i64 (s 0), .int .i64 (s 1), .int .i64 (s 2), .int .i64 (s 3)]) (.int .i64 2)).run Try.prog w = .ok (.int .i64 (s 2)) w := fun _ => by kernel_rfl
  have i3 : ∀ w, (Instr.index 22 (.agg #[.int .i64 (s 0), .int .i64 (s 1), .int .i64 (s 2), .int .i64 (s 3)]) (.int .i64 3)).run Try.prog w = .ok (.int .i64 (s 3)) w := fun _ => by kernel_rfl
  have h' : decide (0 ≤ rm) = false := decide_eq_false (by omega)
  go_enter Try.func20, Try.ntmps20
  go_wp2_with fail
  refine wp_loop_rounds 5 ?_; rw [rounds_succ]
  go_wp2
  rw [rounds_succ]
  go_wp2
  rw [rounds_succ]
  go_wp2
  rw [rounds_succ]
  go_wp2
  rw [rounds_succ]
  go_wp2
  go_ret
  exact ⟨rfl, (Below.refl _ _).alloc (Nat.le_refl _) _⟩
theorem inLimits_c7 (w : World) (d t : Int) (s : Nat → Int) (bk rm : Int) (kf bf : Nat) (a0 : 0 ≤ s 0) (c0 : s 0 ≤ 512) (a1 : 0 ≤ s 1) (c1 : s 1 ≤ 512) (a2 : 0 ≤ s 2) (c2 : s 2 ≤ 512) (a3 : 0 ≤ s 3) (c3 : s 3 ≤ 512) (g0 : 1 ≤ d) (g1 : d ≤ 64) (g2 : 64 ≤ t) (g3 : t ≤ 256) (g4 : 0 ≤ bk) (g5 : bk ≤ 65536) (g6 : 0 ≤ rm) (h : 65536 < rm) :
    Calls Try.prog 20 #[.agg (confC d t s bk rm kf bf)] w fun e w' => e = .returned (.bool false) ∧ Below w.heap.size w w' := by
  unfold confC
  have i0 : ∀ w, (Instr.index 22 (.agg #[.int .i64 (s 0), .int .i64 (s 1), .int .i64 (s 2), .int .i64 (s 3)]) (.int .i64 0)).run Try.prog w = .ok (.int .i64 (s 0)) w := fun _ => by kernel_rfl
  have i1 : ∀ w, (Instr.index 22 (.agg #[.int .i64 (s 0), .int .i64 (s 1), .int .i64 (s 2), .int .i64 (s 3)]) (.int .i64 1)).run Try.prog w = .ok (.int .i64 (s 1)) w := fun _ => by kernel_rfl
  have i2 : ∀ w, (Instr.index 22 (.agg #[.int .i64 (s 0), .int .i64 (s 1), .int .i64 (s 2), .int .i64 (s 3)]) (.int .i64 2)).run Try.prog w = .ok (.int .i64 (s 2)) w := fun _ => by kernel_rfl
  have i3 : ∀ w, (Instr.index 22 (.agg #[.int .i64 (s 0), .int .i64 (s 1), .int .i64 (s 2), .int .i64 (s 3)]) (.int .i64 3)).run Try.prog w = .ok (.int .i64 (s 3)) w := fun _ => by kernel_rfl
  have h' : decide (rm ≤ 65536) = false := decide_eq_false (by omega)
  go_enter Try.func20, Try.ntmps20
  go_wp2_with fail
  refine wp_loop_rounds 5 ?_; rw [rounds_succ]
  go_wp2
  rw [rounds_succ]
  go_wp2
  rw [rounds_succ]
  go_wp2
  rw [rounds_succ]
  go_wp2
  rw [rounds_succ]
  go_wp2
  go_ret
  exact ⟨rfl, (Below.refl _ _).alloc (Nat.le_refl _) _⟩

theorem inLimits_no (w : World) (d t : Int) (s : Nat → Int) (bk rm : Int) (kf bf : Nat) (h : ¬ Lim d t s bk rm) :
    Calls Try.prog 20 #[.agg (confC d t s bk rm kf bf)] w fun e w' => e = .returned (.bool false) ∧ Below w.heap.size w w' := by
  by_cases a0 : 0 ≤ s 0
  rotate_left; · exact inLimits_lo0 _ _ _ _ _ _ _ _ (by omega)
  by_cases c0 : s 0 ≤ 512
  rotate_left; · exact inLimits_hi0 _ _ _ _ _ _ _ _ a0 (by omega)
  by_cases a1 : 0 ≤ s 1
  rotate_left; · exact inLimits_lo1 _ _ _ _ _ _ _ _ a0 c0 (by omega)
  by_cases c1 : s 1 ≤ 512
  rotate_left; · exact inLimits_hi1 _ _ _ _ _ _ _ _ a0 c0 a1 (by omega)
  by_cases a2 : 0 ≤ s 2
  rotate_left; · exact inLimits_lo2 _ _ _ _ _ _ _ _ a0 c0 a1 c1 (by omega)
  by_cases c2 : s 2 ≤ 512
  rotate_left; · exact inLimits_hi2 _ _ _ _ _ _ _ _ a0 c0 a1 c1 a2 (by omega)
  by_cases a3 : 0 ≤ s 3
  rotate_left; · exact inLimits_lo3 _ _ _ _ _ _ _ _ a0 c0 a1 c1 a2 c2 (by omega)
  by_cases c3 : s 3 ≤ 512
  rotate_left; · exact inLimits_hi3 _ _ _ _ _ _ _ _ a0 c0 a1 c1 a2 c2 a3 (by omega)
  by_cases g0 : 1 ≤ d
  rotate_left; · exact inLimits_c0 _ _ _ _ _ _ _ _ a0 c0 a1 c1 a2 c2 a3 c3 (by omega)
  by_cases g1 : d ≤ 64
  rotate_left; · exact inLimits_c1 _ _ _ _ _ _ _ _ a0 c0 a1 c1 a2 c2 a3 c3 g0 (by omega)
  by_cases g2 : 64 ≤ t
  rotate_left; · exact inLimits_c2 _ _ _ _ _ _ _ _ a0 c0 a1 c1 a2 c2 a3 c3 g0 g1 (by omega)
  by_cases g3 : t ≤ 256
  rotate_left; · exact inLimits_c3 _ _ _ _ _ _ _ _ a0 c0 a1 c1 a2 c2 a3 c3 g0 g1 g2 (by omega)
  by_cases g4 : 0 ≤ bk
  rotate_left; · exact inLimits_c4 _ _ _ _ _ _ _ _ a0 c0 a1 c1 a2 c2 a3 c3 g0 g1 g2 g3 (by omega)
  by_cases g5 : bk ≤ 65536
  rotate_left; · exact inLimits_c5 _ _ _ _ _ _ _ _ a0 c0 a1 c1 a2 c2 a3 c3 g0 g1 g2 g3 g4 (by omega)
  by_cases g6 : 0 ≤ rm
  rotate_left; · exact inLimits_c6 _ _ _ _ _ _ _ _ a0 c0 a1 c1 a2 c2 a3 c3 g0 g1 g2 g3 g4 g5 (by omega)
  by_cases g7 : rm ≤ 65536
  rotate_left; · exact inLimits_c7 _ _ _ _ _ _ _ _ a0 c0 a1 c1 a2 c2 a3 c3 g0 g1 g2 g3 g4 g5 g6 (by omega)
  have four : ∀ k, k < 4 → k = 0 ∨ k = 1 ∨ k = 2 ∨ k = 3 := by omega
  exact absurd ⟨g0, g1, g2, g3, fun k hk => by rcases four k hk with rfl | rfl | rfl | rfl <;> assumption, fun k hk => by rcases four k hk with rfl | rfl | rfl | rfl <;> assumption, g4, g5, g6, g7⟩ h

/-- The least power of two above a number of terms. -/
def slotsOf (t : Int) : Int := if t < 128 then 128 else if t < 256 then 256 else 512
theorem slots_any (w : World) (t : Int) (h0 : 64 ≤ t) (h1 : t ≤ 256) : Calls Try.prog 22 #[.int .i64 t] w fun e w' => e = .returned (.int .i64 (slotsOf t)) ∧ w = w' := by
  by_cases a : t < 128
  · have e : slotsOf t = 128 := by simp [slotsOf, a]
    rw [e]
    go_enter Try.func22, Try.ntmps22
    go_wp2_with fail
    refine wp_loop_rounds 8 ?_; rw [rounds_succ]
    go_wp2
    rw [rounds_succ]
    go_wp2
    rw [rounds_succ]
    go_wp2
    rw [rounds_succ]
    go_wp2
    rw [rounds_succ]
    go_wp2
    rw [rounds_succ]
    go_wp2
    rw [rounds_succ]
    go_wp2
    rw [rounds_succ]
    go_wp2
    go_ret
    exact ⟨rfl, rfl⟩
  · by_cases b : t < 256
    · have e : slotsOf t = 256 := by simp [slotsOf, a, b]
      rw [e]
      have a' : 128 ≤ t := by omega
      go_enter Try.func22, Try.ntmps22
      go_wp2_with fail
      refine wp_loop_rounds 9 ?_; rw [rounds_succ]
      go_wp2
      rw [rounds_succ]
      go_wp2
      rw [rounds_succ]
      go_wp2
      rw [rounds_succ]
      go_wp2
      rw [rounds_succ]
      go_wp2
      rw [rounds_succ]
      go_wp2
      rw [rounds_succ]
      go_wp2
      rw [rounds_succ]
      go_wp2
      rw [rounds_succ]
      go_wp2
      go_ret
      exact ⟨rfl, rfl⟩
    · have e : slotsOf t = 512 := by simp [slotsOf, a, b]
      rw [e]
      have b' : t = 256 := by omega
      clear e a b h0 h1
      subst b'
      go_enter Try.func22, Try.ntmps22
      go_wp2_with fail
      refine wp_loop_rounds 10 ?_; rw [rounds_succ]
      go_wp2
      rw [rounds_succ]
      go_wp2
      rw [rounds_succ]
      go_wp2
      rw [rounds_succ]
      go_wp2
      rw [rounds_succ]
      go_wp2
      rw [rounds_succ]
      go_wp2
      rw [rounds_succ]
      go_wp2
      rw [rounds_succ]
      go_wp2
      rw [rounds_succ]
      go_wp2
      rw [rounds_succ]
      go_wp2
      go_ret
      exact ⟨rfl, rfl⟩
end Go.Proofs.Ytniejikbbmileaa
