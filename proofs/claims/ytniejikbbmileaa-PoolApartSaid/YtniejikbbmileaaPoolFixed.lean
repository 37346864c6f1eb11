/-
  The laws' own example.
-/
import Derived.Test.YtniejikbbmileaaPoolH
import Derived.Test.YtniejikbbmileaaPoolEq
namespace Go.Proofs.Ytniejikbbmileaa
open Go.RowKit

theorem ok_fixed : OkConf 1 64 (fun _ => 1) 10 300 := by
  refine ⟨⟨by omega, by omega, by omega, by omega, fun _ _ => by omega, fun _ _ => by omega, by omega, by omega, by omega, by omega⟩, ?_⟩
  decide
theorem lay_fixed (w : World) : Calls Try.prog 9 #[.agg #[.int .i64 1, .int .i64 64, .int .i64 1, .int .i64 1, .int .i64 1, .int .i64 1, .int .i64 10, .int .i64 300, .float .f64 0, .float .f64 0]] w fun e w' =>
    e = .returned (.tuple #[.agg #[.int .i64 3, .int .i64 7, .int .i64 23, .int .i64 87, .int .i64 343, .int .i64 353, .int .i64 4, .int .i64 16, .int .i64 64, .int .i64 256, .int .i64 10, .int .i64 300, .int .i64 653, .int .i64 128, .int .i64 133], .int .i64 0]) ∧ Below w.heap.size w w' :=
  lay_ok w 1 64 (fun _ => 1) 10 300 0 0 ok_fixed
def fixB (j : Nat) : Int := [3, 7, 23, 87, 343, 353].getD j 0
def fixS (j : Nat) : Int := [4, 16, 64, 256, 10, 300].getD j 0
def fixU (j : Nat) : Int := if j = 1 then 16 else 0
theorem take_fixed (w : World) : Calls Try.prog 12 #[.agg #[.int .i64 3, .int .i64 7, .int .i64 23, .int .i64 87, .int .i64 343, .int .i64 353, .int .i64 4, .int .i64 16, .int .i64 64, .int .i64 256, .int .i64 10, .int .i64 300, .int .i64 653, .int .i64 128, .int .i64 133], .agg #[.int .i64 0, .int .i64 0, .int .i64 0, .int .i64 0, .int .i64 0, .int .i64 0], .int .i64 1, .int .i64 16] w fun e w' =>
    e = .returned (.tuple #[.int .i64 7, .agg #[.int .i64 0, .int .i64 16, .int .i64 0, .int .i64 0, .int .i64 0, .int .i64 0], .int .i64 0]) ∧ Below w.heap.size w w' :=
  take_ok w fixB fixS (fun _ => 0) 653 128 133 16 1 (by omega) (by omega) (by decide) (by decide) (by decide) (by decide) (by decide) (by decide)
theorem take_fixed2 (w : World) : Calls Try.prog 12 #[.agg #[.int .i64 3, .int .i64 7, .int .i64 23, .int .i64 87, .int .i64 343, .int .i64 353, .int .i64 4, .int .i64 16, .int .i64 64, .int .i64 256, .int .i64 10, .int .i64 300, .int .i64 653, .int .i64 128, .int .i64 133], .agg #[.int .i64 0, .int .i64 16, .int .i64 0, .int .i64 0, .int .i64 0, .int .i64 0], .int .i64 1, .int .i64 16] w fun e w' =>
    e = .returned (.tuple #[.int .i64 0, .agg #[.int .i64 0, .int .i64 0, .int .i64 0, .int .i64 0, .int .i64 0, .int .i64 0], .int .i64 3]) ∧ Below w.heap.size w w' :=
  take_full w fixB fixS fixU 653 128 133 16 1 (by omega) (by omega) (by decide) (by decide) (by decide) (by decide)

set_option maxHeartbeats 1000000 in
theorem fixed_any (w : World) : Calls Try.prog 11 #[] w fun e w' => e = .returned (.bool true) ∧ Below w.heap.size w w' := by
  have heq : ∀ w, (Op.equalIn 10000 26 (.agg #[.int .i64 3, .int .i64 7, .int .i64 23, .int .i64 87, .int .i64 343, .int .i64 353]) (.agg #[.int .i64 3, .int .i64 7, .int .i64 23, .int .i64 87, .int .i64 343, .int .i64 353])).run Try.prog w = .ok true w := eq_six fixB 9998
  go_enter Try.func11, Try.ntmps11
  go_wp2_with fail
  refine (lay_fixed _).mono ?_; rintro e w1 ⟨rfl, hb1⟩
  go_wp2_with fail
  refine (take_fixed _).mono ?_; rintro e w2 ⟨rfl, hb2⟩
  have hw1 := Below.size hb1
  obtain ⟨q, hq⟩ : ∃ q, q = w1.heap.size := ⟨_, rfl⟩
  have hp := (hb2.block w1.heap.size (by simp)).trans (heap_alloc_new w1 _)
  have HB := Lib.hid ((hb1.alloc hb1.size _).trans (hb2.mono (by simp; omega)))
  have hqw : q < w2.heap.size := by rw [hq]; exact lt_of_heap hp
  rw [← hq] at hp ⊢
  have HP := Lib.hid hp
  clear hp hb1 hb2 hw1 hq
  go_wp2_with (first
    | (refine wpList_load_row rfl 28 (.tmp 1) rfl q rfl 28 _ (0, 0) _ ((Below.heap_alloc _ _ _ hqw).trans HP.out) Try.underlying28 rfl (by kernel_rfl) ?_)
    | fail)
  refine (take_fixed2 _).mono ?_; rintro e w3 ⟨rfl, hb3⟩
  have k1 : w3.cell? ⟨w2.heap.size, 1, none⟩ = some (.int .i64 16) := (hb3.cell (p := ⟨w2.heap.size, 1, none⟩) (by simp)).trans (cell_at (heap_alloc_new w2 _) 1)
  have HB := Lib.hid ((HB.out.alloc HB.out.size _).trans (hb3.mono (by have := HB.out.size; simp; omega)))
  have hsz : w2.heap.size < w3.heap.size := by have := hb3.size; simp at this; omega
  clear hb3
  go_wp2_with fail
  go_ret
  exact ⟨rfl, HB.out.alloc HB.out.size _⟩
end Go.Proofs.Ytniejikbbmileaa
