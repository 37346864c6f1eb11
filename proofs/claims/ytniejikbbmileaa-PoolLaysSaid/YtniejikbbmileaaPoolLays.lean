/-
  PROVED: the law PoolLays returns true for every configuration. No condition.
-/
import Derived.Test.YtniejikbbmileaaPoolArgs
import Derived.Test.YtniejikbbmileaaPoolG
import Derived.Test.YtniejikbbmileaaPoolFixed
namespace Go.Proofs.Ytniejikbbmileaa.poolLays
open Go.ChangeShapes Go.WideShapes Go.ChangeAt Go.RowKit

set_option maxHeartbeats 1000000 in
theorem walk_all (d t : Int) (s : Nat → Int) (bk rm : Int) (kf bf : Nat) (w : World) :
    Calls Try.prog 3 #[.agg (confC d t s bk rm kf bf)] w fun e w' => e = .returned (.bool true) ∧ Below w.heap.size w w' := by
  have key : ∃ (B S : Nat → Int) (C T L e0 : Int),
      (∀ w, Calls Try.prog 9 #[.agg (confC d t s bk rm kf bf)] w fun e w' => e = .returned (.tuple #[.agg (planC B S C T L), .int .i64 e0]) ∧ Below w.heap.size w w') ∧
      (∀ w, Calls Try.prog 10 #[.agg (confC d t s bk rm kf bf)] w fun e w' => e = .returned (.tuple #[.agg (planC B S C T L), .int .i64 e0]) ∧ Below w.heap.size w w') := by
    by_cases h : OkConf d t s bk rm
    · exact ⟨_, _, _, _, _, _, fun w => lay_ok w d t s bk rm kf bf h, fun w => ref_lay_ok w d t s bk rm kf bf h⟩
    · exact ⟨_, _, _, _, _, _, fun w => lay_bad w d t s bk rm kf bf h, fun w => ref_lay_bad w d t s bk rm kf bf h⟩
  obtain ⟨B, S, C, T, L, e0, h1, h2⟩ := key
  have H1 := Lib.hid h1
  have H2 := Lib.hid h2
  have HE := Lib.hid (eq_plan B S C T L)
  clear h1 h2
  unfold confC
  go_enter Try.func3, Try.ntmps3
  go_wp2_with fail
  refine (H1.out _).mono ?_; rintro e w1 ⟨rfl, hb1⟩
  simp only [planC]
  have g0 := (hb1.block _ (by simp)).trans (heap_alloc_new w _)
  have HB := Lib.hid (below_one.trans (hb1.mono (by simp)))
  have G0 := Lib.hid ((Below.heap_alloc w1 (.cells (planC B S C T L) 28) _ (lt_of_heap g0)).trans g0)
  clear g0 hb1
  go_wp2_with (first
    | (refine wpList_load_row rfl 25 (.tmp 1) rfl w.heap.size rfl 25 _ (0, 0) _ G0.out Try.underlying25 rfl (by kernel_rfl) ?_)
    | fail)
  refine (H2.out _).mono ?_; rintro e w2 ⟨rfl, hb2⟩
  simp only [planC]
  have g1 : w2.heap[w1.heap.size]? = some (.cells (planC B S C T L) 28 (0, 0)) := (hb2.block _ (by simp)).trans (heap_alloc_new w1 _)
  have HB := Lib.hid ((HB.out.alloc HB.out.size _).trans (hb2.mono (by have := HB.out.size; simp; omega)))
  have hsz : w1.heap.size < w2.heap.size := lt_of_heap g1
  obtain ⟨q, hq⟩ : ∃ q, q = w1.heap.size := ⟨_, rfl⟩
  rw [← hq] at g1 hsz ⊢
  have G1 := Lib.hid ((Below.heap_alloc w2 (.cells (planC B S C T L) 28) _ hsz).trans g1)
  clear G0 g1 hb2 hq
  go_wp2_with fail
  refine (fixed_any _).mono ?_; rintro e w3 ⟨rfl, hb3⟩
  have g1 : w3.heap[q]? = some (.cells (planC B S C T L) 28 (0, 0)) := (hb3.block _ (by simp; omega)).trans G1.out
  have g2 : w3.heap[w2.heap.size]? = some (.cells (planC B S C T L) 28 (0, 0)) := (hb3.block _ (by simp)).trans (heap_alloc_new w2 _)
  have HB := Lib.hid ((HB.out.alloc HB.out.size _).trans (hb3.mono (by have := HB.out.size; simp; omega)))
  have G1 := Lib.hid g1
  have G2 := Lib.hid g2
  have he := HE.out
  clear g1 g2 hb3
  go_wp2_with (first
    | (refine wpList_load_row_g rfl 28 (.tmp 3) rfl q rfl 28 (planC B S C T L) (0, 0) _ G1.out Try.underlying28 rfl (planC_info _ _ _ _ _) ?_)
    | (refine wpList_load_row_g rfl 28 (.tmp 5) rfl w2.heap.size rfl 28 (planC B S C T L) (0, 0) _ G2.out Try.underlying28 rfl (planC_info _ _ _ _ _) ?_)
    | fail)
  go_ret
  exact ⟨rfl, HB.out⟩

set_option linter.unusedVariables false in
theorem walk {H : Type} {enc : TypeId × Value → H} (W : World) (args : Array Value) (ds : List (DataW H)) (hin : ArgsIn enc Try.prog Try.f3.params.toList W args ds) :
    Calls Try.prog 3 args W fun e W' => e = .returned (.bool true) ∧ Below W.heap.size W W' := by
  obtain ⟨⟨p, hA, hlt⟩, ⟨base, hval⟩, hsz⟩ := hin
  rw [Try.params3] at hA hval hsz
  obtain ⟨v0, vs0, d0, ds0, p0, q0, hargs, rfl, rfl, h0, r0⟩ := trodAll_cons hA
  obtain ⟨rfl, rfl, rfl⟩ := trodAll_nil r0
  obtain rfl : args = #[v0] := by cases args; simp_all
  obtain ⟨d,t,s,bk,rm,kf,bf,rfl,hs⟩ := open_conf (hval 0 25 v0 rfl rfl) h0
  exact walk_all d t s bk rm kf bf W

set_option maxRecDepth 100000 in
theorem proved : Rows.PoolLaysSaid :=
  OpenClaim.holds_of_wide 3 Try.f3 rfl rfl rfl rfl rfl rfl rfl ⟨rfl, rfl, rfl, rfl, rfl⟩ rfl rfl rfl rfl rfl (by kernel_rfl) Try.func3 (by kernel_rfl)
    (of_decide_eq_true (by kernel_rfl)) (by unfold Func.isWrapper; first | (rw [if_pos (by decide +kernel)]; kernel_rfl) | (rw [if_neg (by decide +kernel)]; exact ⟨rfl, rfl⟩))
    (fun os started H enc _ => law_lifted (s := Rows.poolLaysSpec) own started (by kernel_rfl) Try.func3 laidOut (by kernel_rfl) (by kernel_rfl) Try.underlying4 rfl
      (ChangeSpec.witness6 (enc := enc) (C := Try.checked) false ⟨#[], #[.agg #[.int .i64 0, .int .i64 0, .int .i64 0, .int .i64 0, .int .i64 0, .int .i64 0, .int .i64 0, .int .i64 0, .float .f64 0, .float .f64 0]], []⟩ 8 (by kernel_rfl) (by kernel_rfl) (by kernel_rfl) (by kernel_rfl))
      (fun ds h => match ds, h with | [_], _ => rfl) walk)
#print axioms proved
end Go.Proofs.Ytniejikbbmileaa.poolLays
