/-
  A row of six, and a plan, held against themselves.
-/
import Derived.Test.YtiabmbkmahlhkaaPoolD
import Derived.Laws.StructEq
namespace Go.Proofs.Ytiabmbkmahlhkaa
open Go.RowKit

theorem eq_six (U : Nat → Int) (d : Nat) (w : World) : (Op.equalIn (d + 2) 27 (.agg (six U)) (.agg (six U))).run Try.prog w = .ok true w := by
  have u3 := Try.underlying3
  have a3 := Try.isAgg3
  have z3 := Try.sizeOf3
  unfold six
  rw [show d + 2 = (d + 1) + 1 from rfl, Op.equalIn]
  simp only [Sem.run_bind, run_underlying Try.underlying27, Result.andThen_ok]
  simp only [Std.Legacy.Range.forIn_eq_forIn_range', Std.Legacy.Range.size, Nat.sub_zero, Nat.add_sub_cancel, Nat.div_one, List.range'_succ, List.range'_zero, List.forIn_cons, List.forIn_nil]
  go_simp
theorem eq_plan (B S : Nat → Int) (C T L : Int) (w : World) : (Op.equalIn 10000 29 (.agg (planC B S C T L)) (.agg (planC B S C T L))).run Try.prog w = .ok true w := by
  have u3 := Try.underlying3
  have a3 := Try.isAgg3
  have z3 := Try.sizeOf3
  have a6 := Try.isAgg27
  have z6 := Try.sizeOf27
  have hS : Try.prog.underlying 29 = some (.struct (Try.prog.fieldsOf 29)) := by kernel_rfl
  have h1 : ∀ w, (Op.equalIn 9999 27 (.agg #[.int .i64 (B 0), .int .i64 (B 1), .int .i64 (B 2), .int .i64 (B 3), .int .i64 (B 4), .int .i64 (B 5)]) (.agg #[.int .i64 (B 0), .int .i64 (B 1), .int .i64 (B 2), .int .i64 (B 3), .int .i64 (B 4), .int .i64 (B 5)])).run Try.prog w = .ok true w := eq_six B 9997
  have h2 : ∀ w, (Op.equalIn 9999 27 (.agg #[.int .i64 (S 0), .int .i64 (S 1), .int .i64 (S 2), .int .i64 (S 3), .int .i64 (S 4), .int .i64 (S 5)]) (.agg #[.int .i64 (S 0), .int .i64 (S 1), .int .i64 (S 2), .int .i64 (S 3), .int .i64 (S 4), .int .i64 (S 5)])).run Try.prog w = .ok true w := eq_six S 9997
  unfold planC
  rw [show (10000 : Nat) = 9999 + 1 from rfl, run_equalIn_agg w 9999 29 _ _ hS (by kernel_rfl)]
  simp only [Program.fieldsOf, Try.underlying29]
  go_simp
end Go.Proofs.Ytiabmbkmahlhkaa
