/-
  The chapter's examples, and the five laws' own walks. Over the program's own text.
-/
import Derived.Test.YtdljhbdbnplnmaaScoRare
namespace Go.Proofs.Ytdljhbdbnplnmaa
open Go.RowKit

theorem nan_any (w : World) : Calls Try.prog 18 #[] w fun e w' => e = .returned (.float .f64 9221120237041090561) ∧ w' = w := by
  go_enter Try.func18, Try.ntmps18
  go_wp2_with fail
  rw [raw_from]
  rw [Oper.upon_value]
  go_wp2_with fail
  go_ret
  exact ⟨rfl, rfl⟩
theorem inf_any (w : World) : Calls Try.prog 19 #[.int .i64 (-1)] w fun e w' => e = .returned (.float .f64 18442240474082181120) ∧ w' = w := by
  go_enter Try.func19, Try.ntmps19
  go_wp2_with fail
  rw [raw_from]
  rw [Oper.upon_value]
  go_wp2_with fail
  go_ret
  exact ⟨rfl, rfl⟩
theorem sign_any (w : World) : Calls Try.prog 20 #[.float .f64 0, .float .f64 13830554455654793216] w fun e w' => e = .returned (.float .f64 9223372036854775808) ∧ w' = w := by
  go_enter Try.func20, Try.ntmps20
  go_wp2_with fail
  rw [raw_bits]
  rw [Oper.upon_value]
  go_wp2_with fail
  rw [raw_bits]
  rw [Oper.upon_value]
  go_wp2_with fail
  rw [raw_from]
  rw [Oper.upon_value]
  go_wp2_with fail
  go_ret
  exact ⟨rfl, rfl⟩

theorem rare_of (n m : Int) (z : Nat) (hz : rareO n m = some z) (w : World) : Calls Try.prog 10 #[.int .i64 n, .int .i64 m] w fun e w' => e = .returned (.float .f64 z) ∧ Below w.heap.size w w' := by
  refine (rare_any n m w).mono ?_; rintro e w' ⟨r, rfl, hr, hb⟩
  rw [hz] at hr
  exact ⟨by rw [hr.is], hb⟩
theorem worth_of (k b : Nat) (t l : Int) (a : Nat) (hk : k < 18446744073709551616) (hb : b < 18446744073709551616) (ha : a < 18446744073709551616) (z : Nat) (hz : worthO k b t l a = some z) (w : World) : Calls Try.prog 13 #[.float .f64 k, .float .f64 b, .int .i64 t, .int .i64 l, .float .f64 a] w fun e w' => e = .returned (.float .f64 z) ∧ Below w.heap.size w w' := by
  refine (worth_any k b t l a hk hb ha w).mono ?_; rintro e w' ⟨r, rfl, hr, hb⟩
  rw [hz] at hr
  exact ⟨by rw [hr.is], hb⟩
theorem float_eq (z : Nat) (hz : z < 18446744073709551616) (n : ¬ NaN z) : (FloatKind.f64.format.order z z == some .eq) = true := self_eq hz n

set_option maxRecDepth 100000 in
set_option maxHeartbeats 2000000 in
theorem fixed19 (w : World) : Calls Try.prog 8 #[] w fun e w' => e = .returned (.bool true) ∧ Below w.heap.size w w' := by
  have H1 := Lib.hid (rare_of 10 0 4626604192193052672 (by decide +kernel))
  have H2 := Lib.hid (worth_of 4607182418800017408 0 1 5 4617315517961601024 (by decide) (by decide) (by decide) 4607182418800017408 (by decide +kernel))
  have H3 := Lib.hid nan_any
  have H4 := Lib.hid inf_any
  have H5 := Lib.hid (order_any 9221120237041090561 18442240474082181120 (by decide) (by decide) (-1) (by decide))
  have H6 := Lib.hid sign_any
  have H7 := Lib.hid (order_any 0 9223372036854775808 (by decide) (by decide) 0 (by decide))
  have H8 := Lib.hid (same_any 0 9223372036854775808 (by decide) (by decide) false (by decide))
  have H9 := Lib.hid (bits_any 4607182418800017408 (by decide) 4607182418800017408 (by decide))
  have h1 := float_eq 4626604192193052672 (by decide) (by decide)
  have h2 := float_eq 4607182418800017408 (by decide) (by decide)
  go_enter Try.func8, Try.ntmps8
  go_wp2_with fail
  refine (H1.out _).mono ?_; rintro e w1 ⟨rfl, hb1⟩
  have HB1 := Lib.hid hb1; clear hb1
  go_wp2_with fail
  refine (H2.out _).mono ?_; rintro e w2 ⟨rfl, hb2⟩
  have HB2 := Lib.hid (low_more HB1.out hb2); clear hb2
  go_wp2_with fail
  refine (H3.out _).mono ?_; rintro e w3 ⟨rfl, hw⟩; subst hw
  go_wp2_with fail
  refine (H4.out _).mono ?_; rintro e w3 ⟨rfl, hw⟩; subst hw
  go_wp2_with fail
  refine (H5.out _).mono ?_; rintro e w3 ⟨rfl, hw⟩; subst hw
  go_wp2_with fail
  refine (H6.out _).mono ?_; rintro e w3 ⟨rfl, hw⟩; subst hw
  go_wp2_with fail
  refine (H7.out _).mono ?_; rintro e w3 ⟨rfl, hw⟩; subst hw
  go_wp2_with fail
  refine (H6.out _).mono ?_; rintro e w3 ⟨rfl, hw⟩; subst hw
  go_wp2_with fail
  refine (H8.out _).mono ?_; rintro e w3 ⟨rfl, hw⟩; subst hw
  go_wp2_with fail
  refine (H9.out _).mono ?_; rintro e w3 ⟨rfl, hw⟩; subst hw
  go_wp2_with fail
  go_ret
  exact ⟨rfl, HB2.out⟩
end Go.Proofs.Ytdljhbdbnplnmaa
