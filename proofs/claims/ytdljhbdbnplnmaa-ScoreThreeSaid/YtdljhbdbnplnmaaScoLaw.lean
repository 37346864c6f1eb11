/-
  The five laws of the numbers' order, as walked. Over the program's own text.
-/
import Derived.Test.YtdljhbdbnplnmaaScoFix
namespace Go.Proofs.Ytdljhbdbnplnmaa
open Go.RowKit

set_option maxRecDepth 100000 in
set_option maxHeartbeats 2000000 in
theorem rare19 (w : World) (n m : Int) : Calls Try.prog 3 #[.int .i64 n, .int .i64 m] w fun e w' => e = .returned (.bool true) ∧ Below w.heap.size w w' := by
  have H0 := Lib.hid fixed19
  have H1 := Lib.hid (rare_any n m)
  have H2 := Lib.hid (ref_rare19 n m)
  go_enter Try.func3, Try.ntmps3
  go_wp2_with fail
  refine (H0.out _).mono ?_; rintro e w1 ⟨rfl, hb⟩
  have HB1 := Lib.hid hb; clear hb
  go_wp2_with fail
  refine (H1.out _).mono ?_; rintro e w2 ⟨r, rfl, hr, hb⟩
  have HB2 := Lib.hid (low_more HB1.out hb); clear hb
  have HR := Lib.hid hr; clear hr
  go_wp2_with fail
  refine (bits_any r HR.out.1 (bitsZ r) rfl _).mono ?_; rintro e w3 ⟨rfl, hw⟩; subst hw
  go_wp2_with fail
  refine (H2.out _).mono ?_; rintro e w4 ⟨r', rfl, hr, hb⟩
  have HB3 := Lib.hid (low_more HB2.out hb); clear hb
  have HR' := Lib.hid hr; clear hr
  go_wp2_with fail
  refine (ref_bits19 r' HR'.out.1 (bitsZ r) (HR'.out.bits HR.out) _).mono ?_; rintro e w5 ⟨rfl, hw⟩; subst hw
  go_wp2_with fail
  go_ret
  exact ⟨rfl, HB3.out⟩

set_option maxRecDepth 100000 in
set_option maxHeartbeats 2000000 in
theorem worth19 (w : World) (k b : Nat) (t l : Int) (a : Nat) (hk : k < 18446744073709551616) (hb : b < 18446744073709551616) (ha : a < 18446744073709551616) : Calls Try.prog 4 #[.float .f64 k, .float .f64 b, .int .i64 t, .int .i64 l, .float .f64 a] w fun e w' => e = .returned (.bool true) ∧ Below w.heap.size w w' := by
  have H0 := Lib.hid fixed19
  have H1 := Lib.hid (worth_any k b t l a hk hb ha)
  have H2 := Lib.hid (ref_worth19 k b t l a hk hb ha)
  go_enter Try.func4, Try.ntmps4
  go_wp2_with fail
  refine (H0.out _).mono ?_; rintro e w1 ⟨rfl, hb⟩
  have HB1 := Lib.hid hb; clear hb
  go_wp2_with fail
  refine (H1.out _).mono ?_; rintro e w2 ⟨r, rfl, hr, hb⟩
  have HB2 := Lib.hid (low_more HB1.out hb); clear hb
  have HR := Lib.hid hr; clear hr
  go_wp2_with fail
  refine (bits_any r HR.out.1 (bitsZ r) rfl _).mono ?_; rintro e w3 ⟨rfl, hw⟩; subst hw
  go_wp2_with fail
  refine (H2.out _).mono ?_; rintro e w4 ⟨r', rfl, hr, hb⟩
  have HB3 := Lib.hid (low_more HB2.out hb); clear hb
  have HR' := Lib.hid hr; clear hr
  go_wp2_with fail
  refine (ref_bits19 r' HR'.out.1 (bitsZ r) (HR'.out.bits HR.out) _).mono ?_; rintro e w5 ⟨rfl, hw⟩; subst hw
  go_wp2_with fail
  go_ret
  exact ⟨rfl, HB3.out⟩

set_option maxRecDepth 100000 in
set_option maxHeartbeats 2000000 in
theorem orders19 (w : World) (x y : Nat) (hx : x < 18446744073709551616) (hy : y < 18446744073709551616) : Calls Try.prog 5 #[.float .f64 x, .float .f64 y] w fun e w' => e = .returned (.bool true) ∧ Below w.heap.size w w' := by
  generalize ho : ordZ x y = o
  generalize hbx : bitsZ x = bx
  generalize hby : bitsZ y = by'
  generalize hs : decide (bx = by') = s
  have hs' : ((bx : Int) == (by' : Int)) = s := by rw [← hs, Bool.eq_iff_iff, beq_iff_eq, decide_eq_true_eq]; omega
  have H0 := Lib.hid fixed19
  have H1 := Lib.hid (order_any x y hx hy o ho)
  have H2 := Lib.hid (ref_order19 x y hx hy o ho)
  have H3 := Lib.hid (bits_any x hx bx hbx)
  have H4 := Lib.hid (ref_bits19 x hx bx hbx)
  have H5 := Lib.hid (ref_bits19 y hy by' hby)
  have H6 := Lib.hid (same_any x y hx hy s (by rw [hbx, hby]; exact hs))
  clear ho hbx hby hs
  go_enter Try.func5, Try.ntmps5
  go_wp2_with fail
  refine (H0.out _).mono ?_; rintro e w1 ⟨rfl, hb⟩
  have HB1 := Lib.hid hb; clear hb
  go_wp2_with fail
  refine (H1.out _).mono ?_; rintro e w3 ⟨rfl, hw⟩; subst hw
  go_wp2_with fail
  refine (H2.out _).mono ?_; rintro e w3 ⟨rfl, hw⟩; subst hw
  go_wp2_with fail
  refine (H3.out _).mono ?_; rintro e w3 ⟨rfl, hw⟩; subst hw
  go_wp2_with fail
  refine (H4.out _).mono ?_; rintro e w3 ⟨rfl, hw⟩; subst hw
  go_wp2_with fail
  refine (H6.out _).mono ?_; rintro e w3 ⟨rfl, hw⟩; subst hw
  go_wp2_with fail
  refine (H4.out _).mono ?_; rintro e w3 ⟨rfl, hw⟩; subst hw
  go_wp2_with fail
  refine (H5.out _).mono ?_; rintro e w3 ⟨rfl, hw⟩; subst hw
  go_wp2_with fail
  go_ret
  exact ⟨rfl, HB1.out⟩

theorem keyZ_zero {x : Nat} (hx : x < 18446744073709551616) : keyZ x = 0 ↔ x = 0 ∨ x = 9223372036854775808 := by
  unfold keyZ
  split <;> omega
theorem zero_z {x : Nat} (hx : x < 18446744073709551616) : (FloatKind.f64.format.order x 0 == some .eq) = decide (x = 0 ∨ x = 9223372036854775808) := by
  show (Ieee.double.order x 0 == some .eq) = _
  rw [eql_z hx (by decide), Bool.eq_iff_iff, decide_eq_true_eq, decide_eq_true_eq, show keyZ 0 = 0 from rfl, keyZ_zero hx]
  exact ⟨fun h => h.2.2, fun h => ⟨by unfold NaN; omega, by decide, h⟩⟩
theorem placeZ_num {x : Nat} (hx : x < 18446744073709551616) (n : ¬ NaN x) : placeZ x = 9223372036854775809 + keyZ x ∧ -9218868437227405312 ≤ keyZ x ∧ keyZ x ≤ 9218868437227405312 := by
  unfold placeZ
  rw [if_neg n]
  unfold NaN at n
  unfold keyZ
  refine ⟨by omega, ?_, ?_⟩ <;> split <;> omega
/-- At one place stand just the zeros, what is none, and what is the same. -/
theorem place_same {x y : Nat} (hx : x < 18446744073709551616) (hy : y < 18446744073709551616) : placeZ x = placeZ y ↔ (bitsZ x = bitsZ y ∨ ((x = 0 ∨ x = 9223372036854775808) ∧ (y = 0 ∨ y = 9223372036854775808))) := by
  by_cases nx : NaN x
  · by_cases ny : NaN y
    · unfold placeZ bitsZ
      rw [if_pos nx, if_pos ny, if_pos nx, if_pos ny]
      simp
    · have h := placeZ_num hy ny
      have hp : placeZ x = 0 := if_pos nx
      have hb : bitsZ x = 9221120237041090561 := if_pos nx
      have hc : bitsZ y = y := if_neg ny
      rw [hp, hb, hc]
      unfold NaN at nx ny
      omega
  · by_cases ny : NaN y
    · have h := placeZ_num hx nx
      have hp : placeZ y = 0 := if_pos ny
      have hb : bitsZ y = 9221120237041090561 := if_pos ny
      have hc : bitsZ x = x := if_neg nx
      rw [hp, hb, hc]
      unfold NaN at nx ny
      omega
    · have h := placeZ_num hx nx
      have k := placeZ_num hy ny
      have hb : bitsZ y = y := if_neg ny
      have hc : bitsZ x = x := if_neg nx
      rw [hb, hc, h.1, k.1]
      clear h k hb hc
      unfold NaN at nx ny
      unfold keyZ
      split <;> split <;> omega
theorem ordZ_self (x : Nat) : ordZ x x = 0 := by
  unfold ordZ
  rw [if_neg (by omega), if_neg (by omega)]
theorem ordZ_zero (x y : Nat) : ordZ x y = 0 ↔ placeZ x = placeZ y := by
  unfold ordZ
  split
  · omega
  · split <;> omega
theorem ordZ_three (x y : Nat) : ordZ x y = -1 ∧ placeZ x < placeZ y ∨ ordZ x y = 0 ∧ placeZ x = placeZ y ∨ ordZ x y = 1 ∧ placeZ y < placeZ x := by
  unfold ordZ
  split
  · omega
  · split <;> omega
theorem ordZ_turn (x y : Nat) : ordZ x y = -ordZ y x := by
  have h1 := ordZ_three x y
  have h2 := ordZ_three y x
  omega

set_option maxRecDepth 100000 in
set_option maxHeartbeats 2000000 in
theorem turned19 (w : World) (x y : Nat) (hx : x < 18446744073709551616) (hy : y < 18446744073709551616) : Calls Try.prog 6 #[.float .f64 x, .float .f64 y] w fun e w' => e = .returned (.bool true) ∧ Below w.heap.size w w' := by
  have hz := ordZ_zero x y
  have hp := place_same hx hy
  have ht := ordZ_turn x y
  generalize hpx : decide (x = 0 ∨ x = 9223372036854775808) = px at *
  generalize hpy : decide (y = 0 ∨ y = 9223372036854775808) = py at *
  generalize hs : decide (bitsZ x = bitsZ y) = s at *
  have ex : (FloatKind.f64.format.order x 0 == some .eq) = px := (zero_z hx).trans hpx
  have ey : (FloatKind.f64.format.order y 0 == some .eq) = py := (zero_z hy).trans hpy
  generalize ho : ordZ x y = o at *
  have H0 := Lib.hid fixed19
  have H1 := Lib.hid (order_any x y hx hy o ho)
  obtain ⟨o2, h2o⟩ : ∃ o2, o2 = -o := ⟨_, rfl⟩
  have H2 := Lib.hid (order_any y x hy hx o2 (by omega))
  have H3 := Lib.hid (same_any x y hx hy s hs)
  have H4 := Lib.hid (order_any x x hx hx 0 (ordZ_self x))
  have hob : (o = -1 ∧ o2 = 1) ∨ (o = 0 ∧ o2 = 0) ∨ (o = 1 ∧ o2 = -1) := by
    have := ordZ_three x y
    omega
  have hall : (o = 0) ↔ (s = true ∨ (px = true ∧ py = true)) := by
    rw [hz, hp, ← hs, ← hpx, ← hpy]
    simp
  clear hz hp ht hpx hpy hs ho hx hy h2o
  rcases hob with ⟨rfl, rfl⟩ | ⟨rfl, rfl⟩ | ⟨rfl, rfl⟩ <;> cases s <;> cases px <;> cases py <;> first | (exfalso; revert hall; decide) | skip
  all_goals
    clear hall
    go_enter Try.func6, Try.ntmps6
    go_wp2_with fail
    refine (H1.out _).mono ?_; rintro e w3 ⟨rfl, hw⟩; subst hw
    go_wp2_with fail
    refine (H0.out _).mono ?_; rintro e w1 ⟨rfl, hb⟩
    have HB1 := Lib.hid hb; clear hb
    go_wp2_with fail
    refine (H2.out _).mono ?_; rintro e w3 ⟨rfl, hw⟩; subst hw
    go_wp2_with fail
    refine (H3.out _).mono ?_; rintro e w3 ⟨rfl, hw⟩; subst hw
    go_wp2_with fail
    refine (H4.out _).mono ?_; rintro e w3 ⟨rfl, hw⟩; subst hw
    go_wp2_with fail
    go_ret
    exact ⟨rfl, HB1.out⟩

set_option maxRecDepth 100000 in
set_option maxHeartbeats 2000000 in
theorem three19 (w : World) (x y z : Nat) (hx : x < 18446744073709551616) (hy : y < 18446744073709551616) (hz : z < 18446744073709551616) : Calls Try.prog 7 #[.float .f64 x, .float .f64 y, .float .f64 z] w fun e w' => e = .returned (.bool true) ∧ Below w.heap.size w w' := by
  have p1 := ordZ_three x y
  have p2 := ordZ_three y z
  have p3 := ordZ_three x z
  generalize ha : ordZ x y = a at *
  generalize hb : ordZ y z = b at *
  generalize hc : ordZ x z = c at *
  have H0 := Lib.hid fixed19
  have H1 := Lib.hid (order_any x y hx hy a ha)
  have H2 := Lib.hid (order_any y z hy hz b hb)
  have H3 := Lib.hid (order_any x z hx hz c hc)
  have hall : (a = 1 ∨ ((a = -1 ∨ a = 0) ∧ b = 1)) ∨ (a = -1 ∧ b = -1 ∧ c = -1) ∨ (a = -1 ∧ b = 0 ∧ c = -1) ∨ (a = 0 ∧ b = -1 ∧ c = -1) ∨ (a = 0 ∧ b = 0 ∧ c = 0) := by omega
  clear p1 p2 p3 ha hb hc hx hy hz
  rcases hall with (rfl | ⟨rfl | rfl, rfl⟩) | ⟨rfl, rfl, rfl⟩ | ⟨rfl, rfl, rfl⟩ | ⟨rfl, rfl, rfl⟩ | ⟨rfl, rfl, rfl⟩
  all_goals
    go_enter Try.func7, Try.ntmps7
    go_wp2_with fail
    refine (H1.out _).mono ?_; rintro e w3 ⟨rfl, hw⟩; subst hw
    go_wp2_with fail
    refine (H2.out _).mono ?_; rintro e w3 ⟨rfl, hw⟩; subst hw
    go_wp2_with fail
    refine (H3.out _).mono ?_; rintro e w3 ⟨rfl, hw⟩; subst hw
    go_wp2_with fail
    refine (H0.out _).mono ?_; rintro e w1 ⟨rfl, hb⟩
    have HB1 := Lib.hid hb; clear hb
    go_wp2_with fail
    go_ret
    exact ⟨rfl, HB1.out⟩
theorem wf_lt {x : Nat} (h : (Lit.float .f64 x).wf = true) : x < 18446744073709551616 := by simpa [Lit.wf] using h
end Go.Proofs.Ytdljhbdbnplnmaa
