/-
  The small functions on numbers' bits, as walked: what is no number, order, place, bits; the program's and the reference's. An operation that may draw its answer. Over the program's own text.
-/
import Derived.Test.YtdljhbdbnplnmaaScoPure
import Derived.WalkLawsBesides
import Derived.Laws.Externs
namespace Go.Proofs.Ytdljhbdbnplnmaa
open Go.RowKit

theorem low_drew (w : World) : Below w.heap.size w w.drew := ⟨rfl, rfl, rfl, Nat.le_refl _, fun _ _ => rfl⟩
theorem cut_nan {a b : Nat} (t : Nat) : (Question.nanBits .f64 a b).cut t < 18446744073709551616 ∧ NaN ((Question.nanBits .f64 a b).cut t) := by
  have e : (Question.nanBits .f64 a b).cut t = (t % 2) * 9223372036854775808 + 9218868437227405312 + 1 + (t / 2) % 4503599627370495 := rfl
  rw [e]
  unfold NaN
  have h1 := Nat.mod_lt t (show 0 < 2 by decide)
  have h2 := Nat.mod_lt (t / 2) (show 0 < 4503599627370495 by decide)
  generalize t % 2 = u at *
  generalize t / 2 % 4503599627370495 = v at *
  have : u = 0 ∨ u = 1 := by omega
  rcases this with rfl | rfl <;> omega
/-- An operation on two numbers: an answer, and the world behind it, in which nothing that was there has turned. -/
theorem float_any {P : Program} (op : BinOp) (hop : op = .add ∨ op = .sub ∨ op = .mul ∨ op = .quo) (t : TypeId) (a b : Nat) (w : World) :
    ∃ r w', (binOp op t (.float .f64 a) (.float .f64 b)).run P w = .ok (.float .f64 r) w' ∧ FR (floatBits op .f64 a b) r ∧ Below w.heap.size w w' := by
  cases ho : floatBits op .f64 a b with
  | some r =>
    refine ⟨r, w, run_float_arith w op t .f64 a b r ho, ⟨?_, .inl rfl⟩, Below.refl _ _⟩
    have := floatBits_wf ho
    simpa [Lit.wf] using this
  | none =>
    refine ⟨(Question.nanBits .f64 a b).cut (w.tape w.drawn (.nanBits .f64 a b)), w.drew, ?_, ⟨?_, .inr ⟨rfl, ?_⟩⟩, low_drew w⟩
    · unfold floatBits at ho
      rcases hop with rfl | rfl | rfl | rfl <;> simp only at ho <;> simp [binOp, Op.floatArith, ho, Question.forced]
    · exact (cut_nan _).1
    · exact (cut_nan _).2

theorem bool_if (p : Prop) [Decidable p] : (if p then true else false) = decide p := by by_cases h : p <;> simp [h]

theorem isnan_any (x : Nat) (hx : x < 18446744073709551616) (b : Bool) (hb : decide (NaN x) = b) (w : World) : Calls Try.prog 21 #[.float .f64 x] w fun e w' => e = .returned (.bool b) ∧ w' = w := by
  have h : (FloatKind.f64.format.order x x != some .eq) = b := (self_z hx).trans hb
  go_enter Try.func21, Try.ntmps21
  go_wp2_with fail
  go_ret
  exact ⟨rfl, rfl⟩

theorem raw_bits (x : Nat) (w : World) : (callFunc 22 #[.float .f64 x]).run Try.prog w = .ok (.value (.int .u64 (x : Nat))) w := by
  rw [run_callFunc_extern Try.func22 (by kernel_rfl) (by kernel_rfl) (by kernel_rfl) (e := Extern.MathFloatBits.float64bits) (by kernel_rfl)]
  rfl
theorem raw_from (x : Int) (w : World) : (callFunc 25 #[.int .u64 x]).run Try.prog w = .ok (.value (.float .f64 x.toNat)) w := by
  rw [run_callFunc_extern Try.func25 (by kernel_rfl) (by kernel_rfl) (by kernel_rfl) (e := Extern.MathFloatBits.float64frombits) (by kernel_rfl)]
  rfl

theorem bits_any (x : Nat) (hx : x < 18446744073709551616) (z : Nat) (hz : bitsZ x = z) (w : World) : Calls Try.prog 9 #[.float .f64 x] w fun e w' => e = .returned (.int .u64 (z : Nat)) ∧ w' = w := by
  unfold bitsZ at hz
  by_cases h : NaN x
  · rw [if_pos h] at hz
    subst hz
    have H := Lib.hid (isnan_any x hx true (by simpa using h))
    go_enter Try.func9, Try.ntmps9
    go_wp2_with fail
    refine (H.out _).mono ?_; rintro e w1 ⟨rfl, rfl⟩
    go_wp2_with fail
    go_ret
    exact ⟨rfl, rfl⟩
  · rw [if_neg h] at hz
    subst hz
    have H := Lib.hid (isnan_any x hx false (by simpa using h))
    go_enter Try.func9, Try.ntmps9
    go_wp2_with fail
    refine (H.out _).mono ?_; rintro e w1 ⟨rfl, rfl⟩
    go_wp2_with fail
    rw [raw_bits]
    rw [Oper.upon_value]
    go_wp2_with fail
    go_ret
    exact ⟨rfl, rfl⟩

theorem same_any (x y : Nat) (hx : x < 18446744073709551616) (hy : y < 18446744073709551616) (b : Bool) (hb : decide (bitsZ x = bitsZ y) = b) (w : World) : Calls Try.prog 17 #[.float .f64 x, .float .f64 y] w fun e w' => e = .returned (.bool b) ∧ w' = w := by
  generalize hzx : bitsZ x = zx at hb
  generalize hzy : bitsZ y = zy at hb
  have H1 := Lib.hid (bits_any x hx zx hzx)
  have H2 := Lib.hid (bits_any y hy zy hzy)
  have hb' : ((zx : Int) == (zy : Int)) = b := by rw [← hb, Bool.eq_iff_iff, beq_iff_eq, decide_eq_true_eq]; omega
  go_enter Try.func17, Try.ntmps17
  go_wp2_with fail
  refine (H1.out _).mono ?_; rintro e w1 ⟨rfl, rfl⟩
  go_wp2_with fail
  refine (H2.out _).mono ?_; rintro e w2 ⟨rfl, rfl⟩
  go_wp2_with fail
  go_ret
  exact ⟨rfl, rfl⟩

theorem ahead_any (x y : Nat) (hx : x < 18446744073709551616) (hy : y < 18446744073709551616) (b : Bool) (hb : decide (placeZ x < placeZ y) = b) (w : World) : Calls Try.prog 23 #[.float .f64 x, .float .f64 y] w fun e w' => e = .returned (.bool b) ∧ w' = w := by
  rw [← ahead_z hx hy] at hb
  generalize hl : decide (¬ NaN x ∧ ¬ NaN y ∧ keyZ x < keyZ y) = l
  generalize hnx : decide (NaN x) = nx
  generalize hny : decide (NaN y) = ny
  have h : (FloatKind.f64.format.order x y == some .lt) = l := (lss_z hx hy).trans hl
  have hb2 : (l || (nx && !ny)) = b := by rw [← hb, ← hl, ← hnx, ← hny, Bool.eq_iff_iff]; simp
  have H1 := Lib.hid (isnan_any x hx nx hnx)
  have H2 := Lib.hid (isnan_any y hy ny hny)
  clear hb hl hnx hny
  go_enter Try.func23, Try.ntmps23
  cases l
  · cases nx
    · simp only [Bool.false_and, Bool.or_false] at hb2
      subst hb2
      go_wp2_with fail
      refine (H1.out _).mono ?_; rintro e w1 ⟨rfl, rfl⟩
      go_wp2_with fail
      go_ret
      exact ⟨rfl, rfl⟩
    · simp only [Bool.true_and, Bool.false_or] at hb2
      go_wp2_with fail
      refine (H1.out _).mono ?_; rintro e w1 ⟨rfl, rfl⟩
      go_wp2_with fail
      refine (H2.out _).mono ?_; rintro e w2 ⟨rfl, rfl⟩
      go_wp2_with fail
      go_ret
      exact ⟨by rw [← hb2]; rfl, rfl⟩
  · simp only [Bool.true_or] at hb2
    subst hb2
    go_wp2_with fail
    go_ret
    exact ⟨rfl, rfl⟩

theorem order_any (x y : Nat) (hx : x < 18446744073709551616) (hy : y < 18446744073709551616) (z : Int) (hz : ordZ x y = z) (w : World) : Calls Try.prog 15 #[.float .f64 x, .float .f64 y] w fun e w' => e = .returned (.int .i64 z) ∧ w' = w := by
  unfold ordZ at hz
  by_cases h1 : placeZ x < placeZ y
  · rw [if_pos h1] at hz
    subst hz
    have H1 := Lib.hid (ahead_any x y hx hy true (by simpa using h1))
    go_enter Try.func15, Try.ntmps15
    go_wp2_with fail
    refine (H1.out _).mono ?_; rintro e w1 ⟨rfl, rfl⟩
    go_wp2_with fail
    go_ret
    exact ⟨rfl, rfl⟩
  · rw [if_neg h1] at hz
    have H1 := Lib.hid (ahead_any x y hx hy false (by simpa using h1))
    by_cases h2 : placeZ y < placeZ x
    · rw [if_pos h2] at hz
      subst hz
      have H2 := Lib.hid (ahead_any y x hy hx true (by simpa using h2))
      go_enter Try.func15, Try.ntmps15
      go_wp2_with fail
      refine (H1.out _).mono ?_; rintro e w1 ⟨rfl, rfl⟩
      go_wp2_with fail
      refine (H2.out _).mono ?_; rintro e w2 ⟨rfl, rfl⟩
      go_wp2_with fail
      go_ret
      exact ⟨rfl, rfl⟩
    · rw [if_neg h2] at hz
      subst hz
      have H2 := Lib.hid (ahead_any y x hy hx false (by simpa using h2))
      go_enter Try.func15, Try.ntmps15
      go_wp2_with fail
      refine (H1.out _).mono ?_; rintro e w1 ⟨rfl, rfl⟩
      go_wp2_with fail
      refine (H2.out _).mono ?_; rintro e w2 ⟨rfl, rfl⟩
      go_wp2_with fail
      go_ret
      exact ⟨rfl, rfl⟩

theorem ref_bits19 (x : Nat) (hx : x < 18446744073709551616) (z : Nat) (hz : bitsZ x = z) (w : World) : Calls Try.prog 11 #[.float .f64 x] w fun e w' => e = .returned (.int .u64 (z : Nat)) ∧ w' = w := by
  unfold bitsZ at hz
  by_cases h : NaN x
  · rw [if_pos h] at hz
    subst hz
    have h : (FloatKind.f64.format.order x x != some .eq) = true := (self_z hx).trans (by simpa using h)
    go_enter Try.func11, Try.ntmps11
    go_wp2_with fail
    go_ret
    exact ⟨rfl, rfl⟩
  · rw [if_neg h] at hz
    subst hz
    have h : (FloatKind.f64.format.order x x != some .eq) = false := (self_z hx).trans (by simpa using h)
    go_enter Try.func11, Try.ntmps11
    go_wp2_with fail
    rw [raw_bits]
    rw [Oper.upon_value]
    go_wp2_with fail
    go_ret
    exact ⟨rfl, rfl⟩

theorem ref_place19 (x : Nat) (hx : x < 18446744073709551616) (w : World) : Calls Try.prog 24 #[.float .f64 x] w fun e w' => e = .returned (.int .u64 (placeZ x)) ∧ w' = w := by
  by_cases n : NaN x
  · have h : (FloatKind.f64.format.order x x != some .eq) = true := (self_z hx).trans (by simpa using n)
    have hz : placeZ x = 0 := if_pos n
    rw [hz]
    go_enter Try.func24, Try.ntmps24
    go_wp2_with fail
    rw [raw_bits]
    rw [Oper.upon_value]
    go_wp2_with fail
    go_ret
    exact ⟨rfl, rfl⟩
  · have h : (FloatKind.f64.format.order x x != some .eq) = false := (self_z hx).trans (by simpa using n)
    have hz : placeZ x = 9223372036854775808 + keyZ x + 1 := if_neg n
    rw [hz]
    unfold keyZ
    unfold NaN at n
    obtain ⟨z, hzx⟩ : ∃ z : Int, z = (x : Int) := ⟨_, rfl⟩
    have R := Lib.hid (fun w : World => (hzx ▸ raw_bits x w : (callFunc 22 #[.float .f64 x]).run Try.prog w = .ok (.value (.int .u64 z)) w))
    have z0 : 0 ≤ z := by omega
    have z1 : z < 18446744073709551616 := by omega
    by_cases k : 9223372036854775808 ≤ x
    · rw [if_pos k, ← hzx]
      have k2 : z - 9223372036854775808 < 9218868437227405313 := by omega
      have k1 : 9223372036854775808 ≤ z := by omega
      clear hzx hz n hx k
      go_enter Try.func24, Try.ntmps24
      go_wp2_with fail
      rw [R.out]
      rw [Oper.upon_value]
      go_wp2_with fail
      go_ret
      refine ⟨?_, rfl⟩
      congr 2
    · rw [if_neg k, ← hzx]
      have k2 : z < 9218868437227405313 := by omega
      clear hzx hz n hx k
      go_enter Try.func24, Try.ntmps24
      go_wp2_with fail
      rw [R.out]
      rw [Oper.upon_value]
      go_wp2_with fail
      go_ret
      refine ⟨?_, rfl⟩
      congr 2

theorem ref_order19 (x y : Nat) (hx : x < 18446744073709551616) (hy : y < 18446744073709551616) (z : Int) (hz : ordZ x y = z) (w : World) : Calls Try.prog 16 #[.float .f64 x, .float .f64 y] w fun e w' => e = .returned (.int .i64 z) ∧ w' = w := by
  unfold ordZ at hz
  have H1 := Lib.hid (ref_place19 x hx)
  have H2 := Lib.hid (ref_place19 y hy)
  generalize placeZ x = a at *
  generalize placeZ y = b at *
  by_cases h1 : a < b
  · rw [if_pos h1] at hz
    subst hz
    have d1 : decide (a < b) = true := by simpa using h1
    go_enter Try.func16, Try.ntmps16
    go_wp2_with fail
    refine (H1.out _).mono ?_; rintro e w1 ⟨rfl, rfl⟩
    go_wp2_with fail
    refine (H2.out _).mono ?_; rintro e w2 ⟨rfl, rfl⟩
    go_wp2_with fail
    go_ret
    exact ⟨rfl, rfl⟩
  · rw [if_neg h1] at hz
    have d1 : decide (a < b) = false := by simpa using h1
    by_cases h2 : b < a
    · rw [if_pos h2] at hz
      subst hz
      have d2 : decide (b < a) = true := by simpa using h2
      go_enter Try.func16, Try.ntmps16
      go_wp2_with fail
      refine (H1.out _).mono ?_; rintro e w1 ⟨rfl, rfl⟩
      go_wp2_with fail
      refine (H2.out _).mono ?_; rintro e w2 ⟨rfl, rfl⟩
      go_wp2_with fail
      go_ret
      exact ⟨rfl, rfl⟩
    · rw [if_neg h2] at hz
      subst hz
      have d2 : decide (b < a) = false := by simpa using h2
      go_enter Try.func16, Try.ntmps16
      go_wp2_with fail
      refine (H1.out _).mono ?_; rintro e w1 ⟨rfl, rfl⟩
      go_wp2_with fail
      refine (H2.out _).mono ?_; rintro e w2 ⟨rfl, rfl⟩
      go_wp2_with fail
      go_ret
      exact ⟨rfl, rfl⟩
end Go.Proofs.Ytdljhbdbnplnmaa
