/-
  How rare something is, and what so many times are worth: the program's reckoning and the reference's come to the same operations. Over the program's own text.
-/
import Derived.Test.YtdljhbdbnplnmaaScoRef
namespace Go.Proofs.Ytdljhbdbnplnmaa
open Go.RowKit

def rareO (n m : Int) : Option Nat := op2 .quo (op2 .add (op2 .sub (some (floatOfInt .f64 n)) (some (floatOfInt .f64 m))) (some 4602678819172646912)) (op2 .add (some (floatOfInt .f64 m)) (some 4602678819172646912))
def worthO (k b : Nat) (t l : Int) (a : Nat) : Option Nat :=
  op2 .quo (op2 .mul (some (floatOfInt .f64 t)) (op2 .add (some k) (some 4607182418800017408)))
    (op2 .add (some (floatOfInt .f64 t)) (op2 .mul (some k) (op2 .add (op2 .sub (some 4607182418800017408) (some b)) (op2 .mul (some b) (op2 .quo (some (floatOfInt .f64 l)) (some a))))))
theorem ofInt_lt (n : Int) : floatOfInt .f64 n < 18446744073709551616 := by
  have := floatOfInt_wf .f64 n
  simpa [Lit.wf] using this
theorem low_more {a b c : World} (h : Below a.heap.size a b) (k : Below b.heap.size b c) : Below a.heap.size a c := h.trans (k.mono h.size)

set_option maxRecDepth 100000 in
set_option maxHeartbeats 2000000 in
theorem rare_any (n m : Int) (w0 : World) : Calls Try.prog 10 #[.int .i64 n, .int .i64 m] w0 fun e w' => ∃ r, e = .returned (.float .f64 r) ∧ FR (rareO n m) r ∧ Below w0.heap.size w0 w' := by
  obtain ⟨r1, w1, e1, h1, b1⟩ := float_any (P := Try.prog) .sub (by simp) 25 (floatOfInt .f64 n) (floatOfInt .f64 m) w0
  obtain ⟨r2, w2, e2, h2, b2⟩ := float_any (P := Try.prog) .add (by simp) 25 r1 4602678819172646912 w1
  obtain ⟨r3, w3, e3, h3, b3⟩ := float_any (P := Try.prog) .add (by simp) 25 (floatOfInt .f64 m) 4602678819172646912 w2
  obtain ⟨r4, w4, e4, h4, b4⟩ := float_any (P := Try.prog) .quo (by simp) 25 r2 r3 w3
  have g1 := FR.op2 (FR.arg (ofInt_lt n)) (FR.arg (ofInt_lt m)) h1
  have g2 := FR.op2 g1 (FR.arg (by decide)) h2
  have g3 := FR.op2 (FR.arg (ofInt_lt m)) (FR.arg (by decide)) h3
  have g4 := FR.op2 g2 g3 h4
  have HG := Lib.hid g4
  have HB := Lib.hid (low_more (low_more (low_more b1 b2) b3) b4)
  clear g4 g3 g2 g1 h1 h2 h3 h4 b1 b2 b3 b4
  go_enter Try.func10, Try.ntmps10
  go_wp2_with fail
  go_ret
  exact ⟨_, rfl, HG.out, HB.out⟩

set_option maxRecDepth 100000 in
set_option maxHeartbeats 2000000 in
theorem ref_rare19 (n m : Int) (w0 : World) : Calls Try.prog 12 #[.int .i64 n, .int .i64 m] w0 fun e w' => ∃ r, e = .returned (.float .f64 r) ∧ FR (rareO n m) r ∧ Below w0.heap.size w0 w' := by
  obtain ⟨r1, w1, e1, h1, b1⟩ := float_any (P := Try.prog) .sub (by simp) 25 (floatOfInt .f64 n) (floatOfInt .f64 m) w0
  obtain ⟨r2, w2, e2, h2, b2⟩ := float_any (P := Try.prog) .add (by simp) 25 r1 4602678819172646912 w1
  obtain ⟨r3, w3, e3, h3, b3⟩ := float_any (P := Try.prog) .add (by simp) 25 (floatOfInt .f64 m) 4602678819172646912 w2
  obtain ⟨r4, w4, e4, h4, b4⟩ := float_any (P := Try.prog) .quo (by simp) 25 r2 r3 w3
  have g1 := FR.op2 (FR.arg (ofInt_lt n)) (FR.arg (ofInt_lt m)) h1
  have g2 := FR.op2 g1 (FR.arg (by decide)) h2
  have g3 := FR.op2 (FR.arg (ofInt_lt m)) (FR.arg (by decide)) h3
  have g4 := FR.op2 g2 g3 h4
  have HG := Lib.hid g4
  have HB := Lib.hid (low_more (low_more (low_more b1 b2) b3) b4)
  clear g4 g3 g2 g1 h1 h2 h3 h4 b1 b2 b3 b4
  go_enter Try.func12, Try.ntmps12
  go_wp2_with fail
  go_ret
  exact ⟨_, rfl, HG.out, HB.out⟩

set_option maxRecDepth 100000 in
set_option maxHeartbeats 2000000 in
theorem worth_any (k b : Nat) (t l : Int) (a : Nat) (hk : k < 18446744073709551616) (hb : b < 18446744073709551616) (ha : a < 18446744073709551616) (w0 : World) : Calls Try.prog 13 #[.float .f64 k, .float .f64 b, .int .i64 t, .int .i64 l, .float .f64 a] w0 fun e w' => ∃ r, e = .returned (.float .f64 r) ∧ FR (worthO k b t l a) r ∧ Below w0.heap.size w0 w' := by
  obtain ⟨r1, w1, e1, h1, b1⟩ := float_any (P := Try.prog) .quo (by simp) 25 (floatOfInt .f64 l) a w0
  obtain ⟨r2, w2, e2, h2, b2⟩ := float_any (P := Try.prog) .mul (by simp) 25 b r1 w1
  obtain ⟨r3, w3, e3, h3, b3⟩ := float_any (P := Try.prog) .sub (by simp) 25 4607182418800017408 b w2
  obtain ⟨r4, w4, e4, h4, b4⟩ := float_any (P := Try.prog) .add (by simp) 25 r3 r2 w3
  obtain ⟨r5, w5, e5, h5, b5⟩ := float_any (P := Try.prog) .mul (by simp) 25 k r4 w4
  obtain ⟨r6, w6, e6, h6, b6⟩ := float_any (P := Try.prog) .add (by simp) 25 k 4607182418800017408 w5
  obtain ⟨r7, w7, e7, h7, b7⟩ := float_any (P := Try.prog) .mul (by simp) 25 (floatOfInt .f64 t) r6 w6
  obtain ⟨r8, w8, e8, h8, b8⟩ := float_any (P := Try.prog) .add (by simp) 25 (floatOfInt .f64 t) r5 w7
  obtain ⟨r9, w9, e9, h9, b9⟩ := float_any (P := Try.prog) .quo (by simp) 25 r7 r8 w8
  have g1 := FR.op2 (FR.arg (ofInt_lt l)) (FR.arg ha) h1
  have g2 := FR.op2 (FR.arg hb) g1 h2
  have g3 := FR.op2 (FR.arg (by decide)) (FR.arg hb) h3
  have g4 := FR.op2 g3 g2 h4
  have g5 := FR.op2 (FR.arg hk) g4 h5
  have g6 := FR.op2 (FR.arg hk) (FR.arg (by decide)) h6
  have g7 := FR.op2 (FR.arg (ofInt_lt t)) g6 h7
  have g8 := FR.op2 (FR.arg (ofInt_lt t)) g5 h8
  have g9 := FR.op2 g7 g8 h9
  have HG := Lib.hid g9
  have HB := Lib.hid (low_more (low_more (low_more (low_more (low_more (low_more (low_more (low_more b1 b2) b3) b4) b5) b6) b7) b8) b9)
  clear g9 g8 g7 g6 g5 g4 g3 g2 g1 h1 h2 h3 h4 h5 h6 h7 h8 h9 b1 b2 b3 b4 b5 b6 b7 b8 b9
  go_enter Try.func13, Try.ntmps13
  go_wp2_with fail
  go_ret
  exact ⟨_, rfl, HG.out, HB.out⟩

set_option maxRecDepth 100000 in
set_option maxHeartbeats 2000000 in
theorem ref_worth19 (k b : Nat) (t l : Int) (a : Nat) (hk : k < 18446744073709551616) (hb : b < 18446744073709551616) (ha : a < 18446744073709551616) (w0 : World) : Calls Try.prog 14 #[.float .f64 k, .float .f64 b, .int .i64 t, .int .i64 l, .float .f64 a] w0 fun e w' => ∃ r, e = .returned (.float .f64 r) ∧ FR (worthO k b t l a) r ∧ Below w0.heap.size w0 w' := by
  obtain ⟨r1, w1, e1, h1, b1⟩ := float_any (P := Try.prog) .quo (by simp) 25 (floatOfInt .f64 l) a w0
  obtain ⟨r2, w2, e2, h2, b2⟩ := float_any (P := Try.prog) .mul (by simp) 25 b r1 w1
  obtain ⟨r3, w3, e3, h3, b3⟩ := float_any (P := Try.prog) .sub (by simp) 25 4607182418800017408 b w2
  obtain ⟨r4, w4, e4, h4, b4⟩ := float_any (P := Try.prog) .add (by simp) 25 r3 r2 w3
  obtain ⟨r5, w5, e5, h5, b5⟩ := float_any (P := Try.prog) .mul (by simp) 25 k r4 w4
  obtain ⟨r6, w6, e6, h6, b6⟩ := float_any (P := Try.prog) .add (by simp) 25 (floatOfInt .f64 t) r5 w5
  obtain ⟨r7, w7, e7, h7, b7⟩ := float_any (P := Try.prog) .add (by simp) 25 k 4607182418800017408 w6
  obtain ⟨r8, w8, e8, h8, b8⟩ := float_any (P := Try.prog) .mul (by simp) 25 (floatOfInt .f64 t) r7 w7
  obtain ⟨r9, w9, e9, h9, b9⟩ := float_any (P := Try.prog) .quo (by simp) 25 r8 r6 w8
  have g1 := FR.op2 (FR.arg (ofInt_lt l)) (FR.arg ha) h1
  have g2 := FR.op2 (FR.arg hb) g1 h2
  have g3 := FR.op2 (FR.arg (by decide)) (FR.arg hb) h3
  have g4 := FR.op2 g3 g2 h4
  have g5 := FR.op2 (FR.arg hk) g4 h5
  have g6 := FR.op2 (FR.arg (ofInt_lt t)) g5 h6
  have g7 := FR.op2 (FR.arg hk) (FR.arg (by decide)) h7
  have g8 := FR.op2 (FR.arg (ofInt_lt t)) g7 h8
  have g9 := FR.op2 g8 g6 h9
  have HG := Lib.hid g9
  have HB := Lib.hid (low_more (low_more (low_more (low_more (low_more (low_more (low_more (low_more b1 b2) b3) b4) b5) b6) b7) b8) b9)
  clear g9 g8 g7 g6 g5 g4 g3 g2 g1 h1 h2 h3 h4 h5 h6 h7 h8 h9 b1 b2 b3 b4 b5 b6 b7 b8 b9
  go_enter Try.func14, Try.ntmps14
  go_wp2_with fail
  go_ret
  exact ⟨_, rfl, HG.out, HB.out⟩
end Go.Proofs.Ytdljhbdbnplnmaa
