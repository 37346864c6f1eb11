/-
  Numbers of double precision by their bits: NaN, the order by rungs, the place of each; what operations that may answer no number come to. No walk, no program's text.
-/
import Derived.Test.YtdljhbdbnplnmaaKit
import Derived.Laws.FloatArith
namespace Go.Proofs.Ytdljhbdbnplnmaa
open Ieee

/-- The bits are those of no number. -/
def NaN (x : Nat) : Prop := 9218868437227405312 < x % 9223372036854775808
instance (x : Nat) : Decidable (NaN x) := by unfold NaN; exact inferInstance
/-- The rung with its sign. -/
def keyZ (x : Nat) : Int := if 9223372036854775808 ≤ x then -((x : Int) - 9223372036854775808) else x
/-- The place in the order: all that are no number at 0. -/
def placeZ (x : Nat) : Int := if NaN x then 0 else 9223372036854775808 + keyZ x + 1
def ordZ (x y : Nat) : Int := if placeZ x < placeZ y then -1 else if placeZ y < placeZ x then 1 else 0
def bitsZ (x : Nat) : Nat := if NaN x then 9221120237041090561 else x

/-- The magnitude of a rung, in the least units. -/
def magR (r : Nat) : Nat := if r < 4503599627370496 then r else (4503599627370496 + r % 4503599627370496) * 2 ^ (r / 4503599627370496 - 1)

theorem magR_lt {r s : Nat} (h : r < s) : magR r < magR s := by
  unfold magR
  by_cases hr : r < 4503599627370496
  · rw [if_pos hr]
    by_cases hs : s < 4503599627370496
    · rw [if_pos hs]; exact h
    · rw [if_neg hs]
      have : 0 < 2 ^ (s / 4503599627370496 - 1) := Nat.two_pow_pos _
      have := Nat.le_mul_of_pos_right (4503599627370496 + s % 4503599627370496) this
      omega
  · have hs : ¬ s < 4503599627370496 := by omega
    rw [if_neg hr, if_neg hs]
    have er := Nat.div_add_mod r 4503599627370496
    have es := Nat.div_add_mod s 4503599627370496
    have mr := Nat.mod_lt r (show 0 < 4503599627370496 by decide)
    have ms := Nat.mod_lt s (show 0 < 4503599627370496 by decide)
    have hq : 1 ≤ r / 4503599627370496 := by omega
    generalize hqr : r / 4503599627370496 = qr at *
    generalize hqs : s / 4503599627370496 = qs at *
    generalize r % 4503599627370496 = mr' at *
    generalize s % 4503599627370496 = ms' at *
    by_cases hqq : qr = qs
    · subst hqq
      exact Nat.mul_lt_mul_of_pos_right (by omega) (Nat.two_pow_pos _)
    · have hlt : qr < qs := by omega
      have e1 : (4503599627370496 + mr') * 2 ^ (qr - 1) < (2 * 4503599627370496) * 2 ^ (qr - 1) := Nat.mul_lt_mul_of_pos_right (by omega) (Nat.two_pow_pos _)
      have e2 : (2 * 4503599627370496) * 2 ^ (qr - 1) = 4503599627370496 * 2 ^ qr := by
        obtain ⟨k, rfl⟩ : ∃ k, qr = k + 1 := ⟨qr - 1, by omega⟩
        rw [Nat.add_sub_cancel, Nat.pow_succ]
        generalize 2 ^ k = z
        omega
      have e3 : 2 ^ qr ≤ 2 ^ (qs - 1) := Nat.pow_le_pow_right (by decide) (by omega)
      have e4 : 4503599627370496 * 2 ^ qr ≤ 4503599627370496 * 2 ^ (qs - 1) := Nat.mul_le_mul_left _ e3
      have e5 : 4503599627370496 * 2 ^ (qs - 1) ≤ (4503599627370496 + ms') * 2 ^ (qs - 1) := Nat.mul_le_mul_right _ (by omega)
      omega
theorem magR_cmp (r s : Nat) : (magR r < magR s ↔ r < s) ∧ (magR r = magR s ↔ r = s) := by
  rcases Nat.lt_trichotomy r s with h | h | h
  · have := magR_lt h; omega
  · subst h; omega
  · have := magR_lt h; omega

/-- What a finite word reads as: its rung's magnitude. -/
def exX (r : Nat) : Nat := if r < 4503599627370496 then 0 else r / 4503599627370496 - 1
def manX (r : Nat) : Nat := if r < 4503599627370496 then r else 4503599627370496 + r % 4503599627370496
theorem magR_eq (r : Nat) : magR r = manX r * 2 ^ exX r := by
  unfold magR manX exX
  split <;> simp
theorem read_fin {x : Nat} (hx : x < 18446744073709551616) (h : x % 9223372036854775808 < 9218868437227405312) : double.read x = .number (decide (9223372036854775808 ≤ x)) (manX (x % 9223372036854775808)) (double.leastPlace + (exX (x % 9223372036854775808) : Nat)) := by
  have hs : (x / double.signWeight % 2 == 1) = decide (9223372036854775808 ≤ x) := by
    rw [show double.signWeight = 9223372036854775808 from by decide +kernel]
    rw [Bool.eq_iff_iff, beq_iff_eq, decide_eq_true_eq]
    omega
  unfold Format.read
  simp only [hs]
  rw [show double.signWeight = 9223372036854775808 from by decide +kernel, show double.binade = 4503599627370496 from by decide +kernel, show double.infRung = 9218868437227405312 from by decide +kernel]
  unfold manX exX
  by_cases hb : x % 9223372036854775808 < 4503599627370496
  · rw [if_pos hb, if_pos hb, if_pos hb]
    simp
  · rw [if_neg hb, if_pos h, if_neg hb, if_neg hb]
theorem read_inf {x : Nat} (hx : x < 18446744073709551616) (h : x % 9223372036854775808 = 9218868437227405312) : double.read x = .infinity (decide (9223372036854775808 ≤ x)) := by
  have hs : (x / double.signWeight % 2 == 1) = decide (9223372036854775808 ≤ x) := by
    rw [show double.signWeight = 9223372036854775808 from by decide +kernel]
    rw [Bool.eq_iff_iff, beq_iff_eq, decide_eq_true_eq]
    omega
  unfold Format.read
  simp only [hs]
  rw [show double.signWeight = 9223372036854775808 from by decide +kernel, show double.binade = 4503599627370496 from by decide +kernel, show double.infRung = 9218868437227405312 from by decide +kernel]
  rw [if_neg (by omega), if_neg (by omega), if_pos h]
theorem read_nan {x : Nat} (h : NaN x) : ∃ s f, double.read x = .nan s f := by
  unfold NaN at h
  unfold Format.read
  rw [show double.signWeight = 9223372036854775808 from by decide +kernel, show double.binade = 4503599627370496 from by decide +kernel, show double.infRung = 9218868437227405312 from by decide +kernel]
  simp only
  rw [if_neg (by omega), if_neg (by omega), if_neg (by omega)]
  exact ⟨_, _, rfl⟩

theorem order_nan {x y : Nat} (h : NaN x ∨ NaN y) : double.order x y = none := by
  unfold Format.order
  rcases h with h | h
  · obtain ⟨s, f, e⟩ := read_nan h
    rw [e]
    cases double.read y <;> rfl
  · obtain ⟨s, f, e⟩ := read_nan h
    rw [e]
    cases double.read x <;> rfl

theorem signed_cmp (s t : Bool) (a b : Nat) : compare (signed s a 0) (signed t b 0) = compare (if s then -(a : Int) else a) (if t then -(b : Int) else b) := by
  unfold signed
  simp
theorem signed_shift (s : Bool) (m k : Nat) : signed s m k = (if s then -((m * 2 ^ k : Nat) : Int) else ((m * 2 ^ k : Nat) : Int)) := by
  unfold signed
  rw [Nat.shiftLeft_eq]
theorem cmp_int (a b c d : Int) (h1 : a < b ↔ c < d) (h2 : a = b ↔ c = d) : compare a b = compare c d := by
  simp only [compare, compareOfLessAndEq]
  by_cases h : a < b
  · rw [if_pos h, if_pos (h1.1 h)]
  · rw [if_neg h, if_neg (fun k => h (h1.2 k))]
    by_cases k : a = b
    · rw [if_pos k, if_pos (h2.1 k)]
    · rw [if_neg k, if_neg (fun e => k (h2.2 e))]

theorem num_cmp (s t : Bool) (m n a b : Nat) (L : Int) : Datum.order (.number s m (L + (a : Nat))) (.number t n (L + (b : Nat))) = some (compare (if s then -((m * 2 ^ a : Nat) : Int) else ((m * 2 ^ a : Nat) : Int)) (if t then -((n * 2 ^ b : Nat) : Int) else ((n * 2 ^ b : Nat) : Int))) := by
  unfold Datum.order
  simp only
  have hmin : min (L + (a : Int)) (L + (b : Int)) = L + ((min a b : Nat) : Int) := by omega
  rw [hmin, show (L + (a : Int) - (L + ((min a b : Nat) : Int))).toNat = a - min a b by omega, show (L + (b : Int) - (L + ((min a b : Nat) : Int))).toNat = b - min a b by omega, signed_shift, signed_shift]
  have ha : m * 2 ^ a = m * 2 ^ (a - min a b) * 2 ^ (min a b) := by rw [Nat.mul_assoc, ← Nat.pow_add, show a - min a b + min a b = a by omega]
  have hb : n * 2 ^ b = n * 2 ^ (b - min a b) * 2 ^ (min a b) := by rw [Nat.mul_assoc, ← Nat.pow_add, show b - min a b + min a b = b by omega]
  rw [ha, hb]
  have hp : 0 < 2 ^ min a b := Nat.two_pow_pos _
  generalize m * 2 ^ (a - min a b) = u
  generalize n * 2 ^ (b - min a b) = v
  generalize 2 ^ min a b = p at *
  have k1 : u * p < v * p ↔ u < v := Nat.mul_lt_mul_right hp
  have k2 : v * p < u * p ↔ v < u := Nat.mul_lt_mul_right hp
  have k3 : u = 0 ↔ u * p = 0 := by rw [Nat.mul_eq_zero]; omega
  have k4 : v = 0 ↔ v * p = 0 := by rw [Nat.mul_eq_zero]; omega
  generalize u * p = up at *
  generalize v * p = vp at *
  congr 1
  cases s <;> cases t <;> simp only [Bool.false_eq_true, if_false, if_true] <;> apply cmp_int <;> omega

theorem order_num {x y : Nat} (hx : x < 18446744073709551616) (hy : y < 18446744073709551616) (nx : ¬ NaN x) (ny : ¬ NaN y) : double.order x y = some (compare (keyZ x) (keyZ y)) := by
  unfold NaN at nx ny
  unfold Format.order
  have kx : keyZ x = if decide (9223372036854775808 ≤ x) = true then -((x % 9223372036854775808 : Nat) : Int) else ((x % 9223372036854775808 : Nat) : Int) := by
    unfold keyZ
    by_cases h : 9223372036854775808 ≤ x
    · rw [if_pos h, if_pos (by simpa using h)]; omega
    · rw [if_neg h, if_neg (by simpa using h)]; omega
  have ky : keyZ y = if decide (9223372036854775808 ≤ y) = true then -((y % 9223372036854775808 : Nat) : Int) else ((y % 9223372036854775808 : Nat) : Int) := by
    unfold keyZ
    by_cases h : 9223372036854775808 ≤ y
    · rw [if_pos h, if_pos (by simpa using h)]; omega
    · rw [if_neg h, if_neg (by simpa using h)]; omega
  rw [kx, ky]
  generalize hsx : decide (9223372036854775808 ≤ x) = sx
  generalize hsy : decide (9223372036854775808 ≤ y) = sy
  by_cases fx : x % 9223372036854775808 < 9218868437227405312
  · by_cases fy : y % 9223372036854775808 < 9218868437227405312
    · rw [read_fin hx fx, read_fin hy fy, num_cmp, ← magR_eq, ← magR_eq, hsx, hsy]
      generalize x % 9223372036854775808 = a
      generalize y % 9223372036854775808 = b
      have h1 := magR_cmp a b
      have h2 := magR_cmp b a
      have h3 := magR_cmp 0 a
      have h4 := magR_cmp 0 b
      have h5 : magR 0 = 0 := rfl
      rw [h5] at h3 h4
      generalize magR a = u at *
      generalize magR b = v at *
      congr 1
      cases sx <;> cases sy <;> simp only [Bool.false_eq_true, if_false, if_true] <;> apply cmp_int <;> omega
    · have iy : y % 9223372036854775808 = 9218868437227405312 := by omega
      rw [read_fin hx fx, read_inf hy iy, hsx, hsy, iy]
      unfold Datum.order
      simp only
      generalize x % 9223372036854775808 = a at *
      cases sx <;> cases sy <;> simp only [Bool.false_eq_true, if_false, if_true, compare, compareOfLessAndEq] <;> (first | rw [if_pos (by omega)] | rw [if_neg (by omega), if_neg (by omega)])
  · have ix : x % 9223372036854775808 = 9218868437227405312 := by omega
    by_cases fy : y % 9223372036854775808 < 9218868437227405312
    · rw [read_inf hx ix, read_fin hy fy, hsx, hsy, ix]
      unfold Datum.order
      simp only
      generalize y % 9223372036854775808 = a at *
      cases sx <;> cases sy <;> simp only [Bool.false_eq_true, if_false, if_true, compare, compareOfLessAndEq] <;> (first | rw [if_pos (by omega)] | rw [if_neg (by omega), if_neg (by omega)])
    · have iy : y % 9223372036854775808 = 9218868437227405312 := by omega
      rw [read_inf hx ix, read_inf hy iy, hsx, hsy, ix, iy]
      unfold Datum.order
      cases sx <;> cases sy <;> rfl

theorem lss_z {x y : Nat} (hx : x < 18446744073709551616) (hy : y < 18446744073709551616) : (double.order x y == some .lt) = decide (¬ NaN x ∧ ¬ NaN y ∧ keyZ x < keyZ y) := by
  by_cases nx : NaN x
  · rw [order_nan (.inl nx)]; simp [nx]
  · by_cases ny : NaN y
    · rw [order_nan (.inr ny)]; simp [ny]
    · rw [order_num hx hy nx ny]
      simp only [compare, compareOfLessAndEq]
      by_cases h : keyZ x < keyZ y
      · simp [h, nx, ny]
      · rw [if_neg h]
        by_cases k : keyZ x = keyZ y <;> simp [k, h]
theorem eql_z {x y : Nat} (hx : x < 18446744073709551616) (hy : y < 18446744073709551616) : (double.order x y == some .eq) = decide (¬ NaN x ∧ ¬ NaN y ∧ keyZ x = keyZ y) := by
  by_cases nx : NaN x
  · rw [order_nan (.inl nx)]; simp [nx]
  · by_cases ny : NaN y
    · rw [order_nan (.inr ny)]; simp [ny]
    · rw [order_num hx hy nx ny]
      simp only [compare, compareOfLessAndEq]
      by_cases h : keyZ x < keyZ y
      · have : ¬ keyZ x = keyZ y := by omega
        simp [h, this]
      · rw [if_neg h]
        by_cases k : keyZ x = keyZ y <;> simp [k, nx, ny]
theorem self_z {x : Nat} (hx : x < 18446744073709551616) : (double.order x x != some .eq) = decide (NaN x) := by
  have := eql_z hx hx
  rw [bne, this]
  by_cases h : NaN x <;> simp [h]
theorem self_eq {x : Nat} (hx : x < 18446744073709551616) (n : ¬ NaN x) : (double.order x x == some .eq) = true := by
  rw [eql_z hx hx]; simp [n]

/-- x stands ahead of y: the chapter's words. -/
theorem ahead_z {x y : Nat} (hx : x < 18446744073709551616) (hy : y < 18446744073709551616) : decide ((¬ NaN x ∧ ¬ NaN y ∧ keyZ x < keyZ y) ∨ (NaN x ∧ ¬ NaN y)) = decide (placeZ x < placeZ y) := by
  rw [Bool.eq_iff_iff, decide_eq_true_eq, decide_eq_true_eq]
  unfold placeZ
  have kx : NaN x ∨ -9218868437227405312 ≤ keyZ x := by
    by_cases h : NaN x
    · exact .inl h
    · unfold NaN at h; unfold keyZ; right; split <;> omega
  have ky : NaN y ∨ -9218868437227405312 ≤ keyZ y := by
    by_cases h : NaN y
    · exact .inl h
    · unfold NaN at h; unfold keyZ; right; split <;> omega
  by_cases nx : NaN x
  · rw [if_pos nx]
    by_cases ny : NaN y
    · rw [if_pos ny]; simp [nx, ny]
    · rw [if_neg ny]
      have k := ky.resolve_left ny
      exact ⟨fun _ => by omega, fun _ => .inr ⟨nx, ny⟩⟩
  · rw [if_neg nx]
    have k := kx.resolve_left nx
    by_cases ny : NaN y
    · rw [if_pos ny]
      exact ⟨fun h => h.elim (fun h => absurd ny h.2.1) (fun h => absurd h.1 nx), fun h => by omega⟩
    · rw [if_neg ny]
      exact ⟨fun h => h.elim (fun h => by omega) (fun h => absurd h.1 nx), fun h => .inl ⟨nx, ny, by omega⟩⟩

/-- What an operation that may answer no number has come to: the number, or one of those that are none. -/
def FR (o : Option Nat) (r : Nat) : Prop := r < 18446744073709551616 ∧ (o = some r ∨ (o = none ∧ NaN r))
theorem FR.arg {x : Nat} (h : x < 18446744073709551616) : FR (some x) x := ⟨h, .inl rfl⟩
theorem FR.is {x r : Nat} (h : FR (some x) r) : r = x := by
  rcases h.2 with h | h
  · exact (Option.some.inj h).symm
  · cases h.1
theorem FR.bits {o : Option Nat} {a b : Nat} (h : FR o a) (k : FR o b) : bitsZ a = bitsZ b := by
  rcases h.2 with e | ⟨e, n⟩
  · rw [e] at k
    rw [k.is]
  · rcases k.2 with e' | ⟨_, n'⟩
    · rw [e] at e'; cases e'
    · unfold bitsZ
      rw [if_pos n, if_pos n']
def op2 (op : BinOp) (x y : Option Nat) : Option Nat := x.bind fun a => y.bind fun b => floatBits op .f64 a b
theorem floatBits_nan {op : BinOp} {x y : Nat} (h : NaN x ∨ NaN y) : floatBits op .f64 x y = none := by
  have e : (∃ s f, double.read x = .nan s f) ∨ (∃ s f, double.read y = .nan s f) := h.imp read_nan read_nan
  have ff : FloatKind.f64.format = double := rfl
  unfold floatBits
  rw [ff]
  unfold Format.add Format.sub Format.mul Format.div
  rcases e with ⟨s, f, e⟩ | ⟨s, f, e⟩ <;> rw [e] <;> cases op <;> simp only <;> first
    | rfl
    | (cases double.read x <;> rfl)
    | (cases double.read y <;> rfl)
theorem FR.op2 {op : BinOp} {x y : Option Nat} {a b r : Nat} (hx : FR x a) (hy : FR y b) (hr : FR (floatBits op .f64 a b) r) : FR (op2 op x y) r := by
  unfold Go.Proofs.Ytdljhbdbnplnmaa.op2
  rcases hx.2 with rfl | ⟨rfl, na⟩
  · rcases hy.2 with rfl | ⟨rfl, nb⟩
    · exact hr
    · rw [floatBits_nan (.inr nb)] at hr
      simpa using hr
  · rw [floatBits_nan (.inl na)] at hr
    exact hr
end Go.Proofs.Ytdljhbdbnplnmaa
