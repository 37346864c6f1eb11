/-
  What the landed code's functions of layer 7 keep. Over the program's own text.
-/
import Derived.Test.YtpmhkmakkeckkaaPackKept
import Derived.StillTailTactics
import Derived.Deep.OwnRows
namespace Go.Proofs.Ytpmhkmakkeckkaa
open Go.RowKit

/-! ### Small ones -/
set_option maxRecDepth 100000 in
theorem lands_fits (w : World) (n : Int) (h0 : -9223372036854775808 ≤ n) (h1 : n ≤ 9223372036854775807) : Calls Try.prog 48 #[.int .i64 n] w fun e w' => e = .returned (.bool (decide (0 ≤ n ∧ n ≤ 65535))) ∧ w' = w := by
  by_cases a : 0 ≤ n
  · by_cases b : n < 65536
    · rw [decide_eq_true (p := 0 ≤ n ∧ n ≤ 65535) (by omega)]
      go_enter Try.func48, Try.ntmps48
      go_wp2_with fail
      go_ret
      exact ⟨rfl, rfl⟩
    · rw [decide_eq_false (p := 0 ≤ n ∧ n ≤ 65535) (by omega)]
      go_enter Try.func48, Try.ntmps48
      go_wp2_with fail
      go_ret
      exact ⟨rfl, rfl⟩
  · rw [decide_eq_false (p := 0 ≤ n ∧ n ≤ 65535) (by omega)]
    go_enter Try.func48, Try.ntmps48
    go_wp2_with fail
    go_ret
    exact ⟨rfl, rfl⟩
set_option maxRecDepth 100000 in
theorem lands_fits_of (b : Bool) (n : Int) (h0 : -9223372036854775808 ≤ n) (h1 : n ≤ 9223372036854775807) (h : decide (0 ≤ n ∧ n ≤ 65535) = b) (w : World) : Calls Try.prog 48 #[.int .i64 n] w fun e w' => e = .returned (.bool b) ∧ w' = w := by
  subst h
  exact lands_fits w n h0 h1

set_option maxRecDepth 100000 in
theorem lands_word (w : World) (d p : Int) (hd0 : -9223372036854775808 ≤ d) (hd1 : d ≤ 9223372036854775807) (hp0 : -9223372036854775808 ≤ p) (hp1 : p ≤ 9223372036854775807) :
    Calls Try.prog 36 #[.int .i64 d, .int .i64 p] w fun e w' => e = .returned (.tuple #[.int .u32 (wordX d p), .int .i64 (wordE d p)]) ∧ w' = w := by
  by_cases h : 0 ≤ d ∧ d ≤ 65535
  · have F1 := Lib.hid (lands_fits_of true d hd0 hd1 (decide_eq_true h))
    by_cases h2 : 0 ≤ p ∧ p ≤ 65535
    · have F2 := Lib.hid (lands_fits_of true p hp0 hp1 (decide_eq_true h2))
      have hx : wordX d p = 65536 * d + p := by unfold wordX; rw [if_pos ⟨h.1, h.2, h2.1, h2.2⟩]
      have he : wordE d p = 0 := by unfold wordE; rw [if_pos ⟨h.1, h.2, h2.1, h2.2⟩]
      rw [hx, he]
      obtain ⟨a1, a2⟩ := h
      obtain ⟨a3, a4⟩ := h2
      clear hx he
      have i1 : IntKind.u32.wrap d = d := IntWalk.u32_in _ (by omega)
      have i2 : IntKind.u32.wrap p = p := IntWalk.u32_in _ (by omega)
      have i3 : IntKind.u32.wrap (65536 * d) = 65536 * d := IntWalk.u32_in _ (by omega)
      have i4 : IntKind.u32.wrap (65536 * d + p) = 65536 * d + p := IntWalk.u32_in _ (by omega)
      go_enter Try.func36, Try.ntmps36
      go_wp2_with fail
      refine (F1.out _).mono ?_; rintro e w1 ⟨rfl, rfl⟩
      go_wp2_with fail
      refine (F2.out _).mono ?_; rintro e w1 ⟨rfl, rfl⟩
      go_wp2_with fail
      go_ret2
      exact ⟨rfl, rfl⟩
    · have F2 := Lib.hid (lands_fits_of false p hp0 hp1 (decide_eq_false h2))
      have hx : wordX d p = 0 := by unfold wordX; rw [if_neg (fun k => h2 ⟨k.2.2.1, k.2.2.2⟩)]
      have he : wordE d p = 1 := by unfold wordE; rw [if_neg (fun k => h2 ⟨k.2.2.1, k.2.2.2⟩)]
      rw [hx, he]
      clear hx he h2
      go_enter Try.func36, Try.ntmps36
      go_wp2_with fail
      refine (F1.out _).mono ?_; rintro e w1 ⟨rfl, rfl⟩
      go_wp2_with fail
      refine (F2.out _).mono ?_; rintro e w1 ⟨rfl, rfl⟩
      go_wp2_with fail
      go_ret2
      exact ⟨rfl, rfl⟩
  · have F1 := Lib.hid (lands_fits_of false d hd0 hd1 (decide_eq_false h))
    have hx : wordX d p = 0 := by unfold wordX; rw [if_neg (fun k => h ⟨k.1, k.2.1⟩)]
    have he : wordE d p = 1 := by unfold wordE; rw [if_neg (fun k => h ⟨k.1, k.2.1⟩)]
    rw [hx, he]
    clear hx he h
    go_enter Try.func36, Try.ntmps36
    go_wp2_with fail
    refine (F1.out _).mono ?_; rintro e w1 ⟨rfl, rfl⟩
    go_wp2_with fail
    go_ret2
    exact ⟨rfl, rfl⟩

set_option maxRecDepth 100000 in
theorem lands_count (w : World) (n : Int) (m : Nat) (h0 : 0 ≤ n) (h1 : n ≤ 9223372036854775807) (hm : (m : Int) = (n + 3) / 4) : Calls Try.prog 50 #[.int .i64 n] w fun e w' => e = .returned (.int .i64 (m : Int)) ∧ w' = w := by
  obtain ⟨q, hq⟩ : ∃ q, q = n / 4 := ⟨_, rfl⟩
  obtain ⟨r, hr⟩ : ∃ r, r = n % 4 := ⟨_, rfl⟩
  obtain ⟨t, ht⟩ : ∃ t, t = (r + 3) / 4 := ⟨_, rfl⟩
  have q1 : n / 4 = q := hq.symm
  have r1 : n % 4 = r := hr.symm
  have q2 : n.tdiv 4 = q := by rw [Int.tdiv_eq_ediv_of_nonneg h0]; exact q1
  have r2 : n.tmod 4 = r := by rw [Int.tmod_eq_emod_of_nonneg h0]; exact r1
  have q3 : IntKind.i64.wrap q = q := IntWalk.i64_in _ (by omega)
  have r3 : IntKind.i64.wrap r = r := IntWalk.i64_in _ (by omega)
  have s3 : IntKind.i64.wrap (r + 3) = r + 3 := IntWalk.i64_in _ (by omega)
  have t1 : (r + 3) / 4 = t := ht.symm
  have t2 : (r + 3).tdiv 4 = t := by rw [Int.tdiv_eq_ediv_of_nonneg (by omega)]; exact t1
  have t3 : IntKind.i64.wrap t = t := IntWalk.i64_in _ (by omega)
  have u1 : q + t = (m : Int) := by omega
  have u3 : IntKind.i64.wrap (q + t) = (m : Int) := by rw [u1]; exact IntWalk.i64_in _ (by omega)
  have HM := Lib.hid u1
  clear hq hr ht hm
  go_enter Try.func50, Try.ntmps50
  go_wp2_with fail
  go_ret
  first
  | exact ⟨rfl, rfl⟩
  | exact ⟨by rw [HM.out], rfl⟩

set_option maxRecDepth 100000 in
theorem lands_shift (w : World) (i k t : Nat) (hi : i ≤ 100000000) (hk : i % 4 = k) (ht : k * 8 = t) : Calls Try.prog 51 #[.int .i64 (i : Int)] w fun e w' => e = .returned (.int .i64 (t : Int)) ∧ w' = w := by
  have r1 : (i : Int) % 4 = (k : Int) := by omega
  have r2 : (i : Int).tmod 4 = (k : Int) := by rw [Int.tmod_eq_emod_of_nonneg (by omega)]; exact r1
  have r3 : IntKind.i64.wrap (k : Int) = (k : Int) := IntWalk.i64_in _ (by omega)
  have r4 : IntKind.i64.wrap ((k : Int) * 8) = (t : Int) := by rw [IntWalk.i64_in _ (by omega)]; omega
  have HM := Lib.hid (show (k : Int) * 8 = (t : Int) by omega)
  clear hk ht
  go_enter Try.func51, Try.ntmps51
  go_wp2_with fail
  go_ret
  first
  | exact ⟨rfl, rfl⟩
  | exact ⟨by rw [HM.out], rfl⟩

set_option maxRecDepth 100000 in
theorem hash_walk32 (h b : Nat) (hh : h < 4294967296) (hb : b < 256) : IntKind.u32.wrap (bits BinOp.xor IntKind.u32 (h : Int) (IntKind.u32.wrap (b : Int)) * 16777619) = ((hashStep h b : Nat) : Int) := by
  have hx : h ^^^ b < 4294967296 := Nat.xor_lt_two_pow (n := 32) hh (by omega)
  rw [IntWalk.u32_in (b : Int) (by omega)]
  have e : bits BinOp.xor IntKind.u32 (h : Int) (b : Int) = ((h ^^^ b : Nat) : Int) := by
    have h1 : h % 2 ^ IntKind.u32.bits = h := Nat.mod_eq_of_lt (by show h < 4294967296; omega)
    have h2 : b % 2 ^ IntKind.u32.bits = b := Nat.mod_eq_of_lt (by show b < 4294967296; omega)
    simp only [bits, BitVec.ofInt_natCast, BitVec.toNat_xor, BitVec.toNat_ofNat, h1, h2]
    exact IntWalk.u32_in _ (by omega)
  rw [e]
  unfold hashStep
  generalize h ^^^ b = x
  rw [IntKind.wrap_u32]
  omega

set_option maxRecDepth 100000 in
theorem key_text (f : Int) (s : ByteArray) : byteText [f.toNat] ++ s = byteText (f.toNat :: bytesL s) := by
  rw [show byteText (f.toNat :: bytesL s) = byteText [f.toNat] ++ byteText (bytesL s) from ?_, byteText_bytesL]
  unfold byteText
  apply ByteArray.ext
  simp
/-! ### Rows filled by places -/
set_option maxRecDepth 100000 in
theorem row_owns {w : World} {g n : Nat} {t : TypeId} {k : IntKind} {F : Nat → Value} {l : List Nat} (base : Nat) (hb : base ≤ g) (hn : l.length = n) (hm : n ≤ maxLen) (h : w.rowIs g t n F) (hF : ∀ j x : Nat, l[j]? = some x → F j = .int k (x : Int)) : OwnN t k w base (.slice (some ⟨g, 0, none⟩) n n) l := by
  obtain ⟨c, h1, h2, h3⟩ := h
  subst hn
  refine ⟨by rw [numC_length, Nat.mul_one], .inr ⟨g, _, c, rfl, hb, h1, Nat.le_refl _, hm, by omega, ?_⟩⟩
  apply List.ext_getElem?
  intro j
  rw [List.getElem?_take]
  by_cases hj : j < l.length
  · rw [if_pos (by omega), Array.getElem?_toList, h3 j hj, hF j _ (List.getElem?_eq_getElem hj), numC_get (List.getElem?_eq_getElem hj)]
  · rw [if_neg (by omega), List.getElem?_eq_none (by rw [numC_length]; omega)]
set_option maxRecDepth 100000 in
theorem info_u32' : (Try.prog.info? 47).map (fun i => (i.zero, i.size, i.bytes)) = some (some (.int .u32 0), 1, 4) := info_u32
set_option maxRecDepth 100000 in
theorem make_cells (k : Nat) (hk : k ≤ 1000000) (w : World) : (Instr.makeSlice 26 (.int .i64 k) (.int .i64 k)).run Try.prog w = .ok (.slice (some ⟨w.heap.size, 0, none⟩) k k) (w.alloc (.cells (madeCells #[.int .u32 0] k) 47)) :=
  run_make_row' 26 47 (.int .u32 0) 4 Try.underlying26 info_u32 rfl .i64 .i64 k (by omega) (by omega) w
set_option maxRecDepth 100000 in
theorem make_bytes (k : Nat) (hk : k ≤ 4000000) (w : World) : (Instr.makeSlice 46 (.int .i64 k) (.int .i64 k)).run Try.prog w = .ok (.slice (some ⟨w.heap.size, 0, none⟩) k k) (w.alloc (.cells (madeCells #[.int .u8 0] k) 5)) :=
  run_make_row' 46 5 (.int .u8 0) 1 Try.underlying46 info_u8 rfl .i64 .i64 k (by omega) (by omega) w

set_option maxRecDepth 100000 in
theorem getD_take (L : List Nat) (i j : Nat) : (L.take i).getD j 0 = if j < i then L.getD j 0 else 0 := by
  rw [List.getD_eq_getElem?_getD, List.getElem?_take, List.getD_eq_getElem?_getD]
  split <;> rfl
set_option maxRecDepth 100000 in
/-- Another cell stays as it is. -/
theorem cell_other (L : List Nat) (i j : Nat) (h : j ≠ i / 4) : cellAt (L.take (i + 1)) j = cellAt (L.take i) j := by
  have key : ∀ m, m < 4 → (L.take (i + 1)).getD (4 * j + m) 0 = (L.take i).getD (4 * j + m) 0 := fun m hm => by
    rw [getD_take, getD_take]
    by_cases a : 4 * j + m < i
    · rw [if_pos a, if_pos (by omega)]
    · rw [if_neg a, if_neg (by omega)]
  unfold cellAt
  have k0 : (L.take (i + 1)).getD (4 * j) 0 = (L.take i).getD (4 * j) 0 := key 0 (by omega)
  rw [k0, key 1 (by omega), key 2 (by omega), key 3 (by omega)]
set_option maxRecDepth 100000 in
/-- One byte more. -/
theorem cell_step {L : List Nat} (hL : ∀ b ∈ L, b < 256) (i k : Nat) (hk : i % 4 = k) : cellAt (L.take (i + 1)) (i / 4) = cellAt (L.take i) (i / 4) + L.getD i 0 * 2 ^ (k * 8) ∧ cellAt (L.take i) (i / 4) < 2 ^ (k * 8) ∧ L.getD i 0 * 2 ^ (k * 8) < 4294967296 := by
  have hb := getD_lt hL i
  obtain ⟨j, hj⟩ : ∃ j, j = i / 4 := ⟨_, rfl⟩
  rw [← hj]
  unfold cellAt
  simp only [getD_take]
  rcases (show k = 0 ∨ k = 1 ∨ k = 2 ∨ k = 3 by omega) with rfl | rfl | rfl | rfl
  · have e : i = 4 * j := by omega
    subst e
    simp only [show (2 : Nat) ^ (0 * 8) = 1 from rfl]
    repeat (first | rw [if_pos (by omega)] | rw [if_neg (by omega)])
    have b0 := getD_lt hL (4 * j)
    have b1 := getD_lt hL (4 * j + 1)
    have b2 := getD_lt hL (4 * j + 2)
    have b3 := getD_lt hL (4 * j + 3)
    omega
  · have e : i = 4 * j + 1 := by omega
    subst e
    simp only [show (2 : Nat) ^ (1 * 8) = 256 from rfl]
    repeat (first | rw [if_pos (by omega)] | rw [if_neg (by omega)])
    have b0 := getD_lt hL (4 * j)
    have b1 := getD_lt hL (4 * j + 1)
    have b2 := getD_lt hL (4 * j + 2)
    have b3 := getD_lt hL (4 * j + 3)
    omega
  · have e : i = 4 * j + 2 := by omega
    subst e
    simp only [show (2 : Nat) ^ (2 * 8) = 65536 from rfl]
    repeat (first | rw [if_pos (by omega)] | rw [if_neg (by omega)])
    have b0 := getD_lt hL (4 * j)
    have b1 := getD_lt hL (4 * j + 1)
    have b2 := getD_lt hL (4 * j + 2)
    have b3 := getD_lt hL (4 * j + 3)
    omega
  · have e : i = 4 * j + 3 := by omega
    subst e
    simp only [show (2 : Nat) ^ (3 * 8) = 16777216 from rfl]
    repeat (first | rw [if_pos (by omega)] | rw [if_neg (by omega)])
    have b0 := getD_lt hL (4 * j)
    have b1 := getD_lt hL (4 * j + 1)
    have b2 := getD_lt hL (4 * j + 2)
    have b3 := getD_lt hL (4 * j + 3)
    omega
set_option maxRecDepth 100000 in
theorem or_walk {c x k : Nat} (hc : c < 2 ^ k) (hk : k ≤ 24) (b : Nat) (hx : x = b * 2 ^ k) (hx2 : x < 4294967296) : bits .or .u32 (c : Int) (x : Int) = ((c + x : Nat) : Int) := by
  have hc2 : c < 4294967296 := Nat.lt_of_lt_of_le hc (by calc 2 ^ k ≤ 2 ^ 24 := Nat.pow_le_pow_right (by decide) hk
      _ ≤ 4294967296 := by decide)
  have h := (bits_nat .u32 32 (by decide) (fun n a b => IntWalk.u32_in n (by omega)) c x (by omega) (by omega)).2
  rw [h, hx, Nat.or_comm, Nat.mul_comm b, ← Nat.two_pow_add_eq_or_of_lt hc b, Nat.add_comm]
set_option maxRecDepth 100000 in
theorem shl_walk (b k : Nat) (hk : k ≤ 24) (x : Nat) (hx : b * 2 ^ k = x) (hx2 : x < 4294967296) : Op.shift .shl .u32 (b : Int) .i64 (k : Int) = pure (.int .u32 (x : Int)) := by
  rw [shift_shl .u32 .i64 _ _ (by omega) (by show (k : Int) ≤ 32; omega)]
  rw [show ((k : Int)).toNat = k from rfl, show ((b : Int) * 2 ^ k) = (x : Int) by rw [← hx]; simp, IntWalk.u32_in _ (by omega)]
set_option maxRecDepth 100000 in
theorem shr_walk (x k : Nat) (hk : k ≤ 24) (q : Nat) (hq : x / 2 ^ k = q) : Op.shift .shr .u32 (x : Int) .i64 (k : Int) = pure (.int .u32 (q : Int)) := by
  rw [shift_shr .u32 .i64 _ _ (by omega) (by show (k : Int) ≤ 32; omega)]
  rw [show ((k : Int)).toNat = k from rfl, ← hq]
  simp
set_option maxRecDepth 100000 in
theorem byte_part (x k : Nat) (hk : k < 4) : (fourB x)[k]? = some (x / 2 ^ (k * 8) % 256) := by
  rcases (show k = 0 ∨ k = 1 ∨ k = 2 ∨ k = 3 by omega) with rfl | rfl | rfl | rfl <;> simp [fourB]
end Go.Proofs.Ytpmhkmakkeckkaa
