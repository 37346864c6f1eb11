/-
  The six laws of layer 7, given what the program's functions keep. Over the program's own text.
-/
import Derived.Test.YtinlfnkopkbbjaaPackKept
namespace Go.Proofs.Ytinlfnkopkbbjaa
open Go.RowKit

section
variable (K : KeptPack) (W : World)
include K
set_option maxRecDepth 100000 in
set_option maxHeartbeats 2000000 in
theorem words_all (d p x : Int) (d0 : -9223372036854775808 ≤ d) (d1 : d ≤ 9223372036854775807) (p0 : -9223372036854775808 ≤ p) (p1 : p ≤ 9223372036854775807) (x0 : 0 ≤ x) (x1 : x ≤ 4294967295) : Calls Try.prog 3 #[.int .i64 d, .int .i64 p, .int .u32 x] W fun e w' => e = .returned (.bool true) ∧ Below W.heap.size W w' := by
  have HF := Lib.hid (fixed_any K)
  obtain ⟨g, hg⟩ : ∃ g, x / 65536 = g := ⟨_, rfl⟩
  obtain ⟨q, hq⟩ : ∃ q, x % 65536 = q := ⟨_, rfl⟩
  have hin : inW g q := by unfold inW; omega
  have hw := wordX_in hin
  have A3 := Lib.hid (K.part_of x g q x0 x1 hg hq)
  have A4 := Lib.hid (ref_part_of x g q x0 x1 hg hq)
  have A5 := Lib.hid (K.word_of g q x 0 (by unfold inW at hin; omega) (by unfold inW at hin; omega) (by unfold inW at hin; omega) (by unfold inW at hin; omega) (by rw [hw.1]; omega) hw.2)
  clear hw hin hg hq
  by_cases h : inW d p
  · have hw := wordX_in h
    obtain ⟨X, hX⟩ : ∃ X, 65536 * d + p = X := ⟨_, rfl⟩
    rw [hX] at hw
    have A1 := Lib.hid (K.word_of d p X 0 d0 d1 p0 p1 hw.1 hw.2)
    have A2 := Lib.hid (ref_word_of d p X 0 d0 d1 p0 p1 hw.1 hw.2)
    unfold inW at h
    have A6 := Lib.hid (K.part_of X d p (by omega) (by omega) (by omega) (by omega))
    clear hw h hX K
    go_enter Try.func3, Try.ntmps3
    go_wp2_with fail
    refine (A1.out _).mono ?_; rintro e w1 ⟨rfl, hb⟩
    have HB := Lib.hid (hb); clear hb
    go_wp2_with fail
    refine (A2.out _).mono ?_; rintro e w2 ⟨rfl, rfl⟩
    go_wp2_with fail
    refine (A3.out _).mono ?_; rintro e w2 ⟨rfl, hb⟩
    have HB := Lib.hid (low_more HB.out hb); clear hb
    go_wp2_with fail
    refine (A4.out _).mono ?_; rintro e w3 ⟨rfl, rfl⟩
    go_wp2_with fail
    refine (A5.out _).mono ?_; rintro e w3 ⟨rfl, hb⟩
    have HB := Lib.hid (low_more HB.out hb); clear hb
    go_wp2_with fail
    refine (HF.out _).mono ?_; rintro e w4 ⟨rfl, hb⟩
    have HB := Lib.hid (low_more HB.out hb); clear hb
    go_wp2_with fail
    refine (A6.out _).mono ?_; rintro e w5 ⟨rfl, hb⟩
    have HB := Lib.hid (low_more HB.out hb); clear hb
    go_wp2_with fail
    go_ret
    exact ⟨rfl, HB.out⟩
  · have hw := wordX_out h
    have A1 := Lib.hid (K.word_of d p 0 1 d0 d1 p0 p1 hw.1 hw.2)
    have A2 := Lib.hid (ref_word_of d p 0 1 d0 d1 p0 p1 hw.1 hw.2)
    clear hw h K
    go_enter Try.func3, Try.ntmps3
    go_wp2_with fail
    refine (A1.out _).mono ?_; rintro e w1 ⟨rfl, hb⟩
    have HB := Lib.hid (hb); clear hb
    go_wp2_with fail
    refine (A2.out _).mono ?_; rintro e w2 ⟨rfl, rfl⟩
    go_wp2_with fail
    refine (A3.out _).mono ?_; rintro e w2 ⟨rfl, hb⟩
    have HB := Lib.hid (low_more HB.out hb); clear hb
    go_wp2_with fail
    refine (A4.out _).mono ?_; rintro e w3 ⟨rfl, rfl⟩
    go_wp2_with fail
    refine (A5.out _).mono ?_; rintro e w3 ⟨rfl, hb⟩
    have HB := Lib.hid (low_more HB.out hb); clear hb
    go_wp2_with fail
    refine (HF.out _).mono ?_; rintro e w4 ⟨rfl, hb⟩
    have HB := Lib.hid (low_more HB.out hb); clear hb
    go_wp2_with fail
    go_ret
    exact ⟨rfl, HB.out⟩

set_option maxRecDepth 100000 in
set_option maxHeartbeats 2000000 in
theorem hash_all (s : ByteArray) (hs : (s.size : Int) ≤ 9223372036854775807) : Calls Try.prog 6 #[.string s] W fun e w' => e = .returned (.bool true) ∧ Below W.heap.size W w' := by
  have HF := Lib.hid (fixed_any K)
  by_cases hlen : (5000 : Int) < (s.size : Int)
  · clear K
    go_enter Try.func6, Try.ntmps6
    go_wp2_with fail
    refine (HF.out _).mono ?_; rintro e w1 ⟨rfl, hb⟩
    have HB := Lib.hid (hb); clear hb
    go_wp2_with fail
    go_ret
    exact ⟨rfl, HB.out⟩
  · have A1 := Lib.hid (K.hash_of s _ (by omega) rfl)
    have A2 := Lib.hid (fun w => ref_hash w s (by omega))
    generalize hashN (bytesL s) = h at A1 A2
    clear K
    go_enter Try.func6, Try.ntmps6
    go_wp2_with fail
    refine (HF.out _).mono ?_; rintro e w1 ⟨rfl, hb⟩
    have HB := Lib.hid (hb); clear hb
    go_wp2_with fail
    refine (A1.out _).mono ?_; rintro e w2 ⟨rfl, hb⟩
    have HB := Lib.hid (low_more HB.out hb); clear hb
    go_wp2_with fail
    refine (A2.out _).mono ?_; rintro e w3 ⟨rfl, rfl⟩
    go_wp2_with fail
    go_ret
    exact ⟨rfl, HB.out⟩

set_option maxRecDepth 100000 in
set_option maxHeartbeats 2000000 in
theorem order_all (a b c d : Int) (a0 : 0 ≤ a) (a1 : a ≤ 65535) (b0 : 0 ≤ b) (b1 : b ≤ 65535) (c0 : 0 ≤ c) (c1 : c ≤ 65535) (d0 : 0 ≤ d) (d1 : d ≤ 65535) : Calls Try.prog 8 #[.int .u16 a, .int .u16 b, .int .u16 c, .int .u16 d] W fun e w' => e = .returned (.bool true) ∧ Below W.heap.size W w' := by
  have HF := Lib.hid (fixed_any K)
  have i1 : inW a b := ⟨a0, a1, b0, b1⟩
  have i2 : inW c d := ⟨c0, c1, d0, d1⟩
  have hw1 := wordX_in i1
  have hw2 := wordX_in i2
  obtain ⟨X, hX⟩ : ∃ X, 65536 * a + b = X := ⟨_, rfl⟩
  obtain ⟨Y, hY⟩ : ∃ Y, 65536 * c + d = Y := ⟨_, rfl⟩
  rw [hX] at hw1
  rw [hY] at hw2
  have A1 := Lib.hid (K.word_of a b X 0 (by omega) (by omega) (by omega) (by omega) hw1.1 hw1.2)
  have A2 := Lib.hid (K.word_of c d Y 0 (by omega) (by omega) (by omega) (by omega) hw2.1 hw2.2)
  have X0 : 0 ≤ X ∧ X ≤ 4294967295 := by omega
  have Y0 : 0 ≤ Y ∧ Y ≤ 4294967295 := by omega
  obtain ⟨X0, X1⟩ := X0
  obtain ⟨Y0, Y1⟩ := Y0
  clear hw1 hw2 i1 i2 K
  by_cases h1 : a < c
  · have g1 : X < Y := by omega
    have g2 : (X == Y) = false := beq_eq_false_iff_ne.2 (by omega)
    have g3 : (a == c) = false := beq_eq_false_iff_ne.2 (by omega)
    clear hX hY
    go_enter Try.func8, Try.ntmps8
    go_wp2_with fail
    refine (A1.out _).mono ?_; rintro e w1 ⟨rfl, hb⟩
    have HB := Lib.hid (hb); clear hb
    go_wp2_with fail
    refine (A2.out _).mono ?_; rintro e w2 ⟨rfl, hb⟩
    have HB := Lib.hid (low_more HB.out hb); clear hb
    go_wp2_with fail
    refine (HF.out _).mono ?_; rintro e w3 ⟨rfl, hb⟩
    have HB := Lib.hid (low_more HB.out hb); clear hb
    go_wp2_with fail
    go_ret
    exact ⟨rfl, HB.out⟩
  by_cases h2 : a = c
  · subst h2
    by_cases h3 : b < d
    · have g1 : X < Y := by omega
      have g2 : (X == Y) = false := beq_eq_false_iff_ne.2 (by omega)
      have g3 : (b == d) = false := beq_eq_false_iff_ne.2 (by omega)
      clear hX hY
      go_enter Try.func8, Try.ntmps8
      go_wp2_with fail
      refine (A1.out _).mono ?_; rintro e w1 ⟨rfl, hb⟩
      have HB := Lib.hid (hb); clear hb
      go_wp2_with fail
      refine (A2.out _).mono ?_; rintro e w2 ⟨rfl, hb⟩
      have HB := Lib.hid (low_more HB.out hb); clear hb
      go_wp2_with fail
      refine (HF.out _).mono ?_; rintro e w3 ⟨rfl, hb⟩
      have HB := Lib.hid (low_more HB.out hb); clear hb
      go_wp2_with fail
      go_ret
      exact ⟨rfl, HB.out⟩
    by_cases h4 : b = d
    · subst h4
      obtain rfl : X = Y := by omega
      clear hX hY
      go_enter Try.func8, Try.ntmps8
      go_wp2_with fail
      refine (A1.out _).mono ?_; rintro e w1 ⟨rfl, hb⟩
      have HB := Lib.hid (hb); clear hb
      go_wp2_with fail
      refine (A2.out _).mono ?_; rintro e w2 ⟨rfl, hb⟩
      have HB := Lib.hid (low_more HB.out hb); clear hb
      go_wp2_with fail
      refine (HF.out _).mono ?_; rintro e w3 ⟨rfl, hb⟩
      have HB := Lib.hid (low_more HB.out hb); clear hb
      go_wp2_with fail
      go_ret
      exact ⟨rfl, HB.out⟩
    · have g1 : ¬ X < Y := by omega
      have g2 : (X == Y) = false := beq_eq_false_iff_ne.2 (by omega)
      have g3 : (b == d) = false := beq_eq_false_iff_ne.2 h4
      clear hX hY
      go_enter Try.func8, Try.ntmps8
      go_wp2_with fail
      refine (A1.out _).mono ?_; rintro e w1 ⟨rfl, hb⟩
      have HB := Lib.hid (hb); clear hb
      go_wp2_with fail
      refine (A2.out _).mono ?_; rintro e w2 ⟨rfl, hb⟩
      have HB := Lib.hid (low_more HB.out hb); clear hb
      go_wp2_with fail
      refine (HF.out _).mono ?_; rintro e w3 ⟨rfl, hb⟩
      have HB := Lib.hid (low_more HB.out hb); clear hb
      go_wp2_with fail
      go_ret
      exact ⟨rfl, HB.out⟩
  · have g1 : ¬ X < Y := by omega
    have g2 : (X == Y) = false := beq_eq_false_iff_ne.2 (by omega)
    have g3 : (a == c) = false := beq_eq_false_iff_ne.2 h2
    clear hX hY
    go_enter Try.func8, Try.ntmps8
    go_wp2_with fail
    refine (A1.out _).mono ?_; rintro e w1 ⟨rfl, hb⟩
    have HB := Lib.hid (hb); clear hb
    go_wp2_with fail
    refine (A2.out _).mono ?_; rintro e w2 ⟨rfl, hb⟩
    have HB := Lib.hid (low_more HB.out hb); clear hb
    go_wp2_with fail
    refine (HF.out _).mono ?_; rintro e w3 ⟨rfl, hb⟩
    have HB := Lib.hid (low_more HB.out hb); clear hb
    go_wp2_with fail
    go_ret
    exact ⟨rfl, HB.out⟩

set_option maxRecDepth 100000 in
set_option maxHeartbeats 2000000 in
theorem cells_all (s : ByteArray) (f : Int) (hs : (s.size : Int) ≤ 9223372036854775807) (f0 : 0 ≤ f) (f1 : f ≤ 255) : Calls Try.prog 4 #[.string s, .int .u8 f] W fun e w' => e = .returned (.bool true) ∧ Below W.heap.size W w' := by
  have HF := Lib.hid (fixed_any K)
  by_cases hlen : (2000 : Int) < (s.size : Int)
  · clear K
    go_enter Try.func4, Try.ntmps4
    go_wp2_with fail
    refine (HF.out _).mono ?_; rintro e w1 ⟨rfl, hb⟩
    have HB := Lib.hid (hb); clear hb
    go_wp2_with fail
    go_ret
    exact ⟨rfl, HB.out⟩
  · have hsz : s.size ≤ 1000000 := by omega
    obtain ⟨n, hn⟩ : ∃ n, (cellsN (bytesL s)).length = n := ⟨_, rfl⟩
    have hnn : n ≤ 1000000 := by rw [← hn, cellsN_length, bytesL_length]; omega
    have hbt := back_text s
    have A2 := Lib.hid (fun w oa c h1 h2 h3 => K.bytes w oa c n (cellsN (bytesL s)) (s.size : Int) hn h1 h2 h3 hnn (cellsN_lt s) (by omega) hs)
    rw [hbt.1, hbt.2] at A2
    have A1 := Lib.hid (K.cells_of s _ n hsz rfl hn)
    have A3 := Lib.hid (ref_cells_of s _ n hsz rfl hn)
    have A4 := Lib.hid (fun w => K.key w f s f0 f1 hsz)
    have A5 := Lib.hid (fun w => ref_key w f s f0 f1 hsz)
    have HLn := Lib.hid hn
    clear hbt hn
    generalize cellsN (bytesL s) = L at A1 A2 A3 HLn
    generalize byteText (f.toNat :: bytesL s) = ky at A4 A5
    clear K hsz
    go_enter Try.func4, Try.ntmps4
    go_wp2_with fail
    refine (A1.out _).mono ?_; rintro e w1 ⟨oa, c, rfl, hc1, hc2, hr, hb⟩
    have HB := Lib.hid (hb); have HR := Lib.hid hr; clear hr; clear hb
    go_wp2_with fail
    refine (A2.out _ oa c HR.out hc1 hc2).mono ?_; rintro e w2 ⟨rfl, hb⟩
    have HR := Lib.hid (HR.out.below hb); have HB := Lib.hid (low_more HB.out hb); clear hb
    go_wp2_with fail
    refine (HF.out _).mono ?_; rintro e w3 ⟨rfl, hb⟩
    have HR := Lib.hid (HR.out.below hb); have HB := Lib.hid (low_more HB.out hb); clear hb
    go_wp2_with fail
    refine (A3.out _).mono ?_; rintro e w4 ⟨ob, d, rfl, _, _, hr, hb⟩
    have HR := Lib.hid (HR.out.below hb); have HB := Lib.hid (low_more HB.out hb); have HR2 := Lib.hid hr; clear hr; clear hb
    go_wp2_with fail
    refine (same32_at _ oa ob c d n n L L HLn.out HLn.out HR.out HR2.out (by omega)).mono ?_; rintro e w5 ⟨rfl, hb⟩
    have HB := Lib.hid (low_more HB.out hb); clear hb
    rw [show decide (L = L) = true by simp]
    go_wp2_with fail
    refine (A4.out _).mono ?_; rintro e w6 ⟨rfl, hb⟩
    have HB := Lib.hid (low_more HB.out hb); clear hb
    go_wp2_with fail
    refine (A5.out _).mono ?_; rintro e w7 ⟨rfl, hb⟩
    have HB := Lib.hid (low_more HB.out hb); clear hb
    go_wp2_with fail
    go_ret
    exact ⟨rfl, HB.out⟩

set_option maxRecDepth 100000 in
set_option maxHeartbeats 2000000 in
theorem bytes_all (oa : Option Addr) (c : Nat) (L : List Nat) (z : Int) (hR : ReadN .u32 W oa L) (hx : ∀ x ∈ L, x < 4294967296) (z0 : -9223372036854775808 ≤ z) (z1 : z ≤ 9223372036854775807) : Calls Try.prog 5 #[.slice oa L.length c, .int .i64 z] W fun e w' => e = .returned (.bool true) ∧ Below W.heap.size W w' := by
  have HF := Lib.hid (fixed_any K)
  obtain ⟨n, hn⟩ : ∃ n, L.length = n := ⟨_, rfl⟩
  rw [hn]
  by_cases hlen : (500 : Int) < (n : Int)
  · clear K
    go_enter Try.func5, Try.ntmps5
    go_wp2_with fail
    refine (HF.out _).mono ?_; rintro e w1 ⟨rfl, hb⟩
    have HB := Lib.hid (hb); clear hb
    go_wp2_with fail
    go_ret
    exact ⟨rfl, HB.out⟩
  · have HLn := Lib.hid hn
    have HR := Lib.hid hR
    have A1 := Lib.hid (fun w h => copy32_at w oa c n L hn (by omega) h)
    have A2 := Lib.hid (fun w ob c h1 h2 h3 => K.bytes w ob c n L z hn h1 h2 h3 (by omega) hx z0 z1)
    have A3 := Lib.hid (fun w h => ref_bytes w oa c n L z hn h (by omega) hx z0 z1)
    generalize bytesX L z = X at A2 A3
    generalize bytesE L z = E at A2 A3
    clear K hn hR hx
    go_enter Try.func5, Try.ntmps5
    go_wp2_with fail
    refine (A1.out _ HR.out).mono ?_; rintro e w1 ⟨rfl, hr, hb⟩
    have HR := Lib.hid (HR.out.below hb); have HB := Lib.hid (hb); have HR2 := Lib.hid hr; clear hr; clear hb
    go_wp2_with fail
    refine (A2.out _ _ n HR2.out (Nat.le_refl _) (by unfold maxLen; omega)).mono ?_; rintro e w2 ⟨rfl, hb⟩
    have HR := Lib.hid (HR.out.below hb); have HR2 := Lib.hid (HR2.out.below hb); have HB := Lib.hid (low_more HB.out hb); clear hb
    go_wp2_with fail
    refine (A3.out _ HR.out).mono ?_; rintro e w3 ⟨rfl, hb⟩
    have HR := Lib.hid (HR.out.below hb); have HR2 := Lib.hid (HR2.out.below hb); have HB := Lib.hid (low_more HB.out hb); clear hb
    go_wp2_with fail
    refine (HF.out _).mono ?_; rintro e w4 ⟨rfl, hb⟩
    have HR := Lib.hid (HR.out.below hb); have HR2 := Lib.hid (HR2.out.below hb); have HB := Lib.hid (low_more HB.out hb); clear hb
    go_wp2_with fail
    refine (same32_at _ _ oa n c n n L L HLn.out HLn.out HR2.out HR.out (by omega)).mono ?_; rintro e w5 ⟨rfl, hb⟩
    have HB := Lib.hid (low_more HB.out hb); clear hb
    rw [show decide (L = L) = true by simp]
    go_wp2_with fail
    go_ret
    exact ⟨rfl, HB.out⟩

set_option maxRecDepth 100000 in
set_option maxHeartbeats 2000000 in
theorem unlike_all (a b : ByteArray) (f : Int) (ha : (a.size : Int) ≤ 9223372036854775807) (hb : (b.size : Int) ≤ 9223372036854775807) (f0 : 0 ≤ f) (f1 : f ≤ 255) : Calls Try.prog 7 #[.string a, .string b, .int .u8 f] W fun e w' => e = .returned (.bool true) ∧ Below W.heap.size W w' := by
  have HF := Lib.hid (fixed_any K)
  by_cases hlen : (1000 : Int) < (a.size : Int)
  · clear K
    go_enter Try.func7, Try.ntmps7
    go_wp2_with fail
    refine (HF.out _).mono ?_; rintro e w1 ⟨rfl, hb⟩
    have HB := Lib.hid (hb); clear hb
    go_wp2_with fail
    go_ret
    exact ⟨rfl, HB.out⟩
  by_cases hl : (a.size : Int) ≠ (b.size : Int)
  · have hl2 : ((a.size : Int) != (b.size : Int)) = true := bne_iff_ne.2 hl
    clear K
    go_enter Try.func7, Try.ntmps7
    go_wp2_with fail
    refine (HF.out _).mono ?_; rintro e w1 ⟨rfl, hb⟩
    have HB := Lib.hid (hb); clear hb
    go_wp2_with fail
    go_ret
    exact ⟨rfl, HB.out⟩
  have hsz : a.size ≤ 1000000 := by omega
  have hsb : b.size ≤ 1000000 := by omega
  have hl2 : ((a.size : Int) != (b.size : Int)) = false := by simp; omega
  obtain ⟨n, hn⟩ : ∃ n, (cellsN (bytesL a)).length = n := ⟨_, rfl⟩
  have hnb : (cellsN (bytesL b)).length = n := by rw [← hn, cellsN_length, cellsN_length, bytesL_length, bytesL_length]; omega
  have hnn : n ≤ 1000000 := by rw [← hn, cellsN_length, bytesL_length]; omega
  by_cases he : a = b
  · subst he
    have A1 := Lib.hid (K.cells_of a _ n hsz rfl hn)
    have A2 := A1
    have A3 := Lib.hid (fun w => K.key w f a f0 f1 hsz)
    have HLn := Lib.hid hn
    clear hn hnb
    generalize cellsN (bytesL a) = A at A1 A2 HLn
    generalize byteText (f.toNat :: bytesL a) = ky at A3
    clear K hsz hsb
    go_enter Try.func7, Try.ntmps7
    go_wp2_with fail
    refine (HF.out _).mono ?_; rintro e w1 ⟨rfl, hb⟩
    have HB := Lib.hid (hb); clear hb
    go_wp2_with fail
    refine (A1.out _).mono ?_; rintro e w2 ⟨oa, c, rfl, _, _, hr, hb⟩
    have HB := Lib.hid (low_more HB.out hb); have HR := Lib.hid hr; clear hr; clear hb
    go_wp2_with fail
    refine (A2.out _).mono ?_; rintro e w3 ⟨ob, d, rfl, _, _, hr, hb⟩
    have HR := Lib.hid (HR.out.below hb); have HB := Lib.hid (low_more HB.out hb); have HR2 := Lib.hid hr; clear hr; clear hb
    go_wp2_with fail
    refine (same32_at _ oa ob c d n n A A HLn.out HLn.out HR.out HR2.out (by omega)).mono ?_; rintro e w4 ⟨rfl, hb⟩
    have HB := Lib.hid (low_more HB.out hb); clear hb
    rw [show decide (A = A) = true by simp]
    go_wp2_with fail
    refine (A3.out _).mono ?_; rintro e w5 ⟨rfl, hb⟩
    have HB := Lib.hid (low_more HB.out hb); clear hb
    go_wp2_with fail
    refine (A3.out _).mono ?_; rintro e w6 ⟨rfl, hb⟩
    have HB := Lib.hid (low_more HB.out hb); clear hb
    go_wp2_with fail
    go_ret
    exact ⟨rfl, HB.out⟩
  · have q1 := list_ne he
    have hbl : ¬ bytesL a = bytesL b := fun h => he (bytesL_inj h)
    have hk : ¬ byteText (f.toNat :: bytesL a) = byteText (f.toNat :: bytesL b) := by
      intro h
      have h2 := congrArg bytesL h
      rw [bytesL_byteText _ (key_lt f0 f1 a), bytesL_byteText _ (key_lt f0 f1 b)] at h2
      injection h2 with _ h3
      exact hbl h3
    have q2 := list_ne hk
    have hcn : ¬ cellsN (bytesL a) = cellsN (bytesL b) := fun h => hbl (pack_unlike (bytesL_lt a) (bytesL_lt b) (by rw [bytesL_length, bytesL_length]; omega) h)
    have A1 := Lib.hid (K.cells_of a _ n hsz rfl hn)
    have A2 := Lib.hid (K.cells_of b _ n hsb rfl hnb)
    have A3 := Lib.hid (fun w => K.key w f a f0 f1 hsz)
    have A4 := Lib.hid (fun w => K.key w f b f0 f1 hsb)
    have HLn := Lib.hid (And.intro hn hnb)
    have HNe := Lib.hid hcn
    clear hn hnb hk hbl hcn
    generalize cellsN (bytesL a) = A at A1 HLn HNe
    generalize cellsN (bytesL b) = B at A2 HLn HNe
    generalize byteText (f.toNat :: bytesL a) = ka at A3 q2
    generalize byteText (f.toNat :: bytesL b) = kb at A4 q2
    clear K hsz hsb he
    go_enter Try.func7, Try.ntmps7
    go_wp2_with fail
    refine (HF.out _).mono ?_; rintro e w1 ⟨rfl, hb⟩
    have HB := Lib.hid (hb); clear hb
    go_wp2_with fail
    refine (A1.out _).mono ?_; rintro e w2 ⟨oa, c, rfl, _, _, hr, hb⟩
    have HB := Lib.hid (low_more HB.out hb); have HR := Lib.hid hr; clear hr; clear hb
    go_wp2_with fail
    refine (A2.out _).mono ?_; rintro e w3 ⟨ob, d, rfl, _, _, hr, hb⟩
    have HR := Lib.hid (HR.out.below hb); have HB := Lib.hid (low_more HB.out hb); have HR2 := Lib.hid hr; clear hr; clear hb
    go_wp2_with fail
    refine (same32_at _ oa ob c d n n A B HLn.out.1 HLn.out.2 HR.out HR2.out (by omega)).mono ?_; rintro e w4 ⟨rfl, hb⟩
    have HB := Lib.hid (low_more HB.out hb); clear hb
    rw [show decide (A = B) = false by simpa using HNe.out]
    go_wp2_with fail
    refine (A3.out _).mono ?_; rintro e w5 ⟨rfl, hb⟩
    have HB := Lib.hid (low_more HB.out hb); clear hb
    go_wp2_with fail
    refine (A4.out _).mono ?_; rintro e w6 ⟨rfl, hb⟩
    have HB := Lib.hid (low_more HB.out hb); clear hb
    go_wp2_with fail
    go_ret
    exact ⟨rfl, HB.out⟩

end
end Go.Proofs.Ytinlfnkopkbbjaa
