/-
  Letters out of bytes and back, without the program's text: the model's own decoding, said of four numbers; there and back; text and runes as lists.
-/
import Derived.Test.YtaaeooimalglaaaDoorKit
import Derived.Laws.RangeAny
import Derived.Laws.Runes
namespace Go.Proofs.YtaaeooimalglaaaDoor
open Go.RowKit

def okR (x : Nat) : Prop := x < 55296 ∨ (57344 ≤ x ∧ x ≤ 1114111)
instance (x : Nat) : Decidable (okR x) := by unfold okR; exact inferInstance
/-- The rune that four bytes begin with (0 for a byte that is not there), and its length. -/
def dec4 (a b c d : Nat) : Nat × Nat :=
  if a < 128 then (a, 1)
  else if a / 32 = 6 ∧ b / 64 = 2 then (if 128 ≤ a % 32 * 64 + b % 64 then (a % 32 * 64 + b % 64, 2) else (65533, 1))
  else if a / 16 = 14 ∧ b / 64 = 2 ∧ c / 64 = 2 then (if 2048 ≤ a % 16 * 4096 + b % 64 * 64 + c % 64 ∧ okR (a % 16 * 4096 + b % 64 * 64 + c % 64) then (a % 16 * 4096 + b % 64 * 64 + c % 64, 3) else (65533, 1))
  else if a / 8 = 30 ∧ b / 64 = 2 ∧ c / 64 = 2 ∧ d / 64 = 2 then (if 65536 ≤ a % 8 * 262144 + b % 64 * 4096 + c % 64 * 64 + d % 64 ∧ okR (a % 8 * 262144 + b % 64 * 4096 + c % 64 * 64 + d % 64) then (a % 8 * 262144 + b % 64 * 4096 + c % 64 * 64 + d % 64, 4) else (65533, 1))
  else (65533, 1)
/-- A rune's bytes. -/
def encR (r : Nat) : List Nat :=
  if r < 128 then [r] else if r < 2048 then [192 + r / 64, 128 + r % 64] else if r < 65536 then [224 + r / 4096, 128 + r / 64 % 64, 128 + r % 64] else [240 + r / 262144, 128 + r / 4096 % 64, 128 + r / 64 % 64, 128 + r % 64]

set_option maxRecDepth 100000 in
theorem dec4_len (a b c d : Nat) : 1 ≤ (dec4 a b c d).2 ∧ (dec4 a b c d).2 ≤ 4 := by
  unfold dec4
  repeat' split
  all_goals exact ⟨by simp, by simp⟩
set_option maxRecDepth 100000 in
theorem dec4_ok (a b c d : Nat) : okR (dec4 a b c d).1 := by
  unfold dec4
  repeat' split
  all_goals (unfold okR at *; simp only; omega)
set_option maxRecDepth 100000 in
/-- A rune's own bytes are read as it, whatever stands behind. -/
theorem dec4_enc {r : Nat} (h : okR r) (x y z : Nat) : dec4 ((encR r ++ [x, y, z]).getD 0 0) ((encR r ++ [x, y, z]).getD 1 0) ((encR r ++ [x, y, z]).getD 2 0) ((encR r ++ [x, y, z]).getD 3 0) = (r, (encR r).length) := by
  unfold encR
  split
  · rename_i h1; simp [dec4, h1]
  · split
    · simp only [List.cons_append, List.nil_append, List.getD_cons_zero, List.getD_cons_succ, List.length_cons, List.length_nil]
      have h1 : ¬ 192 + r / 64 < 128 := by omega
      have h2 : (192 + r / 64) / 32 = 6 ∧ (128 + r % 64) / 64 = 2 := by omega
      have h3 : (192 + r / 64) % 32 * 64 + (128 + r % 64) % 64 = r := by omega
      have h4 : 128 ≤ r := by omega
      simp only [dec4, h1, if_false, if_pos h2, h3, if_pos h4]
    · split
      · simp only [List.cons_append, List.nil_append, List.getD_cons_zero, List.getD_cons_succ, List.length_cons, List.length_nil]
        have h1 : ¬ 224 + r / 4096 < 128 := by omega
        have h2 : ¬ ((224 + r / 4096) / 32 = 6 ∧ (128 + r / 64 % 64) / 64 = 2) := by omega
        have h2' : (224 + r / 4096) / 16 = 14 ∧ (128 + r / 64 % 64) / 64 = 2 ∧ (128 + r % 64) / 64 = 2 := by omega
        have h3 : (224 + r / 4096) % 16 * 4096 + (128 + r / 64 % 64) % 64 * 64 + (128 + r % 64) % 64 = r := by omega
        have h4 : 2048 ≤ r ∧ okR r := ⟨by omega, h⟩
        simp only [dec4, h1, if_false, if_neg h2, if_pos h2', h3, if_pos h4]
      · simp only [List.cons_append, List.nil_append, List.getD_cons_zero, List.getD_cons_succ, List.length_cons, List.length_nil]
        have hb : r ≤ 1114111 := by unfold okR at h; omega
        have h1 : ¬ 240 + r / 262144 < 128 := by omega
        have h2 : ¬ ((240 + r / 262144) / 32 = 6 ∧ (128 + r / 4096 % 64) / 64 = 2) := by omega
        have h2' : ¬ ((240 + r / 262144) / 16 = 14 ∧ (128 + r / 4096 % 64) / 64 = 2 ∧ (128 + r / 64 % 64) / 64 = 2) := by omega
        have h2'' : (240 + r / 262144) / 8 = 30 ∧ (128 + r / 4096 % 64) / 64 = 2 ∧ (128 + r / 64 % 64) / 64 = 2 ∧ (128 + r % 64) / 64 = 2 := by omega
        have h3 : (240 + r / 262144) % 8 * 262144 + (128 + r / 4096 % 64) % 64 * 4096 + (128 + r / 64 % 64) % 64 * 64 + (128 + r % 64) % 64 = r := by omega
        have h4 : 65536 ≤ r ∧ okR r := ⟨by omega, h⟩
        simp only [dec4, h1, if_false, if_neg h2, if_neg h2', if_pos h2'', h3, if_pos h4]
set_option maxRecDepth 100000 in
/-- What is read as a rune, not for want of one, is its bytes. -/
theorem enc_dec4 {a b c d r k : Nat} (ha : a < 256) (h : dec4 a b c d = (r, k)) (hr : r ≠ 65533) : encR r = [a, b, c, d].take k := by
  unfold dec4 at h
  split at h
  · simp only [Prod.mk.injEq] at h
    obtain ⟨rfl, rfl⟩ := h
    simp [encR, *]
  · split at h
    · split at h
      · simp only [Prod.mk.injEq] at h
        obtain ⟨h1, rfl⟩ := h
        have e1 : ¬ r < 128 := by omega
        have e2 : r < 2048 := by omega
        have e3 : 192 + r / 64 = a := by omega
        have e4 : 128 + r % 64 = b := by omega
        simp [encR, e1, e2, e3, e4]
      · simp only [Prod.mk.injEq] at h; omega
    · split at h
      · split at h
        · simp only [Prod.mk.injEq] at h
          obtain ⟨h1, rfl⟩ := h
          have e1 : ¬ r < 128 := by omega
          have e2 : ¬ r < 2048 := by omega
          have e2' : r < 65536 := by omega
          have e3 : 224 + r / 4096 = a := by omega
          have e4 : 128 + r / 64 % 64 = b := by omega
          have e5 : 128 + r % 64 = c := by omega
          simp [encR, e1, e2, e2', e3, e4, e5]
        · simp only [Prod.mk.injEq] at h; omega
      · split at h
        · split at h
          · simp only [Prod.mk.injEq] at h
            obtain ⟨h1, rfl⟩ := h
            have e1 : ¬ r < 128 := by omega
            have e2 : ¬ r < 2048 := by omega
            have e2' : ¬ r < 65536 := by omega
            have e3 : 240 + r / 262144 = a := by omega
            have e4 : 128 + r / 4096 % 64 = b := by omega
            have e5 : 128 + r / 64 % 64 = c := by omega
            have e6 : 128 + r % 64 = d := by omega
            simp [encR, e1, e2, e2', e3, e4, e5, e6]
          · simp only [Prod.mk.injEq] at h; omega
        · simp only [Prod.mk.injEq] at h; omega
set_option maxRecDepth 100000 in
/-- No more is read than what there is, where what is not there is 0. -/
theorem dec4_in (a b c d : Nat) : (2 ≤ (dec4 a b c d).2 → b ≠ 0) ∧ (3 ≤ (dec4 a b c d).2 → c ≠ 0) ∧ (4 ≤ (dec4 a b c d).2 → d ≠ 0) := by
  unfold dec4
  repeat' split
  all_goals exact ⟨fun h => by simp at h; try omega, fun h => by simp at h; try omega, fun h => by simp at h; try omega⟩
set_option maxRecDepth 100000 in
/-- Behind a byte below 128 nothing is asked. -/
theorem dec4_cut (a b c d : Nat) : (b < 128 → dec4 a b c d = dec4 a 0 0 0) ∧ (c < 128 → dec4 a b c d = dec4 a b 0 0) ∧ (d < 128 → dec4 a b c d = dec4 a b c 0) := by
  refine ⟨fun h => ?_, fun h => ?_, fun h => ?_⟩
  · have h2 : ¬ b / 64 = 2 := by omega
    simp [dec4, h2]
  · have h2 : ¬ c / 64 = 2 := by omega
    simp [dec4, h2]
  · have h2 : ¬ d / 64 = 2 := by omega
    simp [dec4, h2]

/-! ### Texts -/
/-- Byte i of a text, 0 where there is none. -/
def byteAt (s : ByteArray) (i : Nat) : Nat := (s.data.toList.getD i 0).toNat
set_option maxRecDepth 100000 in
theorem byteAt_lt (s : ByteArray) (i : Nat) : byteAt s i < 256 := (s.data.toList.getD i 0).toNat_lt
set_option maxRecDepth 100000 in
theorem get_byte (s : ByteArray) (i : Nat) : (s.get! i).toNat = byteAt s i := by
  unfold byteAt
  congr 1
  simp [ByteArray.get!, getElem!_def, Array.getElem?_toList, List.getD_eq_getElem?_getD]
  cases h : s.data[i]? <;> simp <;> rfl
set_option maxRecDepth 100000 in
theorem byteAt_out {s : ByteArray} {i : Nat} (h : s.size ≤ i) : byteAt s i = 0 := by
  unfold byteAt
  have : s.data.toList.length ≤ i := by simpa using h
  simp [List.getD_eq_getElem?_getD, List.getElem?_eq_none this]
def decAt (s : ByteArray) (i : Nat) : Nat × Nat := dec4 (byteAt s i) (byteAt s (i + 1)) (byteAt s (i + 2)) (byteAt s (i + 3))
set_option maxRecDepth 100000 in
theorem valid_okR (c : Nat) : Utf8.valid (c : Int) = decide (okR c) := by
  rw [Bool.eq_iff_iff, decide_eq_true_iff]
  unfold okR
  simp only [Utf8.valid, Bool.or_eq_true, Bool.and_eq_true, decide_eq_true_eq]
  omega
set_option maxRecDepth 100000 in
/-- The model's decoding, said of four bytes. -/
theorem decode_eq (s : ByteArray) (i : Nat) : Utf8.decode s i = decAt s i := by
  have hc : ∀ k, (i + k < s.size ∧ byteAt s (i + k) / 64 = 2) ↔ byteAt s (i + k) / 64 = 2 := by
    intro k
    refine ⟨fun h => h.2, fun h => ⟨?_, h⟩⟩
    by_cases hk : i + k < s.size
    · exact hk
    · rw [byteAt_out (by omega)] at h; omega
  simp only [Utf8.decode, get_byte, Nat.add_zero, valid_okR, Bool.and_eq_true, beq_iff_eq, decide_eq_true_eq, hc, and_assoc, ge_iff_le, Utf8.runeError]
  rfl
end Go.Proofs.YtaaeooimalglaaaDoor
