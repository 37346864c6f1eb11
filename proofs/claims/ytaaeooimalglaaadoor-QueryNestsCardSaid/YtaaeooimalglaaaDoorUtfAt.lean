/-
  The reference of layer 4: the rune at a place. Over the program's own text.
-/
import Derived.Test.YtaaeooimalglaaaDoorUtfRef
namespace Go.Proofs.YtaaeooimalglaaaDoor
open Go.RowKit

/-- What at answers: nothing where no rune's bytes stand. -/
def atR (s : ByteArray) (i : Nat) : Nat × Nat := if decAt s i = (65533, 1) then (0, 0) else decAt s i
/-- What a first byte tells: the number so far, and how many bytes. -/
def Start (b n k : Nat) : Prop := (k = 0 ∧ 128 ≤ b ∧ (b < 192 ∨ 248 ≤ b)) ∨ (k = 2 ∧ 192 ≤ b ∧ b < 224 ∧ n = b - 192) ∨ (k = 3 ∧ 224 ≤ b ∧ b < 240 ∧ n = b - 224) ∨ (k = 4 ∧ 240 ≤ b ∧ b < 248 ∧ n = b - 240)
/-- Behind j bytes. -/
def accU (s : ByteArray) (i n0 : Nat) : Nat → Nat
  | 0 => n0
  | 1 => n0
  | j + 2 => accU s i n0 (j + 1) * 64 + byteAt s (i + (j + 1)) % 64
def Conts (s : ByteArray) (i j : Nat) : Prop := ∀ t, 1 ≤ t → t < j → byteAt s (i + t) / 64 = 2
def Bnd (d n : Nat) : Prop := (d = 0 → n ≤ 2097151) ∧ (d = 1 → n ≤ 32767) ∧ (d = 2 → n ≤ 511) ∧ (d = 3 → n ≤ 7)

set_option maxRecDepth 100000 in
theorem okR_small {x : Nat} (h : x < 2048) : okR x := by unfold okR; omega
set_option maxRecDepth 100000 in
theorem at_none {s : ByteArray} {i n k : Nat} (h : Start (byteAt s i) n k) (hk : k = 0 ∨ s.size < i + k) : atR s i = (0, 0) := by
  unfold atR
  rw [if_pos]
  unfold decAt dec4
  have ho : ∀ j, s.size ≤ j → byteAt s j = 0 := fun j hj => byteAt_out hj
  generalize byteAt s i = b at *
  rcases h with ⟨rfl, h1, h2⟩ | ⟨rfl, h1, h2, _⟩ | ⟨rfl, h1, h2, _⟩ | ⟨rfl, h1, h2, _⟩
  · have e1 : ¬ b < 128 := by omega
    have e2 : ¬ b / 32 = 6 := by omega
    have e3 : ¬ b / 16 = 14 := by omega
    have e4 : ¬ b / 8 = 30 := by omega
    simp [e1, e2, e3, e4]
  · have e1 : ¬ b < 128 := by omega
    have e3 : ¬ b / 16 = 14 := by omega
    have e4 : ¬ b / 8 = 30 := by omega
    simp [e1, e3, e4, ho (i + 1) (by omega)]
  · have e1 : ¬ b < 128 := by omega
    have e2 : ¬ b / 32 = 6 := by omega
    have e4 : ¬ b / 8 = 30 := by omega
    simp [e1, e2, e4, ho (i + 2) (by omega)]
  · have e1 : ¬ b < 128 := by omega
    have e2 : ¬ b / 32 = 6 := by omega
    have e3 : ¬ b / 16 = 14 := by omega
    simp [e1, e2, e3, ho (i + 3) (by omega)]
set_option maxRecDepth 100000 in
theorem at_bad {s : ByteArray} {i n k j : Nat} (h : Start (byteAt s i) n k) (h1 : 1 ≤ j) (hj : j < k) (hc : ¬ byteAt s (i + j) / 64 = 2) : atR s i = (0, 0) := by
  unfold atR
  rw [if_pos]
  unfold decAt dec4
  generalize byteAt s i = b at *
  rcases h with ⟨rfl, _⟩ | ⟨rfl, h1, h2, _⟩ | ⟨rfl, h1, h2, _⟩ | ⟨rfl, h1, h2, _⟩
  · omega
  · obtain rfl : j = 1 := by omega
    have e1 : ¬ b < 128 := by omega
    have e3 : ¬ b / 16 = 14 := by omega
    have e4 : ¬ b / 8 = 30 := by omega
    simp [e1, e3, e4, hc]
  · have e1 : ¬ b < 128 := by omega
    have e2 : ¬ b / 32 = 6 := by omega
    have e4 : ¬ b / 8 = 30 := by omega
    rcases (show j = 1 ∨ j = 2 by omega) with rfl | rfl <;> simp [e1, e2, e4, hc]
  · have e1 : ¬ b < 128 := by omega
    have e2 : ¬ b / 32 = 6 := by omega
    have e3 : ¬ b / 16 = 14 := by omega
    rcases (show j = 1 ∨ j = 2 ∨ j = 3 by omega) with rfl | rfl | rfl <;> simp [e1, e2, e3, hc]
set_option maxRecDepth 100000 in
theorem encR_length (n : Nat) : (encR n).length = if n < 128 then 1 else if n < 2048 then 2 else if n < 65536 then 3 else 4 := by
  unfold encR
  repeat' split
  all_goals rfl
set_option maxRecDepth 100000 in
theorem at_good {s : ByteArray} {i n k : Nat} (h : Start (byteAt s i) n k) (hk : k ≠ 0) (hc : Conts s i k) : atR s i = if okR (accU s i n k) ∧ (encR (accU s i n k)).length = k then (accU s i n k, k) else (0, 0) := by
  unfold atR decAt dec4
  have hb : ∀ j, byteAt s j < 256 := byteAt_lt s
  have hb0 := hb i
  generalize byteAt s i = b at *
  rw [encR_length]
  rcases h with ⟨rfl, _⟩ | ⟨rfl, h1, h2, hn⟩ | ⟨rfl, h1, h2, hn⟩ | ⟨rfl, h1, h2, hn⟩
  · exact absurd rfl hk
  · have c1 := hc 1 (by omega) (by omega)
    have e1 : ¬ b < 128 := by omega
    have e2 : b / 32 = 6 := by omega
    have e3 : b % 32 * 64 + byteAt s (i + 1) % 64 = n * 64 + byteAt s (i + 1) % 64 := by omega
    simp only [accU, Nat.zero_add, e1, e2, c1, and_self, if_true, if_false, e3]
    generalize hx : n * 64 + byteAt s (i + 1) % 64 = x
    have hx2 : x < 2048 := by omega
    by_cases h3 : 128 ≤ x
    · have h4 : ¬ x < 128 := by omega
      have h5 : okR x := okR_small hx2
      simp [h3, h4, h5, hx2]
    · have h4 : x < 128 := by omega
      simp [h3, h4]
  · have c1 := hc 1 (by omega) (by omega)
    have c2 := hc 2 (by omega) (by omega)
    have e1 : ¬ b < 128 := by omega
    have e2 : ¬ b / 32 = 6 := by omega
    have e2' : b / 16 = 14 := by omega
    have e3 : b % 16 * 4096 + byteAt s (i + 1) % 64 * 64 + byteAt s (i + 2) % 64 = (n * 64 + byteAt s (i + 1) % 64) * 64 + byteAt s (i + 2) % 64 := by omega
    simp only [accU, Nat.zero_add, Nat.reduceAdd, e1, e2, e2', c1, c2, and_self, false_and, if_true, if_false, e3]
    generalize hx : (n * 64 + byteAt s (i + 1) % 64) * 64 + byteAt s (i + 2) % 64 = x
    have hx2 : x < 65536 := by omega
    by_cases h3 : 2048 ≤ x ∧ okR x
    · have h4 : ¬ x < 128 := by omega
      have h5 : ¬ x < 2048 := by omega
      simp [h3, h4, h5, hx2]
    · rw [if_neg h3]
      have h4 : ¬ (okR x ∧ (if x < 128 then 1 else if x < 2048 then 2 else if x < 65536 then 3 else 4) = 3) := by
        rintro ⟨h5, h6⟩
        split at h6
        · omega
        · split at h6
          · omega
          · exact h3 ⟨by omega, h5⟩
      rw [if_neg h4]
      simp
  · have c1 := hc 1 (by omega) (by omega)
    have c2 := hc 2 (by omega) (by omega)
    have c3 := hc 3 (by omega) (by omega)
    have e1 : ¬ b < 128 := by omega
    have e2 : ¬ b / 32 = 6 := by omega
    have e2' : ¬ b / 16 = 14 := by omega
    have e2'' : b / 8 = 30 := by omega
    have e3 : b % 8 * 262144 + byteAt s (i + 1) % 64 * 4096 + byteAt s (i + 2) % 64 * 64 + byteAt s (i + 3) % 64 = ((n * 64 + byteAt s (i + 1) % 64) * 64 + byteAt s (i + 2) % 64) * 64 + byteAt s (i + 3) % 64 := by omega
    simp only [accU, Nat.zero_add, Nat.reduceAdd, e1, e2, e2', e2'', c1, c2, c3, and_self, false_and, if_true, if_false, e3]
    generalize hx : ((n * 64 + byteAt s (i + 1) % 64) * 64 + byteAt s (i + 2) % 64) * 64 + byteAt s (i + 3) % 64 = x
    by_cases h3 : 65536 ≤ x ∧ okR x
    · have h4 : ¬ x < 128 := by omega
      have h5 : ¬ x < 2048 := by omega
      have h6 : ¬ x < 65536 := by omega
      simp [h3, h4, h5, h6]
    · rw [if_neg h3]
      have h4 : ¬ (okR x ∧ (if x < 128 then 1 else if x < 2048 then 2 else if x < 65536 then 3 else 4) = 4) := by
        rintro ⟨h5, h6⟩
        split at h6
        · omega
        · split at h6
          · omega
          · split at h6
            · omega
            · exact h3 ⟨by omega, h5⟩
      rw [if_neg h4]
      simp
set_option maxRecDepth 100000 in
theorem at_low {s : ByteArray} {i : Nat} (h : byteAt s i < 128) : atR s i = (byteAt s i, 1) := by
  have e : decAt s i = (byteAt s i, 1) := by unfold decAt dec4; rw [if_pos h]
  unfold atR
  rw [e, if_neg]
  intro h2
  simp only [Prod.mk.injEq] at h2
  omega
end Go.Proofs.YtaaeooimalglaaaDoor
