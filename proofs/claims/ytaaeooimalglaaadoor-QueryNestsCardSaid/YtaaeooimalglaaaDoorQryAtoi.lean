/-
  A limit's word as the library reads it. Without the program's text.
-/
import Derived.Test.YtaaeooimalglaaaDoorQryMay
import Derived.Lib.AtoiAll
import Derived.Lib.ItoaNum
namespace Go.Proofs.YtaaeooimalglaaaDoor

def byte8 (l : List Nat) : List UInt8 := l.map UInt8.ofNat
set_option maxRecDepth 100000 in
theorem dec_small {n : Nat} (h : n < 100) : Lib.decDigits n = byte8 (digitsL (n : Int)) := by
  unfold digitsL
  by_cases h1 : n < 10
  · rw [Lib.decDigits, dif_pos h1, if_pos (by omega)]
    simp [byte8]
  · rw [Lib.decDigits, dif_neg h1, Lib.decDigits, dif_pos (by omega), if_neg (by omega)]
    have e1 : ((n : Int)).toNat = n := by omega
    simp [byte8, e1]
set_option maxRecDepth 100000 in
theorem atoi_digits : ∀ n : Nat, n ≤ 64 → Lib.atoiAll (byte8 (digitsL (n : Int))) = .ok (n : Int) := by decide +kernel
set_option maxRecDepth 100000 in
theorem digits_low : ∀ n : Nat, n ≤ 64 → ∀ c ∈ digitsL (n : Int), c < 128 := by decide +kernel
set_option maxRecDepth 100000 in
theorem text_low {l : List Nat} (h : ∀ c ∈ l, c < 128) : (textZ (ints l)).data.toList = byte8 l := by
  rw [textZ_ints fun r hr => ok_low (h r hr), textL_low h]
  simp [byteText, byte8]
set_option maxRecDepth 100000 in
theorem lim_some {q : List Nat} (h : ¬ limZ q = -1) : ∃ n : Nat, n ≤ 64 ∧ limZ q = (n : Int) ∧ q = digitsL (n : Int) := by
  match q, h with
  | [], h => exact absurd rfl h
  | [a], h =>
    simp only [limZ] at h ⊢
    split at h
    · rename_i ha
      refine ⟨a - 48, by omega, ?_, ?_⟩
      · rw [if_pos ha]; omega
      · unfold digitsL
        rw [if_pos (by omega)]
        congr 1
        omega
    · exact absurd rfl h
  | [a, b], h =>
    simp only [limZ] at h ⊢
    split at h
    · rename_i ha
      refine ⟨10 * (a - 48) + (b - 48), by omega, ?_, ?_⟩
      · rw [if_pos ha]; omega
      · unfold digitsL
        rw [if_neg (by omega)]
        have e : (((10 * (a - 48) + (b - 48) : Nat) : Int)).toNat = 10 * (a - 48) + (b - 48) := by omega
        rw [e]
        congr 1
        · omega
        · congr 1
          omega
    · exact absurd rfl h
  | a :: b :: c :: q, h => exact absurd rfl h
set_option maxRecDepth 100000 in
theorem lim_digits {q : List Nat} {n : Nat} (hn : n ≤ 64) (h : q = digitsL (n : Int)) : limZ q = (n : Int) := by rw [h]; exact (digits_let n hn).2.2
set_option maxRecDepth 100000 in
theorem head_enc {c : Nat} (h : okR c) (hc : letB c = true) : ∃ b r, encR c = b :: r ∧ b ≠ 45 ∧ b < 256 := by
  have h45 : c ≠ 45 := by rintro rfl; revert hc; decide +kernel
  unfold okR at h
  unfold encR
  split
  · exact ⟨_, _, rfl, h45, by omega⟩
  · split
    · exact ⟨_, _, rfl, by omega, by omega⟩
    · split
      · exact ⟨_, _, rfl, by omega, by omega⟩
      · exact ⟨_, _, rfl, by omega, by omega⟩
set_option maxRecDepth 100000 in
/-- What is read of a word is no number below 0. -/
theorem atoi_word {q : List Nat} (hq : ∀ c ∈ q, okR c ∧ letB c = true) {v : Int} (h : Lib.atoiAll (textZ (ints q)).data.toList = .ok v) : 0 ≤ v := by
  rw [textZ_ints fun c hc => (hq c hc).1] at h
  cases q with
  | nil => simp [byteText, textL, Lib.atoiAll] at h
  | cons c q =>
    obtain ⟨b, r, e, hb, hb2⟩ := head_enc (hq c (by simp)).1 (hq c (by simp)).2
    have e2 : (byteText (textL (c :: q))).data.toList = UInt8.ofNat b :: byte8 (r ++ textL q) := by
      show (((encR c ++ textL q)).map UInt8.ofNat).toArray.toList = _
      rw [e]; rfl
    rw [e2] at h
    have hn : ¬ (UInt8.ofNat b).toNat = 45 := by
      rw [UInt8.toNat_ofNat_of_lt' (by omega)]; exact hb
    unfold Lib.atoiAll at h
    simp only [hn] at h
    split at h
    · cases h
    · cases h
    · split at h
      · cases h
      · split at h
        · cases h
        · injection h with h
          simp at h
          omega
set_option maxRecDepth 100000 in
/-- A word that is the numeral of a number of at most 64 is a limit's. -/
theorem lim_none {q : List Nat} (hq : ∀ c ∈ q, okR c) (h : limZ q = -1) {n : Nat} (hn : n ≤ 64) : (⟨(Lib.decDigits n).toArray⟩ : ByteArray) ≠ textZ (ints q) := by
  intro e
  have e2 : runesOf (textZ (ints q)) = q := by rw [runes_textZ, norm_ints hq]
  have e3 : (⟨(Lib.decDigits n).toArray⟩ : ByteArray) = textZ (ints (digitsL (n : Int))) := by
    have := text_low (digits_low n hn)
    rw [dec_small (by omega), ← this]
  rw [← e, e3, runes_textZ, norm_ints fun c hc => ok_low (digits_low n hn c hc)] at e2
  rw [lim_digits hn e2.symm] at h
  omega
set_option maxRecDepth 100000 in
theorem lim_text {n : Nat} (hn : n ≤ 64) : textZ (ints (digitsL (n : Int))) = ⟨(Lib.decDigits n).toArray⟩ := by
  have := text_low (digits_low n hn)
  rw [dec_small (by omega), ← this]
set_option maxRecDepth 100000 in
theorem lim_atoi {n : Nat} (hn : n ≤ 64) : Lib.atoiAll (textZ (ints (digitsL (n : Int)))).data.toList = .ok (n : Int) := by
  rw [text_low (digits_low n hn)]
  exact atoi_digits n hn
end Go.Proofs.YtaaeooimalglaaaDoor
