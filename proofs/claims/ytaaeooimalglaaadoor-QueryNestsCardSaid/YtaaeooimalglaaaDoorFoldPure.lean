/-
  Letters, digits and what a number folds to, without the program's text: once is enough, no more than three fold to one, what is no letter stays.
-/
import Derived.Test.YtaaeooimalglaaaDoorKit
namespace Go.Proofs.YtaaeooimalglaaaDoor

def digitZ (r : Int) : Prop := (48 ≤ r ∧ r ≤ 57) ∨ (1632 ≤ r ∧ r ≤ 1641)
def letterZ (r : Int) : Prop := (65 ≤ r ∧ r ≤ 90) ∨ (97 ≤ r ∧ r ≤ 122) ∨ (192 ≤ r ∧ r ≤ 591 ∧ r ≠ 215 ∧ r ≠ 247) ∨ r = 902 ∨ (904 ≤ r ∧ r ≤ 906) ∨ r = 908 ∨ (910 ≤ r ∧ r ≤ 929) ∨ (931 ≤ r ∧ r ≤ 974) ∨
  (1024 ≤ r ∧ r ≤ 1153) ∨ (1162 ≤ r ∧ r ≤ 1327) ∨ (1488 ≤ r ∧ r ≤ 1514) ∨ (19968 ≤ r ∧ r ≤ 40959) ∨ (44032 ≤ r ∧ r ≤ 55203)
instance (r : Int) : Decidable (digitZ r) := by unfold digitZ; exact inferInstance
instance (r : Int) : Decidable (letterZ r) := by unfold letterZ; exact inferInstance
def classZ (r : Int) : Int := if digitZ r then 2 else if letterZ r then 1 else 0
def upZ (r : Int) : Prop := (65 ≤ r ∧ r ≤ 90) ∨ (192 ≤ r ∧ r ≤ 222 ∧ r ≠ 215) ∨ (913 ≤ r ∧ r ≤ 939 ∧ r ≠ 930) ∨ (1040 ≤ r ∧ r ≤ 1071)
def evenZ (r : Int) : Prop := (256 ≤ r ∧ r ≤ 311) ∨ (330 ≤ r ∧ r ≤ 375) ∨ (1120 ≤ r ∧ r ≤ 1153) ∨ (1162 ≤ r ∧ r ≤ 1215) ∨ (1232 ≤ r ∧ r ≤ 1327)
def oddZ (r : Int) : Prop := (313 ≤ r ∧ r ≤ 328) ∨ (377 ≤ r ∧ r ≤ 382)
instance (r : Int) : Decidable (upZ r) := by unfold upZ; exact inferInstance
instance (r : Int) : Decidable (evenZ r) := by unfold evenZ; exact inferInstance
instance (r : Int) : Decidable (oddZ r) := by unfold oddZ; exact inferInstance
def foldZ (r : Int) : Int :=
  if upZ r then r + 32
  else if (evenZ r ∧ r % 2 = 0) ∨ (oddZ r ∧ r % 2 = 1) then r + 1
  else if r = 376 then 255 else if r = 383 then 115 else if r = 902 then 940 else if r = 908 then 972 else if r = 962 then 963
  else if 904 ≤ r ∧ r ≤ 906 then r + 37 else if 910 ≤ r ∧ r ≤ 911 then r + 63 else if 1024 ≤ r ∧ r ≤ 1039 then r + 80 else if 1632 ≤ r ∧ r ≤ 1641 then r - 1584
  else r

set_option maxRecDepth 100000 in
theorem fold_far {r : Int} (h : r < 0 ∨ 1641 < r) : foldZ r = r := by
  unfold foldZ upZ evenZ oddZ
  repeat' split
  all_goals omega
set_option maxRecDepth 100000 in
theorem once_near : ∀ n : Nat, n < 1642 → foldZ (foldZ ((n : Nat) : Int)) = foldZ ((n : Nat) : Int) ∧ classZ (foldZ ((n : Nat) : Int)) = classZ ((n : Nat) : Int) := by decide +kernel
set_option maxRecDepth 100000 in
/-- Once is enough. -/
theorem fold_once (r : Int) : foldZ (foldZ r) = foldZ r ∧ classZ (foldZ r) = classZ r := by
  by_cases h : r < 0 ∨ 1641 < r
  · rw [fold_far h, fold_far h]
    exact ⟨rfl, rfl⟩
  · obtain ⟨n, rfl⟩ := Int.eq_ofNat_of_zero_le (by omega : 0 ≤ r)
    exact once_near n (by omega)
set_option maxRecDepth 100000 in
theorem fold_plain {r : Int} (h : classZ r = 0) : foldZ r = r := by
  have h1 : ¬ digitZ r := fun hd => by simp [classZ, hd] at h
  have h2 : ¬ letterZ r := fun hd => by simp [classZ, h1, hd] at h
  clear h
  unfold foldZ upZ evenZ oddZ
  unfold digitZ letterZ at *
  repeat' split
  all_goals omega
set_option maxRecDepth 100000 in
theorem fold_i32 {r : Int} (h0 : -2147483648 ≤ r) (h1 : r ≤ 2147483647) : -2147483648 ≤ foldZ r ∧ foldZ r ≤ 2147483647 := by
  unfold foldZ upZ evenZ oddZ
  repeat' split
  all_goals omega

/-! ### No more than three -/
/-- The numbers that fold to f beside f itself. -/
def first (f : Int) : Int :=
  if 97 ≤ f ∧ f ≤ 122 ∨ 224 ≤ f ∧ f ≤ 254 ∨ 945 ≤ f ∧ f ≤ 971 ∨ 1072 ≤ f ∧ f ≤ 1103 then f - 32
  else if f = 255 then 376 else if f = 940 then 902 else if f = 972 then 908
  else if 941 ≤ f ∧ f ≤ 943 then f - 37 else if 973 ≤ f ∧ f ≤ 974 then f - 63 else if 1104 ≤ f ∧ f ≤ 1119 then f - 80 else if 48 ≤ f ∧ f ≤ 57 then f + 1584
  else f - 1
def second (f : Int) : Int := if f = 115 then 383 else if f = 963 then 962 else f
set_option maxRecDepth 100000 in
theorem few_near : ∀ n : Nat, n < 1642 → (n : Int) = foldZ ((n : Nat) : Int) ∨ (n : Int) = first (foldZ ((n : Nat) : Int)) ∨ (n : Int) = second (foldZ ((n : Nat) : Int)) := by decide +kernel
set_option maxRecDepth 100000 in
theorem fold_few (r : Int) : r = foldZ r ∨ r = first (foldZ r) ∨ r = second (foldZ r) := by
  by_cases h : r < 0 ∨ 1641 < r
  · exact .inl (fold_far h).symm
  · obtain ⟨n, rfl⟩ := Int.eq_ofNat_of_zero_le (by omega : 0 ≤ r)
    exact few_near n (by omega)
set_option maxRecDepth 100000 in
theorem few_of {a b c d f : Int} (ha : foldZ a = f) (hb : foldZ b = f) (hc : foldZ c = f) (hd : foldZ d = f) : a = b ∨ a = c ∨ a = d ∨ b = c ∨ b = d ∨ c = d := by
  have h1 := fold_few a
  have h2 := fold_few b
  have h3 := fold_few c
  have h4 := fold_few d
  rw [ha] at h1; rw [hb] at h2; rw [hc] at h3; rw [hd] at h4
  generalize first f = x at *
  generalize second f = y at *
  omega
end Go.Proofs.YtaaeooimalglaaaDoor
