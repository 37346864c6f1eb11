/-
  A text's runes and runes' text, as lists of numbers, without the program's text: there and back, byte by byte, how many.
-/
import Derived.Test.YtaaeooimalglaaaDoorUtfPure
namespace Go.Proofs.YtaaeooimalglaaaDoor
open Go.RowKit

/-- The rune that a list of bytes begins with, and its length. -/
def decL (L : List Nat) : Nat × Nat := dec4 (L.getD 0 0) (L.getD 1 0) (L.getD 2 0) (L.getD 3 0)
def runesN : Nat → List Nat → List Nat
  | 0, _ => []
  | n + 1, L => if L = [] then [] else (decL L).1 :: runesN n (L.drop (decL L).2)
/-- A text's runes. -/
def runesL (L : List Nat) : List Nat := runesN L.length L
/-- Runes' bytes. -/
def textL (l : List Nat) : List Nat := l.flatMap encR

set_option maxRecDepth 100000 in
theorem decL_len (L : List Nat) : 1 ≤ (decL L).2 ∧ (decL L).2 ≤ 4 := dec4_len _ _ _ _
set_option maxRecDepth 100000 in
theorem decL_in (L : List Nat) (h : L ≠ []) : (decL L).2 ≤ L.length := by
  obtain ⟨h1, h2, h3⟩ := dec4_in (L.getD 0 0) (L.getD 1 0) (L.getD 2 0) (L.getD 3 0)
  have h4 := (decL_len L).2
  have h0 : L.length ≠ 0 := by simpa using h
  have g : ∀ i, L.length ≤ i → L.getD i 0 = 0 := fun i hi => by simp [List.getD_eq_getElem?_getD, List.getElem?_eq_none hi]
  change (2 ≤ (decL L).2 → _) at h1
  change (3 ≤ (decL L).2 → _) at h2
  change (4 ≤ (decL L).2 → _) at h3
  by_cases e : (decL L).2 ≤ L.length
  · exact e
  · by_cases e1 : L.length ≤ 1
    · exact absurd (g 1 e1) (h1 (by omega))
    · by_cases e2 : L.length ≤ 2
      · exact absurd (g 2 e2) (h2 (by omega))
      · exact absurd (g 3 (by omega)) (h3 (by omega))
set_option maxRecDepth 100000 in
theorem runesN_enough : ∀ (n m : Nat) (L : List Nat), L.length ≤ n → L.length ≤ m → runesN n L = runesN m L
  | 0, m, L, h, _ => by
    obtain rfl := List.eq_nil_of_length_eq_zero (show L.length = 0 by omega)
    cases m <;> simp [runesN]
  | n + 1, 0, L, _, h => by
    obtain rfl := List.eq_nil_of_length_eq_zero (show L.length = 0 by omega)
    simp [runesN]
  | n + 1, m + 1, L, h1, h2 => by
    unfold runesN
    split
    · rfl
    · have := (decL_len L).1
      rw [runesN_enough n m _ (by simp; omega) (by simp; omega)]
set_option maxRecDepth 100000 in
theorem runesL_nil : runesL [] = [] := rfl
set_option maxRecDepth 100000 in
theorem runesL_step {L : List Nat} (h : L ≠ []) : runesL L = (decL L).1 :: runesL (L.drop (decL L).2) := by
  have h1 := (decL_len L).1
  have h2 : L.length ≠ 0 := by simpa using h
  obtain ⟨n, hn⟩ : ∃ n, L.length = n + 1 := ⟨L.length - 1, by omega⟩
  unfold runesL
  rw [hn]
  conv => lhs; unfold runesN
  rw [if_neg h, runesN_enough n _ _ (by simp; omega) (Nat.le_refl _)]
set_option maxRecDepth 100000 in
/-- By the list's length. -/
theorem runes_ind {P : List Nat → Prop} (h0 : P []) (h1 : ∀ L, L ≠ [] → P (L.drop (decL L).2) → P L) : ∀ L, P L := by
  intro L
  generalize hn : L.length = n
  induction n using Nat.strongRecOn generalizing L with
  | _ n ih =>
    by_cases h : L = []
    · rw [h]; exact h0
    · have := (decL_len L).1
      have h2 : L.length ≠ 0 := by simpa using h
      exact h1 L h (ih (L.drop (decL L).2).length (by simp; omega) _ rfl)
set_option maxRecDepth 100000 in
theorem runesL_ok (L : List Nat) : ∀ r ∈ runesL L, okR r := by
  induction L using runes_ind with
  | h0 => simp [runesL_nil]
  | h1 L h ih =>
    rw [runesL_step h]
    intro r hr
    rcases List.mem_cons.1 hr with rfl | hr
    · exact dec4_ok _ _ _ _
    · exact ih r hr
set_option maxRecDepth 100000 in
theorem runesL_many (L : List Nat) : (runesL L).length ≤ L.length ∧ L.length ≤ 4 * (runesL L).length := by
  induction L using runes_ind with
  | h0 => simp [runesL_nil]
  | h1 L h ih =>
    rw [runesL_step h]
    have h1 := decL_len L
    have h2 := decL_in L h
    simp only [List.length_drop, List.length_cons] at ih ⊢
    omega
set_option maxRecDepth 100000 in
theorem encR_len (r : Nat) : 1 ≤ (encR r).length ∧ (encR r).length ≤ 4 := by
  unfold encR
  repeat' split
  all_goals simp
set_option maxRecDepth 100000 in
theorem decL_enc {r : Nat} (h : okR r) (L : List Nat) : decL (encR r ++ L) = (r, (encR r).length) := by
  rw [← dec4_enc h (L.getD 0 0) (L.getD 1 0) (L.getD 2 0)]
  unfold decL
  have key : ∀ i, i < 4 → (encR r ++ L).getD i 0 = (encR r ++ [L.getD 0 0, L.getD 1 0, L.getD 2 0]).getD i 0 := by
    intro i hi
    have h1 := encR_len r
    simp only [List.getD_eq_getElem?_getD]
    by_cases e : i < (encR r).length
    · rw [List.getElem?_append_left e, List.getElem?_append_left e]
    · rw [List.getElem?_append_right (by omega), List.getElem?_append_right (by omega)]
      obtain ⟨j, hj⟩ : ∃ j, j = i - (encR r).length := ⟨_, rfl⟩
      rw [← hj]
      have : j < 3 := by omega
      match j, this with
      | 0, _ => simp
      | 1, _ => simp
      | 2, _ => simp
  rw [key 0 (by omega), key 1 (by omega), key 2 (by omega), key 3 (by omega)]
set_option maxRecDepth 100000 in
theorem runesL_enc {r : Nat} (h : okR r) (L : List Nat) : runesL (encR r ++ L) = r :: runesL L := by
  have h1 := encR_len r
  have hne : encR r ++ L ≠ [] := by
    intro e
    have := congrArg List.length e
    simp only [List.length_append, List.length_nil] at this
    omega
  rw [runesL_step hne, decL_enc h]
  simp
set_option maxRecDepth 100000 in
/-- Runes of runes' text are they. -/
theorem runes_text (l : List Nat) (h : ∀ r ∈ l, okR r) (L : List Nat) : runesL (textL l ++ L) = l ++ runesL L := by
  induction l with
  | nil => simp [textL]
  | cons r l ih =>
    have e : textL (r :: l) = encR r ++ textL l := by simp [textL]
    rw [e, List.append_assoc, runesL_enc (h r (by simp)), ih fun x hx => h x (by simp [hx])]
    rfl
set_option maxRecDepth 100000 in
/-- A text of nothing but runes' bytes is its runes' text. -/
theorem text_runes (L : List Nat) (hb : ∀ b ∈ L, b < 256) (h : ∀ r ∈ runesL L, r ≠ 65533) : textL (runesL L) = L := by
  induction L using runes_ind with
  | h0 => simp [runesL_nil, textL]
  | h1 L hne ih =>
    rw [runesL_step hne] at h ⊢
    have e : textL ((decL L).1 :: runesL (L.drop (decL L).2)) = encR (decL L).1 ++ textL (runesL (L.drop (decL L).2)) := by simp [textL]
    rw [e, ih (fun b hb' => hb b (List.mem_of_mem_drop hb')) (fun r hr => h r (by simp [hr]))]
    have ha : L.getD 0 0 < 256 := by
      cases L with
      | nil => exact absurd rfl hne
      | cons a t => exact hb a (by simp)
    rw [enc_dec4 (r := (decL L).1) (k := (decL L).2) ha rfl (h _ (by simp))]
    have hin := decL_in L hne
    have h4 := (decL_len L).2
    have ht : [L.getD 0 0, L.getD 1 0, L.getD 2 0, L.getD 3 0].take (decL L).2 = L.take (decL L).2 := by
      apply List.ext_getElem?
      intro i
      simp only [List.getElem?_take]
      split
      · rename_i hi
        have : i < 4 := by omega
        rw [List.getElem?_eq_getElem (show i < L.length by omega)]
        match i, this with
        | 0, _ => simp [List.getD_eq_getElem?_getD, List.getElem?_eq_getElem (show 0 < L.length by omega)]
        | 1, _ => simp [List.getD_eq_getElem?_getD, List.getElem?_eq_getElem (show 1 < L.length by omega)]
        | 2, _ => simp [List.getD_eq_getElem?_getD, List.getElem?_eq_getElem (show 2 < L.length by omega)]
        | 3, _ => simp [List.getD_eq_getElem?_getD, List.getElem?_eq_getElem (show 3 < L.length by omega)]
      · rfl
    rw [ht, List.take_append_drop]
set_option maxRecDepth 100000 in
theorem decL_cut (A : List Nat) (c : Nat) (B : List Nat) (hc : c < 128) (hA : A ≠ []) : decL (A ++ c :: B) = decL A := by
  unfold decL
  match A, hA with
  | [a], _ =>
    simp only [List.cons_append, List.nil_append, List.getD_cons_zero, List.getD_cons_succ, List.getD_nil]
    exact (dec4_cut a c _ _).1 hc
  | [a, b], _ =>
    simp only [List.cons_append, List.nil_append, List.getD_cons_zero, List.getD_cons_succ, List.getD_nil]
    exact (dec4_cut a b c _).2.1 hc
  | [a, b, d], _ =>
    simp only [List.cons_append, List.nil_append, List.getD_cons_zero, List.getD_cons_succ, List.getD_nil]
    exact (dec4_cut a b d c).2.2 hc
  | a :: b :: d :: e :: t, _ => simp
set_option maxRecDepth 100000 in
/-- Behind a letter below 128 all is read as if nothing had stood ahead of it. -/
theorem runes_apart (c : Nat) (B : List Nat) (hc : c < 128) (A : List Nat) : runesL (A ++ c :: B) = runesL A ++ c :: runesL B := by
  induction A using runes_ind with
  | h0 =>
    have h1 : decL (c :: B) = (c, 1) := by simp [decL, dec4, hc]
    rw [List.nil_append, runesL_nil, List.nil_append, runesL_step (by simp), h1]
    simp
  | h1 A hA ih =>
    rw [runesL_step (show A ++ c :: B ≠ [] by simp), runesL_step hA, decL_cut A c B hc hA, List.drop_append_of_le_length (decL_in A hA), ih]
    rfl
end Go.Proofs.YtaaeooimalglaaaDoor
